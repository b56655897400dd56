/- Sixteen bytes as elements of a great field. -/
import Derived.Test.YtpdkdeebdhdhgaaFieldMath
namespace Go.Proofs.Ytpdkdeebdhdhgaa
open Go.RowKit

abbrev G := BitVec 128
/-- x to the i. -/
def xi (i : Nat) : G := BitVec.twoPow 128 i
theorem xi_bit (i j : Nat) (hi : i < 128) : (xi i).getLsbD j = decide (j = i) := by
  unfold xi
  rw [BitVec.getLsbD_twoPow]
  by_cases h : j = i
  · subst h; simp [hi]
  · simp [h, Ne.symm h]
/-- The sum of f at the bits of b, of the first n. -/
def sumBits {m : Nat} (f : Nat → BitVec m) (b : G) : Nat → BitVec m
  | 0 => 0
  | n + 1 => sumBits f b n ^^^ cx (b.getLsbD n) (f n)
theorem sumBits_add {m : Nat} (f : Nat → BitVec m) (n : Nat) : Add (fun b => sumBits f b n) := by
  induction n with
  | zero => intro x y; simp [sumBits]
  | succ n ih =>
    intro x y
    have e := ih x y
    simp only [sumBits] at e ⊢
    rw [e, BitVec.getLsbD_xor, cx_xor, x4]
theorem sumBits_map {m k : Nat} {g : BitVec m → BitVec k} (hg : Add g) (f : Nat → BitVec m) (b : G) (n : Nat) : g (sumBits f b n) = sumBits (fun i => g (f i)) b n := by
  induction n with
  | zero => exact hg.zero
  | succ n ih =>
    show g (sumBits f b n ^^^ cx (b.getLsbD n) (f n)) = sumBits (fun i => g (f i)) b n ^^^ cx (b.getLsbD n) (g (f n))
    rw [hg, ih, hg.cx]
theorem sumBits_congr {m : Nat} {f g : Nat → BitVec m} (b : G) (n : Nat) (h : ∀ i, i < n → f i = g i) : sumBits f b n = sumBits g b n := by
  induction n with
  | zero => rfl
  | succ n ih =>
    show sumBits f b n ^^^ cx _ (f n) = sumBits g b n ^^^ cx _ (g n)
    rw [ih (fun i hi => h i (by omega)), h n (by omega)]
theorem sumBits_xi_bit (b : G) (n : Nat) (hn : n ≤ 128) (j : Nat) : (sumBits xi b n).getLsbD j = (decide (j < n) && b.getLsbD j) := by
  induction n with
  | zero => simp [sumBits]
  | succ n ih =>
    show (sumBits xi b n ^^^ cx (b.getLsbD n) (xi n)).getLsbD j = _
    rw [BitVec.getLsbD_xor, ih (by omega)]
    have e : (cx (b.getLsbD n) (xi n)).getLsbD j = (b.getLsbD n && decide (j = n)) := by
      cases hb : b.getLsbD n
      · simp [cx]
      · simp [cx, xi_bit n j (by omega)]
    rw [e]
    by_cases h1 : j = n
    · subst h1; simp
    · by_cases h2 : j < n
      · simp [h1, h2, show j < n + 1 by omega]
      · simp [h1, h2, show ¬ j < n + 1 by omega]
theorem sumBits_xi (b : G) : sumBits xi b 128 = b := by
  apply BitVec.eq_of_getLsbD_eq
  intro i hi
  rw [sumBits_xi_bit b 128 (Nat.le_refl _)]
  simp [hi]
/-- Two additive maps that agree at the powers of x agree. -/
theorem gext {m : Nat} {f g : G → BitVec m} (hf : Add f) (hg : Add g) (h : ∀ i, i < 128 → f (xi i) = g (xi i)) (b : G) : f b = g b := by
  rw [← sumBits_xi b, sumBits_map hf, sumBits_map hg]
  exact sumBits_congr b 128 h

/-- Times x. -/
def mx (a : G) : G := (a <<< 1) ^^^ cx (a.getLsbD 127) 0x87#128
def mxs : Nat → G → G
  | 0, a => a
  | n + 1, a => mx (mxs n a)
/-- The product. -/
def gm (a b : G) : G := sumBits (fun i => mxs i a) b 128
theorem mx_add : Add mx := by
  intro x y
  unfold mx
  rw [BitVec.shiftLeft_xor_distrib, BitVec.getLsbD_xor, cx_xor, x4]
theorem mxs_add (n : Nat) : Add (mxs n) := by
  induction n with
  | zero => intro x y; rfl
  | succ n ih => exact Add.comp (g := mx) (f := mxs n) mx_add ih
theorem mxs_plus (i j : Nat) (a : G) : mxs (i + j) a = mxs i (mxs j a) := by
  induction i with
  | zero => rw [Nat.zero_add]; rfl
  | succ i ih =>
    rw [Nat.succ_add]
    show mx (mxs (i + j) a) = mx (mxs i (mxs j a))
    rw [ih]
theorem gm_right (a : G) : Add (fun b => gm a b) := sumBits_add _ 128
theorem sum_two {m : Nat} (f g : Nat → BitVec m) (b : G) (n : Nat) : sumBits (fun i => f i ^^^ g i) b n = sumBits f b n ^^^ sumBits g b n := by
  induction n with
  | zero => simp [sumBits]
  | succ n ih =>
    show sumBits (fun i => f i ^^^ g i) b n ^^^ cx (b.getLsbD n) (f n ^^^ g n) = (sumBits f b n ^^^ cx (b.getLsbD n) (f n)) ^^^ (sumBits g b n ^^^ cx (b.getLsbD n) (g n))
    rw [ih, cx_add, x4]
theorem gm_left (b : G) : Add (fun a => gm a b) := by
  intro x y
  show sumBits (fun i => mxs i (x ^^^ y)) b 128 = gm x b ^^^ gm y b
  rw [sumBits_congr (g := fun i => mxs i x ^^^ mxs i y) b 128 (fun i _ => mxs_add i x y), sum_two]
  rfl
theorem units : ∀ i, i < 128 → mxs i 1#128 = BitVec.ofNat 128 (2 ^ i) := by decide +kernel
theorem unit_xi (i : Nat) (h : i < 128) : mxs i 1#128 = xi i := by
  rw [units i h]
  apply BitVec.eq_of_toNat_eq
  unfold xi
  rw [BitVec.toNat_twoPow, BitVec.toNat_ofNat]
theorem sumBits_one {m : Nat} (f : Nat → BitVec m) (i : Nat) (hi : i < 128) (n : Nat) : sumBits f (xi i) n = cx (decide (i < n)) (f i) := by
  induction n with
  | zero => rfl
  | succ n ih =>
    show sumBits f (xi i) n ^^^ cx ((xi i).getLsbD n) (f n) = _
    rw [ih, xi_bit i n hi]
    by_cases h1 : n = i
    · subst h1; simp [cx]
    · by_cases h2 : i < n
      · simp [cx, h1, h2, show i < n + 1 by omega]
      · simp [cx, h1, h2, show ¬ i < n + 1 by omega]
theorem gm_xi (a : G) (i : Nat) (hi : i < 128) : gm a (xi i) = mxs i a := by
  unfold gm
  rw [sumBits_one _ i hi]
  simp [cx, hi]
theorem gm_mxs (i : Nat) (a b : G) : gm (mxs i a) b = mxs i (gm a b) := by
  unfold gm
  rw [sumBits_map (mxs_add i)]
  exact sumBits_congr b 128 (fun j _ => by rw [← mxs_plus, ← mxs_plus, Nat.add_comm])
theorem one_gm (b : G) : gm 1#128 b = b := by
  refine gext (f := fun b => gm 1#128 b) (g := fun b => b) (gm_right _) (fun _ _ => rfl) (fun i hi => ?_) b
  show gm 1#128 (xi i) = xi i
  rw [gm_xi _ i hi, unit_xi i hi]
theorem gm_comm (a b : G) : gm a b = gm b a := by
  refine gext (f := fun a => gm a b) (g := fun a => gm b a) (gm_left b) (gm_right b) (fun i hi => ?_) a
  show gm (xi i) b = gm b (xi i)
  rw [gm_xi _ i hi, ← unit_xi i hi, gm_mxs, one_gm]
theorem gm_one (a : G) : gm a 1#128 = a := by rw [gm_comm, one_gm]
theorem gm_zero (a : G) : gm a 0#128 = 0#128 := (gm_right a).zero
theorem zero_gm (a : G) : gm 0#128 a = 0#128 := (gm_left a).zero
theorem gm_assoc (a b c : G) : gm a (gm b c) = gm (gm a b) c := by
  refine gext (f := fun a => gm a (gm b c)) (g := fun a => gm (gm a b) c) (gm_left _) (Add.comp (g := fun y => gm y c) (f := fun a => gm a b) (gm_left c) (gm_left b)) (fun i hi => ?_) a
  show gm (xi i) (gm b c) = gm (gm (xi i) b) c
  rw [← unit_xi i hi, gm_mxs, gm_mxs, gm_mxs, one_gm, one_gm]

/-- The square. -/
def sqr (a : G) : G := gm a a
theorem sqr_add : Add sqr := by
  intro x y
  unfold sqr
  have h1 : gm (x ^^^ y) (x ^^^ y) = gm x (x ^^^ y) ^^^ gm y (x ^^^ y) := gm_left _ x y
  have h2 : gm x (x ^^^ y) = gm x x ^^^ gm x y := gm_right x x y
  have h3 : gm y (x ^^^ y) = gm y x ^^^ gm y y := gm_right y x y
  rw [h1, h2, h3, gm_comm y x]
  have e : ∀ p q r : G, (p ^^^ q) ^^^ (q ^^^ r) = p ^^^ r := by
    intro p q r
    rw [BitVec.xor_assoc, ← BitVec.xor_assoc q q r, BitVec.xor_self, BitVec.zero_xor]
  exact e _ _ _
theorem gm4 (a b c d : G) : gm (gm a b) (gm c d) = gm (gm a c) (gm b d) := by
  rw [← gm_assoc, gm_assoc b c d, gm_comm b c, ← gm_assoc c b d, gm_assoc]
theorem sqr_gm (a b : G) : sqr (gm a b) = gm (sqr a) (sqr b) := by unfold sqr; exact gm4 a b a b
def sqrs : Nat → G → G
  | 0, a => a
  | n + 1, a => sqr (sqrs n a)
theorem sqrs_add (n : Nat) : Add (sqrs n) := by
  induction n with
  | zero => intro x y; rfl
  | succ n ih => exact Add.comp (g := sqr) (f := sqrs n) sqr_add ih
theorem sqrs_gm (n : Nat) (a b : G) : sqrs n (gm a b) = gm (sqrs n a) (sqrs n b) := by
  induction n with
  | zero => rfl
  | succ n ih => show sqr (sqrs n (gm a b)) = gm (sqr (sqrs n a)) (sqr (sqrs n b)); rw [ih, sqr_gm]
theorem sqr_one : sqr 1#128 = 1#128 := one_gm _
theorem sqrs_one (n : Nat) : sqrs n 1#128 = 1#128 := by
  induction n with
  | zero => rfl
  | succ n ih => show sqr (sqrs n 1#128) = _; rw [ih, sqr_one]
/-- The squares of the powers of x. -/
def sqTab : List Nat := [1, 4, 16, 64, 256, 1024, 4096, 16384, 65536, 262144, 1048576, 4194304, 16777216, 67108864, 268435456, 1073741824, 4294967296, 17179869184, 68719476736, 274877906944, 1099511627776, 4398046511104, 17592186044416, 70368744177664, 281474976710656, 1125899906842624, 4503599627370496, 18014398509481984, 72057594037927936, 288230376151711744, 1152921504606846976, 4611686018427387904, 18446744073709551616, 73786976294838206464, 295147905179352825856, 1180591620717411303424, 4722366482869645213696, 18889465931478580854784, 75557863725914323419136, 302231454903657293676544, 1208925819614629174706176, 4835703278458516698824704, 19342813113834066795298816, 77371252455336267181195264, 309485009821345068724781056, 1237940039285380274899124224, 4951760157141521099596496896, 19807040628566084398385987584, 79228162514264337593543950336, 316912650057057350374175801344, 1267650600228229401496703205376, 5070602400912917605986812821504, 20282409603651670423947251286016, 81129638414606681695789005144064, 324518553658426726783156020576256, 1298074214633706907132624082305024, 5192296858534827628530496329220096, 20769187434139310514121985316880384, 83076749736557242056487941267521536, 332306998946228968225951765070086144, 1329227995784915872903807060280344576, 5316911983139663491615228241121378304, 21267647932558653966460912964485513216, 85070591730234615865843651857942052864, 135, 540, 2160, 8640, 34560, 138240, 552960, 2211840, 8847360, 35389440, 141557760, 566231040, 2264924160, 9059696640, 36238786560, 144955146240, 579820584960, 2319282339840, 9277129359360, 37108517437440, 148434069749760, 593736278999040, 2374945115996160, 9499780463984640, 37999121855938560, 151996487423754240, 607985949695016960, 2431943798780067840, 9727775195120271360, 38911100780481085440, 155644403121924341760, 622577612487697367040, 2490310449950789468160, 9961241799803157872640, 39844967199212631490560, 159379868796850525962240, 637519475187402103848960, 2550077900749608415395840, 10200311602998433661583360, 40801246411993734646333440, 163204985647974938585333760, 652819942591899754341335040, 2611279770367599017365340160, 10445119081470396069461360640, 41780476325881584277845442560, 167121905303526337111381770240, 668487621214105348445527080960, 2673950484856421393782108323840, 10695801939425685575128433295360, 42783207757702742300513733181440, 171132831030810969202054932725760, 684531324123243876808219730903040, 2738125296492975507232878923612160, 10952501185971902028931515694448640, 43810004743887608115726062777794560, 175240018975550432462904251111178240, 700960075902201729851617004444712960, 2803840303608806919406468017778851840, 11215361214435227677625872071115407360, 44861444857740910710503488284461629440, 179445779430963642842013953137846517760, 37218383881977644441306597687849648398, 148873535527910577765226390751398593592, 255211775190703847597530955573826162791]
def sqAt (i : Nat) : G := BitVec.ofNat 128 (sqTab.getD i 0)
theorem sqTab_eq : ∀ i, i < 128 → mxs (2 * i) 1#128 = sqAt i := by decide +kernel
theorem sqr_xi (i : Nat) (hi : i < 128) : sqr (xi i) = sqAt i := by
  unfold sqr
  rw [gm_xi _ i hi, ← unit_xi i hi, ← mxs_plus, ← sqTab_eq i hi, Nat.two_mul]
theorem sqr_eq (a : G) : sqr a = sumBits sqAt a 128 := by
  refine gext (f := sqr) (g := fun a => sumBits sqAt a 128) sqr_add (sumBits_add _ 128) (fun i hi => ?_) a
  show sqr (xi i) = sumBits sqAt (xi i) 128
  rw [sqr_xi i hi, sumBits_one _ i hi]
  simp [cx, hi]
def sqrT : Nat → G → G
  | 0, a => a
  | n + 1, a => sumBits sqAt (sqrT n a) 128
theorem sqrT_eq (n : Nat) (a : G) : sqrs n a = sqrT n a := by
  induction n with
  | zero => rfl
  | succ n ih => show sqr (sqrs n a) = sumBits sqAt (sqrT n a) 128; rw [ih, sqr_eq]
theorem round_x : sqrT 128 2#128 = 2#128 := by decide +kernel
theorem sqrs_all (a : G) : sqrs 128 a = a := by
  have hx : ∀ i, sqrs 128 (mxs i 1#128) = mxs i 1#128 := by
    intro i
    induction i with
    | zero => exact sqrs_one 128
    | succ i ih =>
      have e : ∀ a : G, mx a = gm 2#128 a := by
        intro a
        rw [gm_comm]
        have := gm_xi a 1 (by decide)
        rw [show xi 1 = 2#128 by decide] at this
        exact this.symm
      show sqrs 128 (mx (mxs i 1#128)) = mx (mxs i 1#128)
      rw [e, sqrs_gm, ih, sqrT_eq, round_x]
  refine gext (f := sqrs 128) (g := fun a => a) (sqrs_add 128) (fun _ _ => rfl) (fun i hi => ?_) a
  show sqrs 128 (xi i) = xi i
  rw [← unit_xi i hi]; exact hx i
/-- What leads from the difference of a square and its root back to the root, but for its first bit. -/
def rootTab : List Nat := [54969562866131847669016652494142573320, 305526867633558886955404559995676324868, 305526867633558886955404559995676324870, 104469799312523126935073530960423461388, 305526867633558886955404559995676324866, 56734434906695435454005472259553578602, 104469799312523126935073530960423461380, 271830150077582418345900040240152313368, 305526867633558886955404559995676324882, 104470118804432205535668098632526617412, 56734434906695435454005472259553578570, 227145695117876428321601179286510436182, 104469799312523126935073530960423461444, 305967500991204419130524647600360013666, 271830150077582418345900040240152313496, 227728627380917811012951187023350445606, 305526867633558886955404559995676325138, 56815181714465587187729576693626853178, 104470118804432205535668098632526616900, 2537993204061707162883588357039153916, 56734434906695435454005472259553577546, 3012428575888700110705650160495551628, 227145695117876428321601179286510434134, 275671395948664093117384310641479295528, 104469799312523126935073530960423465540, 271915852323952067842399232303023203416, 305967500991204419130524647600360005474, 102998777379450204286412735627287799860, 271830150077582418345900040240152297112, 272209106874770544727132909282711537316, 227728627380917811012951187023350412838, 135325830696997074197434372310186257282, 305526867633558886955404559995676390674, 57232084741685004684866676497372669754, 56815181714465587187729576693626984250, 135411474552265958872087683058005180738, 104470118804432205535668098632526879044, 275757512462385460142162890854388625828, 2537993204061707162883588357039678204, 274842411402277094064293402576501149528, 56734434906695435454005472259554626122, 175382474467339210118195525752143821788, 3012428575888700110705650160497648780, 5261797816253387317062014170447638976, 227145695117876428321601179286514628438, 272210066766835802062006483639670336468, 275671395948664093117384310641470906920, 225136856268418471551472419225175749014, 104469799312523126935073530960440242756, 102164174349821125137969924442995585924, 271915852323952067842399232302989648984, 226936647763116174786496543602468507498, 305967500991204419130524647600427114338, 305532029585887981283514747020026657774, 102998777379450204286412735627422017588, 133211003395652039953403666705387164366, 271830150077582418345900040239883861656, 102148097239065330920971689869502701364, 272209106874770544727132909283248408228, 173139448164521758332819425568250980204, 227728627380917811012951187022276671014, 305961988162602755697098987302884752222, 135325830696997074197434372312333740930, 175397880387343143921058595535091746080, 305526867633558886955404559991381423378, 329634352286836299080082914081100, 57232084741685004684866676505962604346, 172705286512742171128536335012890908524, 56815181714465587187729576710806853434, 303614986222712004812458293485509624930, 135411474552265958872087683023645442370, 170536380025231687221712635462198253856, 104470118804432205535668098701246355780, 225051247907070202050589524227723711914, 275757512462385460142162890991827579300, 308170559265311564786252692292247708062, 2537993204061707162883588082161771260, 102169133813289299704984590013427707636, 274842411402277094064293402026745335640, 303326766809063102477989677003176958226, 56734434906695435454005473359066253898, 172841837191359616877872241477191677152, 175382474467339210118195523553120566236, 54888141419452711199816878900948880442, 3012428575888700110705654558544159884, 307799342647640341558117533281787318686, 5261797816253387317062022966540661184, 273119276677551945356669168913118222868, 227145695117876428321601196878700672854, 272311600527812781647585363233504111460, 272210066766835802062006518824042425300, 5181299727675599870287693023180209980, 275671395948664093117384240272726729256, 305525142620375929691910208574098026146, 225136856268418471551472278487687393686, 307772801086609188417528170053220769746, 104469799312523126935073249485463532100, 54596111748351997025280216654447342278, 102164174349821125137970487392949007236, 308164931596625094656266467235253809106, 271915852323952067842398106403082806360, 227647953955287367714133036452945544742, 226936647763116174786494291802654822250, 308170555145571807541189819739699809694, 305967500991204419130520144000799743842, 133105130754254600986622393405343152142, 305532029585887981283523754219281398766, 172410759080424577518324870893406614048, 102998777379450204286394721228912535604, 54969320214588899006126198736319185926, 133211003395652039953439695502406128334, 227375442280390979429973553919662004774, 271830150077582418345827982645845933720, 4955917326648230773508684280683823104, 102148097239065330921115805057578557236, 172885700256406002458384310923462859152, 272209106874770544726844678907096696484, 56538291399058816093646072645906817530, 173139448164521758332242964815947556716, 55418003596362017635628740176384579466, 227728627380917811014104108526883517990, 0, 305961988162602755699404830312098446174, 178356100567250831900639352525185366892, 135325830696997074202046058330761128834, 189481146061086134017106552491789565356, 175397880387343143911835223498236970272, 75361565302940573017734093940626417402]
def rootAt (i : Nat) : G := BitVec.ofNat 128 (rootTab.getD i 0)
def root (a : G) : G := sumBits rootAt a 128
theorem root_bits : ∀ i, i < 128 → root (sqAt i ^^^ BitVec.ofNat 128 (2 ^ i)) = BitVec.ofNat 128 (2 ^ i) ^^^ cx (decide (i = 0)) 1#128 := by decide +kernel
theorem first_add : Add (fun a : G => cx (a.getLsbD 0) 1#128) := by
  intro x y
  show cx ((x ^^^ y).getLsbD 0) 1#128 = _
  rw [BitVec.getLsbD_xor, cx_xor]
theorem root_eq (a : G) : root (sqr a ^^^ a) = a ^^^ cx (a.getLsbD 0) 1#128 := by
  have ha : Add (fun a : G => sqr a ^^^ a) := by
    intro x y
    show sqr (x ^^^ y) ^^^ (x ^^^ y) = _
    rw [sqr_add, x4]
  have hb : Add (fun a : G => a ^^^ cx (a.getLsbD 0) 1#128) := by
    intro x y
    show (x ^^^ y) ^^^ cx ((x ^^^ y).getLsbD 0) 1#128 = _
    rw [BitVec.getLsbD_xor, cx_xor, x4]
  refine gext (f := fun a => root (sqr a ^^^ a)) (g := fun a => a ^^^ cx (a.getLsbD 0) 1#128) (Add.comp (g := root) (f := fun a => sqr a ^^^ a) (sumBits_add _ 128) ha) hb (fun i hi => ?_) a
  show root (sqr (xi i) ^^^ xi i) = xi i ^^^ cx ((xi i).getLsbD 0) 1#128
  rw [sqr_xi i hi, xi_bit i 0 hi]
  have e : xi i = BitVec.ofNat 128 (2 ^ i) := by rw [← unit_xi i hi, units i hi]
  rw [e, root_bits i hi]
  by_cases h0 : i = 0
  · subst h0; rfl
  · have h1 : ¬ (0 = i) := fun h => h0 h.symm
    simp [h0, h1]
/-- What is its own square is 0 or 1. -/
theorem own_square {e : G} (h : sqr e = e) : e = 0#128 ∨ e = 1#128 := by
  have h1 := root_eq e
  rw [h, BitVec.xor_self] at h1
  have h2 : root 0#128 = 0#128 := (show Add root from sumBits_add _ 128).zero
  rw [h2] at h1
  cases hb : e.getLsbD 0
  · rw [hb] at h1
    left
    have : cx false 1#128 = (0#128 : G) := rfl
    rw [this, BitVec.xor_zero] at h1
    exact h1.symm
  · rw [hb] at h1
    right
    have : cx true 1#128 = (1#128 : G) := rfl
    rw [this] at h1
    have h3 := congrArg (fun y => y ^^^ 1#128) h1
    simp only [BitVec.xor_assoc, BitVec.xor_self, BitVec.xor_zero, BitVec.zero_xor] at h3
    exact h3.symm
/-- a to the 2^k - 1. -/
def less1 (a : G) : Nat → G
  | 0 => 1#128
  | k + 1 => gm (sqr (less1 a k)) a
theorem less1_gm (a : G) (k : Nat) : gm (less1 a k) a = sqrs k a := by
  induction k with
  | zero => exact one_gm a
  | succ k ih =>
    show gm (gm (sqr (less1 a k)) a) a = sqr (sqrs k a)
    rw [← ih, sqr_gm, ← gm_assoc]
    rfl
def ginv (a : G) : G := sqr (less1 a 127)
theorem less_all (a : G) : less1 a 128 = gm (ginv a) a := rfl
theorem gm_ginv (a : G) (h : a ≠ 0#128) : gm a (ginv a) = 1#128 := by
  have h1 : gm (less1 a 128) a = a := by rw [less1_gm, sqrs_all]
  have h2 : sqr (less1 a 128) = less1 a 128 := by
    unfold sqr
    have e := less_all a
    obtain ⟨l, hl⟩ : ∃ l, l = less1 a 128 := ⟨_, rfl⟩
    rw [← hl] at e h1 ⊢
    conv => lhs; arg 2; rw [e]
    rw [gm_comm (ginv a) a, gm_assoc, h1, gm_comm a (ginv a), ← e]
  rcases own_square h2 with h3 | h3
  · rw [h3, zero_gm] at h1
    exact absurd h1.symm h
  · rw [gm_comm, ← less_all]; exact h3
theorem gm_eq_zero {a b : G} : gm a b = 0#128 ↔ a = 0#128 ∨ b = 0#128 := by
  constructor
  · intro h
    by_cases ha : a = 0#128
    · exact .inl ha
    · right
      have e : gm (ginv a) (gm a b) = gm (ginv a) 0#128 := by rw [h]
      rw [gm_assoc, gm_comm (ginv a) a, gm_ginv a ha, one_gm, gm_zero] at e
      exact e
  · rintro (rfl | rfl)
    · exact zero_gm b
    · exact gm_zero a
end Go.Proofs.Ytpdkdeebdhdhgaa
