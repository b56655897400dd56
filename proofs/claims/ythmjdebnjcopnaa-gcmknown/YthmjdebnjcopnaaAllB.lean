/- GhashMath, GhashBytes, RefBit, GhashRed, RefGTimes, RefGAdd, RefGBlocks, RefGSum, GhashSumMath, GhashRingMath, GhashWords. -/
import Derived.Test.YthmjdebnjcopnaaAllA
import Derived.Deep.Cut
import Derived.Laws.OwnMore
/- Sixteen bytes as elements of a great field. -/
namespace Go.Proofs.Ythmjdebnjcopnaa
open Go.RowKit

abbrev G := BitVec 128
/-- x to the i. -/
def xi (i : Nat) : G := BitVec.twoPow 128 i
theorem xi_bit (i j : Nat) (hi : i < 128) : (xi i).getLsbD j = decide (j = i) := by
  unfold xi
  rw [BitVec.getLsbD_twoPow]
  by_cases h : j = i
  · subst h; simp [hi]
  · simp [h, Ne.symm h]
/-- The sum of f at the bits of b, of the first n. -/
def sumBits {m : Nat} (f : Nat → BitVec m) (b : G) : Nat → BitVec m
  | 0 => 0
  | n + 1 => sumBits f b n ^^^ cx (b.getLsbD n) (f n)
theorem sumBits_add {m : Nat} (f : Nat → BitVec m) (n : Nat) : Add (fun b => sumBits f b n) := by
  induction n with
  | zero => intro x y; simp [sumBits]
  | succ n ih =>
    intro x y
    have e := ih x y
    simp only [sumBits] at e ⊢
    rw [e, BitVec.getLsbD_xor, cx_xor, x4]
theorem sumBits_map {m k : Nat} {g : BitVec m → BitVec k} (hg : Add g) (f : Nat → BitVec m) (b : G) (n : Nat) : g (sumBits f b n) = sumBits (fun i => g (f i)) b n := by
  induction n with
  | zero => exact hg.zero
  | succ n ih =>
    show g (sumBits f b n ^^^ cx (b.getLsbD n) (f n)) = sumBits (fun i => g (f i)) b n ^^^ cx (b.getLsbD n) (g (f n))
    rw [hg, ih, hg.cx]
theorem sumBits_congr {m : Nat} {f g : Nat → BitVec m} (b : G) (n : Nat) (h : ∀ i, i < n → f i = g i) : sumBits f b n = sumBits g b n := by
  induction n with
  | zero => rfl
  | succ n ih =>
    show sumBits f b n ^^^ cx _ (f n) = sumBits g b n ^^^ cx _ (g n)
    rw [ih (fun i hi => h i (by omega)), h n (by omega)]
theorem sumBits_xi_bit (b : G) (n : Nat) (hn : n ≤ 128) (j : Nat) : (sumBits xi b n).getLsbD j = (decide (j < n) && b.getLsbD j) := by
  induction n with
  | zero => simp [sumBits]
  | succ n ih =>
    show (sumBits xi b n ^^^ cx (b.getLsbD n) (xi n)).getLsbD j = _
    rw [BitVec.getLsbD_xor, ih (by omega)]
    have e : (cx (b.getLsbD n) (xi n)).getLsbD j = (b.getLsbD n && decide (j = n)) := by
      cases hb : b.getLsbD n
      · simp [cx]
      · simp [cx, xi_bit n j (by omega)]
    rw [e]
    by_cases h1 : j = n
    · subst h1; simp
    · by_cases h2 : j < n
      · simp [h1, h2, show j < n + 1 by omega]
      · simp [h1, h2, show ¬ j < n + 1 by omega]
theorem sumBits_xi (b : G) : sumBits xi b 128 = b := by
  apply BitVec.eq_of_getLsbD_eq
  intro i hi
  rw [sumBits_xi_bit b 128 (Nat.le_refl _)]
  simp [hi]
/-- Two additive maps that agree at the powers of x agree. -/
theorem gext {m : Nat} {f g : G → BitVec m} (hf : Add f) (hg : Add g) (h : ∀ i, i < 128 → f (xi i) = g (xi i)) (b : G) : f b = g b := by
  rw [← sumBits_xi b, sumBits_map hf, sumBits_map hg]
  exact sumBits_congr b 128 h

/-- Times x. -/
def mx (a : G) : G := (a <<< 1) ^^^ cx (a.getLsbD 127) 0x87#128
def mxs : Nat → G → G
  | 0, a => a
  | n + 1, a => mx (mxs n a)
/-- The product. -/
def gm (a b : G) : G := sumBits (fun i => mxs i a) b 128
theorem mx_add : Add mx := by
  intro x y
  unfold mx
  rw [BitVec.shiftLeft_xor_distrib, BitVec.getLsbD_xor, cx_xor, x4]
theorem mxs_add (n : Nat) : Add (mxs n) := by
  induction n with
  | zero => intro x y; rfl
  | succ n ih => exact Add.comp (g := mx) (f := mxs n) mx_add ih
theorem mxs_plus (i j : Nat) (a : G) : mxs (i + j) a = mxs i (mxs j a) := by
  induction i with
  | zero => rw [Nat.zero_add]; rfl
  | succ i ih =>
    rw [Nat.succ_add]
    show mx (mxs (i + j) a) = mx (mxs i (mxs j a))
    rw [ih]
theorem gm_right (a : G) : Add (fun b => gm a b) := sumBits_add _ 128
theorem sum_two {m : Nat} (f g : Nat → BitVec m) (b : G) (n : Nat) : sumBits (fun i => f i ^^^ g i) b n = sumBits f b n ^^^ sumBits g b n := by
  induction n with
  | zero => simp [sumBits]
  | succ n ih =>
    show sumBits (fun i => f i ^^^ g i) b n ^^^ cx (b.getLsbD n) (f n ^^^ g n) = (sumBits f b n ^^^ cx (b.getLsbD n) (f n)) ^^^ (sumBits g b n ^^^ cx (b.getLsbD n) (g n))
    rw [ih, cx_add, x4]
theorem gm_left (b : G) : Add (fun a => gm a b) := by
  intro x y
  show sumBits (fun i => mxs i (x ^^^ y)) b 128 = gm x b ^^^ gm y b
  rw [sumBits_congr (g := fun i => mxs i x ^^^ mxs i y) b 128 (fun i _ => mxs_add i x y), sum_two]
  rfl
theorem units : ∀ i, i < 128 → mxs i 1#128 = BitVec.ofNat 128 (2 ^ i) := by decide +kernel
theorem unit_xi (i : Nat) (h : i < 128) : mxs i 1#128 = xi i := by
  rw [units i h]
  apply BitVec.eq_of_toNat_eq
  unfold xi
  rw [BitVec.toNat_twoPow, BitVec.toNat_ofNat]
theorem sumBits_one {m : Nat} (f : Nat → BitVec m) (i : Nat) (hi : i < 128) (n : Nat) : sumBits f (xi i) n = cx (decide (i < n)) (f i) := by
  induction n with
  | zero => rfl
  | succ n ih =>
    show sumBits f (xi i) n ^^^ cx ((xi i).getLsbD n) (f n) = _
    rw [ih, xi_bit i n hi]
    by_cases h1 : n = i
    · subst h1; simp [cx]
    · by_cases h2 : i < n
      · simp [cx, h1, h2, show i < n + 1 by omega]
      · simp [cx, h1, h2, show ¬ i < n + 1 by omega]
theorem gm_xi (a : G) (i : Nat) (hi : i < 128) : gm a (xi i) = mxs i a := by
  unfold gm
  rw [sumBits_one _ i hi]
  simp [cx, hi]
theorem gm_mxs (i : Nat) (a b : G) : gm (mxs i a) b = mxs i (gm a b) := by
  unfold gm
  rw [sumBits_map (mxs_add i)]
  exact sumBits_congr b 128 (fun j _ => by rw [← mxs_plus, ← mxs_plus, Nat.add_comm])
theorem one_gm (b : G) : gm 1#128 b = b := by
  refine gext (f := fun b => gm 1#128 b) (g := fun b => b) (gm_right _) (fun _ _ => rfl) (fun i hi => ?_) b
  show gm 1#128 (xi i) = xi i
  rw [gm_xi _ i hi, unit_xi i hi]
theorem gm_comm (a b : G) : gm a b = gm b a := by
  refine gext (f := fun a => gm a b) (g := fun a => gm b a) (gm_left b) (gm_right b) (fun i hi => ?_) a
  show gm (xi i) b = gm b (xi i)
  rw [gm_xi _ i hi, ← unit_xi i hi, gm_mxs, one_gm]
theorem gm_one (a : G) : gm a 1#128 = a := by rw [gm_comm, one_gm]
theorem gm_zero (a : G) : gm a 0#128 = 0#128 := (gm_right a).zero
theorem zero_gm (a : G) : gm 0#128 a = 0#128 := (gm_left a).zero
theorem gm_assoc (a b c : G) : gm a (gm b c) = gm (gm a b) c := by
  refine gext (f := fun a => gm a (gm b c)) (g := fun a => gm (gm a b) c) (gm_left _) (Add.comp (g := fun y => gm y c) (f := fun a => gm a b) (gm_left c) (gm_left b)) (fun i hi => ?_) a
  show gm (xi i) (gm b c) = gm (gm (xi i) b) c
  rw [← unit_xi i hi, gm_mxs, gm_mxs, gm_mxs, one_gm, one_gm]

/-- The square. -/
def sqr (a : G) : G := gm a a
theorem sqr_add : Add sqr := by
  intro x y
  unfold sqr
  have h1 : gm (x ^^^ y) (x ^^^ y) = gm x (x ^^^ y) ^^^ gm y (x ^^^ y) := gm_left _ x y
  have h2 : gm x (x ^^^ y) = gm x x ^^^ gm x y := gm_right x x y
  have h3 : gm y (x ^^^ y) = gm y x ^^^ gm y y := gm_right y x y
  rw [h1, h2, h3, gm_comm y x]
  have e : ∀ p q r : G, (p ^^^ q) ^^^ (q ^^^ r) = p ^^^ r := by
    intro p q r
    rw [BitVec.xor_assoc, ← BitVec.xor_assoc q q r, BitVec.xor_self, BitVec.zero_xor]
  exact e _ _ _
theorem gm4 (a b c d : G) : gm (gm a b) (gm c d) = gm (gm a c) (gm b d) := by
  rw [← gm_assoc, gm_assoc b c d, gm_comm b c, ← gm_assoc c b d, gm_assoc]
theorem sqr_gm (a b : G) : sqr (gm a b) = gm (sqr a) (sqr b) := by unfold sqr; exact gm4 a b a b
def sqrs : Nat → G → G
  | 0, a => a
  | n + 1, a => sqr (sqrs n a)
theorem sqrs_add (n : Nat) : Add (sqrs n) := by
  induction n with
  | zero => intro x y; rfl
  | succ n ih => exact Add.comp (g := sqr) (f := sqrs n) sqr_add ih
theorem sqrs_gm (n : Nat) (a b : G) : sqrs n (gm a b) = gm (sqrs n a) (sqrs n b) := by
  induction n with
  | zero => rfl
  | succ n ih => show sqr (sqrs n (gm a b)) = gm (sqr (sqrs n a)) (sqr (sqrs n b)); rw [ih, sqr_gm]
theorem sqr_one : sqr 1#128 = 1#128 := one_gm _
theorem sqrs_one (n : Nat) : sqrs n 1#128 = 1#128 := by
  induction n with
  | zero => rfl
  | succ n ih => show sqr (sqrs n 1#128) = _; rw [ih, sqr_one]
/-- The squares of the powers of x. -/
def sqTab : List Nat := [1, 4, 16, 64, 256, 1024, 4096, 16384, 65536, 262144, 1048576, 4194304, 16777216, 67108864, 268435456, 1073741824, 4294967296, 17179869184, 68719476736, 274877906944, 1099511627776, 4398046511104, 17592186044416, 70368744177664, 281474976710656, 1125899906842624, 4503599627370496, 18014398509481984, 72057594037927936, 288230376151711744, 1152921504606846976, 4611686018427387904, 18446744073709551616, 73786976294838206464, 295147905179352825856, 1180591620717411303424, 4722366482869645213696, 18889465931478580854784, 75557863725914323419136, 302231454903657293676544, 1208925819614629174706176, 4835703278458516698824704, 19342813113834066795298816, 77371252455336267181195264, 309485009821345068724781056, 1237940039285380274899124224, 4951760157141521099596496896, 19807040628566084398385987584, 79228162514264337593543950336, 316912650057057350374175801344, 1267650600228229401496703205376, 5070602400912917605986812821504, 20282409603651670423947251286016, 81129638414606681695789005144064, 324518553658426726783156020576256, 1298074214633706907132624082305024, 5192296858534827628530496329220096, 20769187434139310514121985316880384, 83076749736557242056487941267521536, 332306998946228968225951765070086144, 1329227995784915872903807060280344576, 5316911983139663491615228241121378304, 21267647932558653966460912964485513216, 85070591730234615865843651857942052864, 135, 540, 2160, 8640, 34560, 138240, 552960, 2211840, 8847360, 35389440, 141557760, 566231040, 2264924160, 9059696640, 36238786560, 144955146240, 579820584960, 2319282339840, 9277129359360, 37108517437440, 148434069749760, 593736278999040, 2374945115996160, 9499780463984640, 37999121855938560, 151996487423754240, 607985949695016960, 2431943798780067840, 9727775195120271360, 38911100780481085440, 155644403121924341760, 622577612487697367040, 2490310449950789468160, 9961241799803157872640, 39844967199212631490560, 159379868796850525962240, 637519475187402103848960, 2550077900749608415395840, 10200311602998433661583360, 40801246411993734646333440, 163204985647974938585333760, 652819942591899754341335040, 2611279770367599017365340160, 10445119081470396069461360640, 41780476325881584277845442560, 167121905303526337111381770240, 668487621214105348445527080960, 2673950484856421393782108323840, 10695801939425685575128433295360, 42783207757702742300513733181440, 171132831030810969202054932725760, 684531324123243876808219730903040, 2738125296492975507232878923612160, 10952501185971902028931515694448640, 43810004743887608115726062777794560, 175240018975550432462904251111178240, 700960075902201729851617004444712960, 2803840303608806919406468017778851840, 11215361214435227677625872071115407360, 44861444857740910710503488284461629440, 179445779430963642842013953137846517760, 37218383881977644441306597687849648398, 148873535527910577765226390751398593592, 255211775190703847597530955573826162791]
def sqAt (i : Nat) : G := BitVec.ofNat 128 (sqTab.getD i 0)
theorem sqTab_eq : ∀ i, i < 128 → mxs (2 * i) 1#128 = sqAt i := by decide +kernel
theorem sqr_xi (i : Nat) (hi : i < 128) : sqr (xi i) = sqAt i := by
  unfold sqr
  rw [gm_xi _ i hi, ← unit_xi i hi, ← mxs_plus, ← sqTab_eq i hi, Nat.two_mul]
theorem sqr_eq (a : G) : sqr a = sumBits sqAt a 128 := by
  refine gext (f := sqr) (g := fun a => sumBits sqAt a 128) sqr_add (sumBits_add _ 128) (fun i hi => ?_) a
  show sqr (xi i) = sumBits sqAt (xi i) 128
  rw [sqr_xi i hi, sumBits_one _ i hi]
  simp [cx, hi]
def sqrT : Nat → G → G
  | 0, a => a
  | n + 1, a => sumBits sqAt (sqrT n a) 128
theorem sqrT_eq (n : Nat) (a : G) : sqrs n a = sqrT n a := by
  induction n with
  | zero => rfl
  | succ n ih => show sqr (sqrs n a) = sumBits sqAt (sqrT n a) 128; rw [ih, sqr_eq]
theorem round_x : sqrT 128 2#128 = 2#128 := by decide +kernel
theorem sqrs_all (a : G) : sqrs 128 a = a := by
  have hx : ∀ i, sqrs 128 (mxs i 1#128) = mxs i 1#128 := by
    intro i
    induction i with
    | zero => exact sqrs_one 128
    | succ i ih =>
      have e : ∀ a : G, mx a = gm 2#128 a := by
        intro a
        rw [gm_comm]
        have := gm_xi a 1 (by decide)
        rw [show xi 1 = 2#128 by decide] at this
        exact this.symm
      show sqrs 128 (mx (mxs i 1#128)) = mx (mxs i 1#128)
      rw [e, sqrs_gm, ih, sqrT_eq, round_x]
  refine gext (f := sqrs 128) (g := fun a => a) (sqrs_add 128) (fun _ _ => rfl) (fun i hi => ?_) a
  show sqrs 128 (xi i) = xi i
  rw [← unit_xi i hi]; exact hx i
/-- What leads from the difference of a square and its root back to the root, but for its first bit. -/
def rootTab : List Nat := [54969562866131847669016652494142573320, 305526867633558886955404559995676324868, 305526867633558886955404559995676324870, 104469799312523126935073530960423461388, 305526867633558886955404559995676324866, 56734434906695435454005472259553578602, 104469799312523126935073530960423461380, 271830150077582418345900040240152313368, 305526867633558886955404559995676324882, 104470118804432205535668098632526617412, 56734434906695435454005472259553578570, 227145695117876428321601179286510436182, 104469799312523126935073530960423461444, 305967500991204419130524647600360013666, 271830150077582418345900040240152313496, 227728627380917811012951187023350445606, 305526867633558886955404559995676325138, 56815181714465587187729576693626853178, 104470118804432205535668098632526616900, 2537993204061707162883588357039153916, 56734434906695435454005472259553577546, 3012428575888700110705650160495551628, 227145695117876428321601179286510434134, 275671395948664093117384310641479295528, 104469799312523126935073530960423465540, 271915852323952067842399232303023203416, 305967500991204419130524647600360005474, 102998777379450204286412735627287799860, 271830150077582418345900040240152297112, 272209106874770544727132909282711537316, 227728627380917811012951187023350412838, 135325830696997074197434372310186257282, 305526867633558886955404559995676390674, 57232084741685004684866676497372669754, 56815181714465587187729576693626984250, 135411474552265958872087683058005180738, 104470118804432205535668098632526879044, 275757512462385460142162890854388625828, 2537993204061707162883588357039678204, 274842411402277094064293402576501149528, 56734434906695435454005472259554626122, 175382474467339210118195525752143821788, 3012428575888700110705650160497648780, 5261797816253387317062014170447638976, 227145695117876428321601179286514628438, 272210066766835802062006483639670336468, 275671395948664093117384310641470906920, 225136856268418471551472419225175749014, 104469799312523126935073530960440242756, 102164174349821125137969924442995585924, 271915852323952067842399232302989648984, 226936647763116174786496543602468507498, 305967500991204419130524647600427114338, 305532029585887981283514747020026657774, 102998777379450204286412735627422017588, 133211003395652039953403666705387164366, 271830150077582418345900040239883861656, 102148097239065330920971689869502701364, 272209106874770544727132909283248408228, 173139448164521758332819425568250980204, 227728627380917811012951187022276671014, 305961988162602755697098987302884752222, 135325830696997074197434372312333740930, 175397880387343143921058595535091746080, 305526867633558886955404559991381423378, 329634352286836299080082914081100, 57232084741685004684866676505962604346, 172705286512742171128536335012890908524, 56815181714465587187729576710806853434, 303614986222712004812458293485509624930, 135411474552265958872087683023645442370, 170536380025231687221712635462198253856, 104470118804432205535668098701246355780, 225051247907070202050589524227723711914, 275757512462385460142162890991827579300, 308170559265311564786252692292247708062, 2537993204061707162883588082161771260, 102169133813289299704984590013427707636, 274842411402277094064293402026745335640, 303326766809063102477989677003176958226, 56734434906695435454005473359066253898, 172841837191359616877872241477191677152, 175382474467339210118195523553120566236, 54888141419452711199816878900948880442, 3012428575888700110705654558544159884, 307799342647640341558117533281787318686, 5261797816253387317062022966540661184, 273119276677551945356669168913118222868, 227145695117876428321601196878700672854, 272311600527812781647585363233504111460, 272210066766835802062006518824042425300, 5181299727675599870287693023180209980, 275671395948664093117384240272726729256, 305525142620375929691910208574098026146, 225136856268418471551472278487687393686, 307772801086609188417528170053220769746, 104469799312523126935073249485463532100, 54596111748351997025280216654447342278, 102164174349821125137970487392949007236, 308164931596625094656266467235253809106, 271915852323952067842398106403082806360, 227647953955287367714133036452945544742, 226936647763116174786494291802654822250, 308170555145571807541189819739699809694, 305967500991204419130520144000799743842, 133105130754254600986622393405343152142, 305532029585887981283523754219281398766, 172410759080424577518324870893406614048, 102998777379450204286394721228912535604, 54969320214588899006126198736319185926, 133211003395652039953439695502406128334, 227375442280390979429973553919662004774, 271830150077582418345827982645845933720, 4955917326648230773508684280683823104, 102148097239065330921115805057578557236, 172885700256406002458384310923462859152, 272209106874770544726844678907096696484, 56538291399058816093646072645906817530, 173139448164521758332242964815947556716, 55418003596362017635628740176384579466, 227728627380917811014104108526883517990, 0, 305961988162602755699404830312098446174, 178356100567250831900639352525185366892, 135325830696997074202046058330761128834, 189481146061086134017106552491789565356, 175397880387343143911835223498236970272, 75361565302940573017734093940626417402]
def rootAt (i : Nat) : G := BitVec.ofNat 128 (rootTab.getD i 0)
def root (a : G) : G := sumBits rootAt a 128
theorem root_bits : ∀ i, i < 128 → root (sqAt i ^^^ BitVec.ofNat 128 (2 ^ i)) = BitVec.ofNat 128 (2 ^ i) ^^^ cx (decide (i = 0)) 1#128 := by decide +kernel
theorem first_add : Add (fun a : G => cx (a.getLsbD 0) 1#128) := by
  intro x y
  show cx ((x ^^^ y).getLsbD 0) 1#128 = _
  rw [BitVec.getLsbD_xor, cx_xor]
theorem root_eq (a : G) : root (sqr a ^^^ a) = a ^^^ cx (a.getLsbD 0) 1#128 := by
  have ha : Add (fun a : G => sqr a ^^^ a) := by
    intro x y
    show sqr (x ^^^ y) ^^^ (x ^^^ y) = _
    rw [sqr_add, x4]
  have hb : Add (fun a : G => a ^^^ cx (a.getLsbD 0) 1#128) := by
    intro x y
    show (x ^^^ y) ^^^ cx ((x ^^^ y).getLsbD 0) 1#128 = _
    rw [BitVec.getLsbD_xor, cx_xor, x4]
  refine gext (f := fun a => root (sqr a ^^^ a)) (g := fun a => a ^^^ cx (a.getLsbD 0) 1#128) (Add.comp (g := root) (f := fun a => sqr a ^^^ a) (sumBits_add _ 128) ha) hb (fun i hi => ?_) a
  show root (sqr (xi i) ^^^ xi i) = xi i ^^^ cx ((xi i).getLsbD 0) 1#128
  rw [sqr_xi i hi, xi_bit i 0 hi]
  have e : xi i = BitVec.ofNat 128 (2 ^ i) := by rw [← unit_xi i hi, units i hi]
  rw [e, root_bits i hi]
  by_cases h0 : i = 0
  · subst h0; rfl
  · have h1 : ¬ (0 = i) := fun h => h0 h.symm
    simp [h0, h1]
/-- What is its own square is 0 or 1. -/
theorem own_square {e : G} (h : sqr e = e) : e = 0#128 ∨ e = 1#128 := by
  have h1 := root_eq e
  rw [h, BitVec.xor_self] at h1
  have h2 : root 0#128 = 0#128 := (show Add root from sumBits_add _ 128).zero
  rw [h2] at h1
  cases hb : e.getLsbD 0
  · rw [hb] at h1
    left
    have : cx false 1#128 = (0#128 : G) := rfl
    rw [this, BitVec.xor_zero] at h1
    exact h1.symm
  · rw [hb] at h1
    right
    have : cx true 1#128 = (1#128 : G) := rfl
    rw [this] at h1
    have h3 := congrArg (fun y => y ^^^ 1#128) h1
    simp only [BitVec.xor_assoc, BitVec.xor_self, BitVec.xor_zero, BitVec.zero_xor] at h3
    exact h3.symm
/-- a to the 2^k - 1. -/
def less1 (a : G) : Nat → G
  | 0 => 1#128
  | k + 1 => gm (sqr (less1 a k)) a
theorem less1_gm (a : G) (k : Nat) : gm (less1 a k) a = sqrs k a := by
  induction k with
  | zero => exact one_gm a
  | succ k ih =>
    show gm (gm (sqr (less1 a k)) a) a = sqr (sqrs k a)
    rw [← ih, sqr_gm, ← gm_assoc]
    rfl
def ginv (a : G) : G := sqr (less1 a 127)
theorem less_all (a : G) : less1 a 128 = gm (ginv a) a := rfl
theorem gm_ginv (a : G) (h : a ≠ 0#128) : gm a (ginv a) = 1#128 := by
  have h1 : gm (less1 a 128) a = a := by rw [less1_gm, sqrs_all]
  have h2 : sqr (less1 a 128) = less1 a 128 := by
    unfold sqr
    have e := less_all a
    obtain ⟨l, hl⟩ : ∃ l, l = less1 a 128 := ⟨_, rfl⟩
    rw [← hl] at e h1 ⊢
    conv => lhs; arg 2; rw [e]
    rw [gm_comm (ginv a) a, gm_assoc, h1, gm_comm a (ginv a), ← e]
  rcases own_square h2 with h3 | h3
  · rw [h3, zero_gm] at h1
    exact absurd h1.symm h
  · rw [gm_comm, ← less_all]; exact h3
theorem gm_eq_zero {a b : G} : gm a b = 0#128 ↔ a = 0#128 ∨ b = 0#128 := by
  constructor
  · intro h
    by_cases ha : a = 0#128
    · exact .inl ha
    · right
      have e : gm (ginv a) (gm a b) = gm (ginv a) 0#128 := by rw [h]
      rw [gm_assoc, gm_comm (ginv a) a, gm_ginv a ha, one_gm, gm_zero] at e
      exact e
  · rintro (rfl | rfl)
    · exact zero_gm b
    · exact gm_zero a
end Go.Proofs.Ythmjdebnjcopnaa
/- Sixteen bytes as polynomials. -/
namespace Go.Proofs.Ythmjdebnjcopnaa
open Go.RowKit

/-- The coefficient of x^i. -/
def coef (l : List B8) (i : Nat) : Bool := (at8 l (i / 8)).getLsbD (7 - i % 8)
/-- The polynomial of a function of its coefficients, of the first n. -/
def polyOf (f : Nat → Bool) : Nat → G
  | 0 => 0
  | n + 1 => polyOf f n ^^^ cx (f n) (xi n)
theorem polyOf_bit (f : Nat → Bool) (n : Nat) (hn : n ≤ 128) (j : Nat) : (polyOf f n).getLsbD j = (decide (j < n) && f j) := by
  induction n with
  | zero => simp [polyOf]
  | succ n ih =>
    show (polyOf f n ^^^ cx (f n) (xi n)).getLsbD j = _
    rw [BitVec.getLsbD_xor, ih (by omega)]
    have e : (cx (f n) (xi n)).getLsbD j = (f n && decide (j = n)) := by
      cases hb : f n
      · simp [cx]
      · simp [cx, xi_bit n j (by omega)]
    rw [e]
    by_cases h1 : j = n
    · subst h1; simp
    · by_cases h2 : j < n
      · simp [h1, h2, show j < n + 1 by omega]
      · simp [h1, h2, show ¬ j < n + 1 by omega]
def toG (l : List B8) : G := polyOf (coef l) 128
theorem toG_bit (l : List B8) (i : Nat) (h : i < 128) : (toG l).getLsbD i = coef l i := by
  unfold toG
  rw [polyOf_bit _ _ (Nat.le_refl _)]
  simp [h]
/-- A byte of bits. -/
def byteOf (f : Nat → Bool) : Nat → B8
  | 0 => 0
  | n + 1 => byteOf f n ^^^ cx (f n) (BitVec.twoPow 8 n)
theorem byteOf_bit (f : Nat → Bool) (n : Nat) (hn : n ≤ 8) (j : Nat) : (byteOf f n).getLsbD j = (decide (j < n) && f j) := by
  induction n with
  | zero => simp [byteOf]
  | succ n ih =>
    show (byteOf f n ^^^ cx (f n) (BitVec.twoPow 8 n)).getLsbD j = _
    rw [BitVec.getLsbD_xor, ih (by omega)]
    have e : (cx (f n) (BitVec.twoPow 8 n)).getLsbD j = (f n && decide (j = n)) := by
      cases hb : f n
      · simp [cx]
      · simp only [cx, if_true, BitVec.getLsbD_twoPow]
        by_cases h : j = n
        · subst h; simp; omega
        · simp [h, Ne.symm h]
    rw [e]
    by_cases h1 : j = n
    · subst h1; simp
    · by_cases h2 : j < n
      · simp [h1, h2, show j < n + 1 by omega]
      · simp [h1, h2, show ¬ j < n + 1 by omega]
def ofG (g : G) : List B8 := mk16 fun k => byteOf (fun j => g.getLsbD (8 * k + (7 - j))) 8
theorem ofG_len (g : G) : (ofG g).length = 16 := mk16_len _
theorem coef_ofG (g : G) (i : Nat) (h : i < 128) : coef (ofG g) i = g.getLsbD i := by
  unfold coef ofG
  rw [mk16_at _ _ (by omega), byteOf_bit _ _ (Nat.le_refl _)]
  rw [show 8 * (i / 8) + (7 - (7 - i % 8)) = i by omega]
  simp; omega
theorem toG_ofG (g : G) : toG (ofG g) = g := by
  apply BitVec.eq_of_getLsbD_eq
  intro i hi
  rw [toG_bit _ i hi, coef_ofG g i hi]
theorem coef_ext {a b : List B8} (ha : a.length = 16) (hb : b.length = 16) (h : ∀ i, i < 128 → coef a i = coef b i) : a = b := by
  refine at8_ext ha hb (fun k hk => ?_)
  apply BitVec.eq_of_getLsbD_eq
  intro j hj
  have := h (8 * k + (7 - j)) (by omega)
  unfold coef at this
  rwa [show (8 * k + (7 - j)) / 8 = k by omega, show 7 - (8 * k + (7 - j)) % 8 = j by omega] at this
theorem toG_inj {a b : List B8} (ha : a.length = 16) (hb : b.length = 16) (h : toG a = toG b) : a = b :=
  coef_ext ha hb (fun i hi => by rw [← toG_bit a i hi, ← toG_bit b i hi, h])
theorem ofG_toG {a : List B8} (ha : a.length = 16) : ofG (toG a) = a := toG_inj (ofG_len _) ha (toG_ofG _)
/-- Sums, byte by byte. -/
def gadd (a b : List B8) : List B8 := mk16 fun i => at8 a i ^^^ at8 b i
theorem gadd_len (a b : List B8) : (gadd a b).length = 16 := mk16_len _
theorem toG_gadd (a b : List B8) : toG (gadd a b) = toG a ^^^ toG b := by
  apply BitVec.eq_of_getLsbD_eq
  intro i hi
  rw [BitVec.getLsbD_xor, toG_bit _ i hi, toG_bit _ i hi, toG_bit _ i hi]
  unfold coef gadd
  rw [mk16_at _ _ (by omega), BitVec.getLsbD_xor]
def gzero : List B8 := List.replicate 16 0
theorem gzero_at (i : Nat) : at8 gzero i = 0 := by
  unfold at8 gzero List.getD
  rw [List.getElem?_replicate]
  split <;> rfl
theorem toG_zero : toG gzero = 0#128 := by
  apply BitVec.eq_of_getLsbD_eq
  intro i hi
  rw [toG_bit _ i hi]
  unfold coef
  rw [gzero_at]
  simp
/-- The product of sixteen bytes and sixteen. -/
def gtimes (a b : List B8) : List B8 := ofG (gm (toG a) (toG b))
theorem gtimes_len (a b : List B8) : (gtimes a b).length = 16 := ofG_len _
theorem toG_gtimes (a b : List B8) : toG (gtimes a b) = gm (toG a) (toG b) := toG_ofG _
end Go.Proofs.Ythmjdebnjcopnaa
/- The reference's bit and Add of layer 7. -/
namespace Go.Proofs.Ythmjdebnjcopnaa
open Go.RowKit

/-- A bit as a number. -/
def bo (c : Bool) : Nat := if c then 1 else 0
theorem bo_lt (c : Bool) : bo c < 2 := by cases c <;> decide
theorem bit_val (x : B8) (s : Nat) (h : s < 8) : bits .and .u8 ((b8 x : Int) / 2 ^ s) 1 = (bo (x.getLsbD s) : Int) := by
  rw [bit_at x s h]
  cases x.getLsbD s <;> rfl
set_option maxHeartbeats 1000000 in
theorem rbit_any (a : List B8) (ha : a.length = 16) (i : Nat) (hi : i < 128) (w : World) :
    Calls Try.prog 90 #[.agg (u8s (nts a)).toArray, .int .i64 (i : Int)] w fun e w' => e = .returned (.int .u8 (bo (coef a i) : Nat)) ∧ But (fun _ => False) w w' := by
  obtain ⟨C, hC⟩ : ∃ C, C = (u8s (nts a)).toArray := ⟨_, rfl⟩
  rw [← hC]
  obtain ⟨q, hq⟩ : ∃ q, q = i / 8 := ⟨_, rfl⟩
  obtain ⟨r, hr⟩ : ∃ r, r = i % 8 := ⟨_, rfl⟩
  obtain ⟨s, hs⟩ : ∃ s, s = 7 - r := ⟨_, rfl⟩
  have d1 : Int.tdiv (i : Int) 8 = (q : Int) := by rw [Int.tdiv_eq_ediv_of_nonneg (by omega)]; omega
  have d2 : (i : Int) / 8 = (q : Int) := by omega
  have d3 : Int.tmod (i : Int) 8 = (r : Int) := by rw [Int.tmod_eq_emod_of_nonneg (by omega)]; omega
  have d4 : (i : Int) % 8 = (r : Int) := by omega
  have d5 : (7 : Int) - (r : Int) = (s : Int) := by omega
  have hq16 : q < 16 := by omega
  have hq16' : (q : Int) < 16 := by omega
  have hr8 : r < 8 := by omega
  have hs8 : s < 8 := by omega
  have hb : Blk (w.alloc (.cells C 44)) w.heap.size 44 (u8s (nts a)) := by rw [hC]; exact Blk.new rfl
  have hc : (w.alloc (.cells C 44)).cell? ⟨w.heap.size, q, none⟩ = some (.int .u8 (b8 (at8 a q) : Nat)) := by
    rw [hb.cell]
    have e := nts_at a q (by omega)
    unfold u8s
    rw [List.getElem?_map, e]; rfl
  have hv := bit_val (at8 a q) s hs8
  have hx := b8_lt (at8 a q)
  have HE : Hid ((at8 a q).getLsbD s = coef a i) := by
    show _ = _
    unfold coef
    rw [hq, hs, hr]
  generalize at8 a q = x at *
  have HB := Hid.mk' hb
  clear hb hC hq hr hs
  go_enter Try.func90, Try.ntmps90
  go_wp2
  go_ret
  refine ⟨?_, (But.refl _ w).alloc _⟩
  rw [← HE.out]; rfl
end Go.Proofs.Ythmjdebnjcopnaa
/- Bits in a row of 256, taken down to 128. -/
namespace Go.Proofs.Ythmjdebnjcopnaa
open Go.RowKit

/-- The row of the bits f. -/
def bl (f : Nat → Bool) : List Nat := (List.range 256).map fun t => bo (f t)
theorem bl_len (f : Nat → Bool) : (bl f).length = 256 := by simp [bl]
theorem bl_at (f : Nat → Bool) (t : Nat) (h : t < 256) : (bl f)[t]? = some (bo (f t)) := by simp [bl, h]
def updB (f : Nat → Bool) (s : Nat) (c : Bool) : Nat → Bool := fun t => if t = s then c else f t
theorem bl_set (f : Nat → Bool) (s : Nat) (c : Bool) : (bl f).set s (bo c) = bl (updB f s c) := by
  apply List.ext_getElem?
  intro t
  by_cases ht : t < 256
  · rw [bl_at _ t ht]
    by_cases h : t = s
    · subst h; rw [List.getElem?_set_self (by rw [bl_len]; exact ht)]; simp [updB]
    · rw [List.getElem?_set_ne (fun e => h e.symm), bl_at _ t ht]; simp [updB, h]
  · rw [List.getElem?_eq_none (by simp [bl_len]; omega), List.getElem?_eq_none (by simp [bl_len]; omega)]
theorem bl_zero : bl (fun _ => false) = List.replicate 256 0 := by
  apply List.ext_getElem?
  intro t
  by_cases ht : t < 256
  · rw [bl_at _ t ht, List.getElem?_replicate, if_pos ht]; rfl
  · rw [List.getElem?_eq_none (by simp [bl_len]; omega), List.getElem?_eq_none (by rw [List.length_replicate]; omega)]
/-- What the bits come to. -/
def redF (f : Nat → Bool) : Nat → G
  | 0 => 0
  | n + 1 => redF f n ^^^ cx (f n) (mxs n 1#128)
theorem redF_congr {f g : Nat → Bool} (n : Nat) (h : ∀ t, t < n → f t = g t) : redF f n = redF g n := by
  induction n with
  | zero => rfl
  | succ n ih =>
    show redF f n ^^^ cx (f n) _ = redF g n ^^^ cx (g n) _
    rw [ih (fun t ht => h t (by omega)), h n (by omega)]
theorem redF_flip (f : Nat → Bool) (s : Nat) (c : Bool) (n : Nat) (h : s < n) : redF (updB f s (f s ^^ c)) n = redF f n ^^^ cx c (mxs s 1#128) := by
  induction n with
  | zero => omega
  | succ n ih =>
    show redF (updB f s (f s ^^ c)) n ^^^ cx (updB f s (f s ^^ c) n) (mxs n 1#128) = (redF f n ^^^ cx (f n) (mxs n 1#128)) ^^^ cx c (mxs s 1#128)
    by_cases hn : n = s
    · subst hn
      rw [redF_congr n (g := f) (fun t ht => by simp [updB]; omega)]
      have e : updB f n (f n ^^ c) n = (f n ^^ c) := by simp [updB]
      rw [e, cx_xor, BitVec.xor_assoc]
    · rw [ih (by omega)]
      have e : updB f s (f s ^^ c) n = f n := by simp [updB, hn]
      rw [e, BitVec.xor_assoc, BitVec.xor_assoc, BitVec.xor_comm (cx c _)]
theorem redF_zero (n : Nat) : redF (fun _ => false) n = 0#128 := by
  induction n with
  | zero => rfl
  | succ n ih =>
    show redF (fun _ => false) n ^^^ cx false _ = _
    rw [ih, show cx false (mxs n 1#128) = 0#128 from rfl]
    exact BitVec.xor_zero
theorem redF_low (f : Nat → Bool) (n : Nat) (hn : n ≤ 128) : redF f n = polyOf f n := by
  induction n with
  | zero => rfl
  | succ n ih =>
    show redF f n ^^^ cx (f n) (mxs n 1#128) = polyOf f n ^^^ cx (f n) (xi n)
    rw [ih (by omega), unit_xi n (by omega)]
theorem redF_top (f : Nat → Bool) (h : ∀ t, 128 ≤ t → f t = false) (n : Nat) (hn : 128 ≤ n) : redF f n = redF f 128 := by
  induction n with
  | zero => omega
  | succ n ih =>
    by_cases e : n + 1 = 128
    · rw [e]
    · show redF f n ^^^ cx (f n) _ = _
      rw [ih (by omega), h n (by omega)]
      exact BitVec.xor_zero
theorem x128 : mxs 128 1#128 = mxs 0 1#128 ^^^ mxs 1 1#128 ^^^ mxs 2 1#128 ^^^ mxs 7 1#128 := by decide +kernel
theorem x128s (s : Nat) : mxs (s + 128) 1#128 = mxs s 1#128 ^^^ mxs (s + 1) 1#128 ^^^ mxs (s + 2) 1#128 ^^^ mxs (s + 7) 1#128 := by
  rw [mxs_plus, x128, mxs_add, mxs_add, mxs_add, ← mxs_plus, ← mxs_plus, ← mxs_plus, ← mxs_plus]
  rfl
/-- One step down. -/
def downF (f : Nat → Bool) (s : Nat) : Nat → Bool :=
  let f1 := updB f (s + 128) false
  let f2 := updB f1 s (f1 s ^^ true)
  let f3 := updB f2 (s + 1) (f2 (s + 1) ^^ true)
  let f4 := updB f3 (s + 2) (f3 (s + 2) ^^ true)
  updB f4 (s + 7) (f4 (s + 7) ^^ true)
theorem downF_red (f : Nat → Bool) (s : Nat) (hs : s < 128) (h : f (s + 128) = true) : redF (downF f s) 256 = redF f 256 := by
  unfold downF
  simp only
  rw [redF_flip _ (s + 7) true 256 (by omega), redF_flip _ (s + 2) true 256 (by omega), redF_flip _ (s + 1) true 256 (by omega), redF_flip _ s true 256 (by omega)]
  have e : updB f (s + 128) false = updB f (s + 128) (f (s + 128) ^^ true) := by rw [h]; rfl
  rw [e, redF_flip _ (s + 128) true 256 (by omega), x128s s]
  show redF f 256 ^^^ (mxs s 1#128 ^^^ mxs (s + 1) 1#128 ^^^ mxs (s + 2) 1#128 ^^^ mxs (s + 7) 1#128) ^^^ mxs s 1#128 ^^^ mxs (s + 1) 1#128 ^^^ mxs (s + 2) 1#128 ^^^ mxs (s + 7) 1#128 = _
  have g : ∀ r p q u v : G, r ^^^ (p ^^^ q ^^^ u ^^^ v) ^^^ p ^^^ q ^^^ u ^^^ v = r ^^^ ((p ^^^ p) ^^^ (q ^^^ q) ^^^ (u ^^^ u) ^^^ (v ^^^ v)) := by intros; ac_rfl
  rw [g]
  simp
theorem downF_top (f : Nat → Bool) (s : Nat) (h : ∀ t, s + 128 < t → f t = false) : ∀ t, s + 127 < t → downF f s t = false := by
  intro t ht
  unfold downF
  simp only [updB]
  rw [if_neg (by omega), if_neg (by omega), if_neg (by omega), if_neg (by omega)]
  by_cases e : t = s + 128
  · rw [if_pos e]
  · rw [if_neg e]; exact h t (by omega)

/-- What the first k products of one coefficient come to. -/
def rowSum (b : List B8) (i : Nat) : Nat → G
  | 0 => 0
  | k + 1 => rowSum b i k ^^^ cx (coef b k) (mxs (i + k) 1#128)
theorem rowSum_all (b : List B8) (i : Nat) : rowSum b i 128 = mxs i (toG b) := by
  have key : ∀ n, n ≤ 128 → rowSum b i n = mxs i (polyOf (coef b) n) := by
    intro n hn
    induction n with
    | zero => exact ((mxs_add i).zero).symm
    | succ n ih =>
      show rowSum b i n ^^^ cx (coef b n) (mxs (i + n) 1#128) = mxs i (polyOf (coef b) n ^^^ cx (coef b n) (xi n))
      rw [ih (by omega), mxs_add, (mxs_add i).cx, ← unit_xi n (by omega), mxs_plus]
  exact key 128 (Nat.le_refl _)
def colSum (a b : List B8) : Nat → G
  | 0 => 0
  | i + 1 => colSum a b i ^^^ cx (coef a i) (mxs i (toG b))
theorem colSum_all (a b : List B8) : colSum a b 128 = gm (toG b) (toG a) := by
  have key : ∀ n, n ≤ 128 → colSum a b n = sumBits (fun i => mxs i (toG b)) (toG a) n := by
    intro n hn
    induction n with
    | zero => rfl
    | succ n ih =>
      show colSum a b n ^^^ cx (coef a n) _ = sumBits _ (toG a) n ^^^ cx ((toG a).getLsbD n) _
      rw [ih (by omega), toG_bit a n (by omega)]
  exact key 128 (Nat.le_refl _)
/-- The bytes of the first k bits. -/
def outB (f : Nat → Bool) (k : Nat) : List B8 := mk16 fun q => byteOf (fun j => decide (8 * q + (7 - j) < k) && f (8 * q + (7 - j))) 8
theorem outB_len (f : Nat → Bool) (k : Nat) : (outB f k).length = 16 := mk16_len _
theorem outB_all (f : Nat → Bool) : toG (outB f 128) = polyOf f 128 := by
  apply BitVec.eq_of_getLsbD_eq
  intro i hi
  rw [toG_bit _ i hi, polyOf_bit _ _ (Nat.le_refl _)]
  unfold coef outB
  rw [mk16_at _ _ (by omega), byteOf_bit _ _ (Nat.le_refl _), show 8 * (i / 8) + (7 - (7 - i % 8)) = i by omega]
  have e : decide (7 - i % 8 < 8) = true := by simp; omega
  rw [e, Bool.true_and]
theorem outB_zero (f : Nat → Bool) : outB f 0 = List.replicate 16 0 := by
  refine at8_ext (outB_len _ _) (by simp) (fun i hi => ?_)
  have e : at8 (List.replicate 16 (0 : B8)) i = 0 := by unfold at8 List.getD; rw [List.getElem?_replicate, if_pos hi]; rfl
  unfold outB
  rw [mk16_at _ i hi, e]
  apply BitVec.eq_of_getLsbD_eq
  intro j hj
  rw [byteOf_bit _ _ (Nat.le_refl _)]
  simp
theorem or_bit : ∀ sh, sh < 8 → ∀ n, n < 256 → ∀ c : Bool, bits .or .u8 (b8 (BitVec.ofNat 8 n) : Int) ((bo c : Int) * 2 ^ sh) = (b8 (BitVec.ofNat 8 n ||| cx c (BitVec.twoPow 8 sh)) : Int) := by decide +kernel
theorem or_bit8 (x : B8) (sh : Nat) (h : sh < 8) (c : Bool) : bits .or .u8 (b8 x : Int) ((bo c : Int) * 2 ^ sh) = (b8 (x ||| cx c (BitVec.twoPow 8 sh)) : Int) :=
  all8 (P := fun x => ∀ c : Bool, bits .or .u8 (b8 x : Int) ((bo c : Int) * 2 ^ sh) = (b8 (x ||| cx c (BitVec.twoPow 8 sh)) : Int)) (or_bit sh h) x c
theorem outB_set (f : Nat → Bool) (k : Nat) (_h : k < 128) : (outB f k).set (k / 8) (at8 (outB f k) (k / 8) ||| cx (f k) (BitVec.twoPow 8 (7 - k % 8))) = outB f (k + 1) := by
  refine at8_ext (by rw [List.length_set]; exact outB_len _ _) (outB_len _ _) (fun i hi => ?_)
  have hset : at8 ((outB f k).set (k / 8) (at8 (outB f k) (k / 8) ||| cx (f k) (BitVec.twoPow 8 (7 - k % 8)))) i = if i = k / 8 then at8 (outB f k) (k / 8) ||| cx (f k) (BitVec.twoPow 8 (7 - k % 8)) else at8 (outB f k) i := by
    by_cases e : i = k / 8
    · rw [if_pos e, e]
      simp [at8, List.getD, outB_len, show k / 8 < 16 by omega]
    · rw [if_neg e]
      unfold at8 List.getD
      rw [List.getElem?_set_ne (fun h => e h.symm)]
  rw [hset]
  by_cases e : i = k / 8
  · rw [if_pos e]
    apply BitVec.eq_of_getLsbD_eq
    intro j hj
    rw [BitVec.getLsbD_or]
    unfold outB
    rw [mk16_at _ _ (by omega), mk16_at _ i hi, byteOf_bit _ _ (Nat.le_refl _), byteOf_bit _ _ (Nat.le_refl _), e]
    have e2 : (cx (f k) (BitVec.twoPow 8 (7 - k % 8))).getLsbD j = (f k && decide (j = 7 - k % 8)) := by
      cases hb : f k
      · simp [cx]
      · simp only [cx, if_true, BitVec.getLsbD_twoPow]
        by_cases h : j = 7 - k % 8
        · rw [h]; simp; omega
        · simp [h, Ne.symm h]
    rw [e2]
    by_cases hjk : j = 7 - k % 8
    · have e3 : 8 * (k / 8) + (7 - j) = k := by omega
      rw [e3]
      have e4 : 7 - k % 8 < 8 := by omega
      simp [hjk, e4]
    · have e3 : (8 * (k / 8) + (7 - j) < k + 1) = (8 * (k / 8) + (7 - j) < k) := by
        apply propext
        constructor
        · intro h; omega
        · intro h; omega
      simp [hj, hjk, e3]
  · rw [if_neg e]
    unfold outB
    rw [mk16_at _ i hi, mk16_at _ i hi]
    congr 1
    funext j
    have e3 : decide (8 * i + (7 - j) < k) = decide (8 * i + (7 - j) < k + 1) := by
      rw [decide_eq_decide]
      constructor
      · intro h; omega
      · intro h; omega
    rw [e3]
end Go.Proofs.Ythmjdebnjcopnaa
/- The reference's Times of layer 7. -/
namespace Go.Proofs.Ythmjdebnjcopnaa
open Go.RowKit

theorem i16g : (Try.prog.info? 44).map (·.size) = some 16 := by kernel_rfl
theorem bo_xor (c d : Bool) : bits .xor .u8 (bo c : Int) (bo d : Int) = (bo (c ^^ d) : Int) := by cases c <;> cases d <;> decide
theorem bo_not (c : Bool) : bits .xor .u8 (bo c : Int) 1 = (bo (!c) : Int) := by cases c <;> decide
theorem bl_cell {w : World} {g : Nat} {T : TypeId} {f : Nat → Bool} (h : Blk w g T (u8s (bl f))) (t : Nat) (ht : t < 256) : w.cell? ⟨g, t, none⟩ = some (.int .u8 (bo (f t) : Nat)) := by
  rw [h.cell]
  unfold u8s
  rw [List.getElem?_map, bl_at f t ht]; rfl
theorem bl_put {w : World} {g : Nat} {T : TypeId} {f : Nat → Bool} (h : Blk w g T (u8s (bl f))) (t : Nat) (c : Bool) : Blk (w.setCell ⟨g, t, none⟩ (.int .u8 (bo c : Nat))) g T (u8s (bl (updB f t c))) := by
  rw [← bl_set, ← u8s_set]; exact h.set t _
/-- What memory is amid Times. -/
structure GtI (w : World) (g : Nat) (a b : List B8) (f : Nat → Bool) (wr : World) : Prop where
  sa : Blk wr g 44 (u8s (nts a))
  sb : Blk wr (g + 1) 44 (u8s (nts b))
  res : Blk wr (g + 2) 44 (u8s (List.replicate 16 0))
  p : Blk wr (g + 3) 29 (u8s (bl f))
  but : But (fun _ => False) w wr
  top : ∀ t, 256 ≤ t → f t = false
theorem GtI.then {w wr w' : World} {g : Nat} {a b : List B8} {f : Nat → Bool} (h : GtI w g a b f wr) (k : But (fun _ => False) wr w') : GtI w g a b f w' :=
  ⟨h.sa.but k (fun h => h), h.sb.but k (fun h => h), h.res.but k (fun h => h), h.p.but k (fun h => h), h.but.trans k, h.top⟩
theorem GtI.put {w wr : World} {g : Nat} {a b : List B8} {f : Nat → Bool} (h : GtI w g a b f wr) (hg : g = w.heap.size) (s : Nat) (hs : s < 256) (c : Bool) : GtI w g a b (updB f s c) (wr.setCell ⟨g + 3, s, none⟩ (.int .u8 (bo c : Nat))) := by
  have k : But (· = g + 3) wr (wr.setCell ⟨g + 3, s, none⟩ (.int .u8 (bo c : Nat))) := (But.refl (· = g + 3) wr).setCell (p := ⟨g + 3, s, none⟩) (fun _ => rfl) _
  refine ⟨h.sa.but k (show ¬ (g = g + 3) by omega), h.sb.but k (show ¬ (g + 1 = g + 3) by omega), h.res.but k (show ¬ (g + 2 = g + 3) by omega), bl_put h.p s c, h.but.then k (fun i hi e => by omega), fun t ht => ?_⟩
  unfold updB
  rw [if_neg (by omega)]
  exact h.top t ht
theorem GtI.other {w wr w' : World} {g go : Nat} {a b : List B8} {f : Nat → Bool} (h : GtI w g a b f wr) (hg : g = w.heap.size) (hgo : g + 3 < go) (k : But (· = go) wr w') : GtI w g a b f w' :=
  ⟨h.sa.but k (show ¬ (g = go) by omega), h.sb.but k (show ¬ (g + 1 = go) by omega), h.res.but k (show ¬ (g + 2 = go) by omega), h.p.but k (show ¬ (g + 3 = go) by omega), h.but.then k (fun i hi e => by omega), h.top⟩
theorem loadRow16 {w : World} {g : Nat} {l : List B8} (hl : l.length = 16) (hb : Blk w g 44 (u8s (nts l))) : (Instr.loadAt 44 (.pointer (some ⟨g, 0, none⟩))).run Try.prog w = .ok (.agg (u8s (nts l)).toArray) w := by
  have h := run_loadVar_row (P := Try.prog) w g 44 44 _ (0, 0) _ hb Try.underlying44 rfl (by rw [i16g]; simp [u8s, nts_len, hl])
  simp only [Instr.loadAt, Instr.sureAddr, Sem.run_bind, Sem.run_pure, Result.andThen_ok, h]
structure GtC (w : World) (g : Nat) (a b : List B8) (f : Nat → Bool) (s : Nat) (c : Bool) (d : Nat → Bool) (fv : Nat → Value) (wx : World) : Prop where
  before : d 13 = false → GtI w g a b f wx
  after : d 13 = true → GtI w g a b (updB f s c) wx
theorem callBit (args : Array Value) (w : World) : (callFunc 90 args).run Try.prog w = .ok (.enter 90 args) w := by kernel_rfl
set_option maxRecDepth 100000 in
set_option maxHeartbeats 1000000 in
theorem rgtimes_any {w : World} {a b : List B8} (ha : a.length = 16) (hb : b.length = 16) :
    Calls Try.prog 77 #[.agg (u8s (nts a)).toArray, .agg (u8s (nts b)).toArray] w fun e w' => e = .returned (.agg (u8s (nts (gtimes a b))).toArray) ∧ But (fun _ => False) w w' := by
  have hz : ∀ w : World, (zeroValue 44).run Try.prog w = .ok (.agg (u8s (List.replicate 16 0)).toArray) w := fun _ => by kernel_rfl
  have hz2 : ∀ w : World, (zeroValue 29).run Try.prog w = .ok (.agg (u8s (List.replicate 256 0)).toArray) w := fun _ => by kernel_rfl
  obtain ⟨Z, hZ⟩ : ∃ Z, Z = (u8s (List.replicate 16 0)).toArray := ⟨_, rfl⟩
  obtain ⟨Y, hY⟩ : ∃ Y, Y = (u8s (List.replicate 256 0)).toArray := ⟨_, rfl⟩
  rw [← hZ] at hz
  rw [← hY] at hz2
  obtain ⟨C, hC⟩ : ∃ C, C = (u8s (nts a)).toArray := ⟨_, rfl⟩
  obtain ⟨F, hF⟩ : ∃ F, F = (u8s (nts b)).toArray := ⟨_, rfl⟩
  rw [← hC, ← hF]
  have HZ := Hid.mk' hZ
  have HY := Hid.mk' hY
  have HC := Hid.mk' hC
  have HF := Hid.mk' hF
  clear hZ hC hF hY
  go_enter Try.func77, Try.ntmps77
  go_wp2
  obtain ⟨g, hg⟩ : ∃ g, g = w.heap.size := ⟨_, rfl⟩
  have hI : GtI w g a b (fun _ => false) ((((w.alloc (.cells C 44)).alloc (.cells F 44)).alloc (.cells Z 44)).alloc (.cells Y 29)) := by
    rw [HC.out, HF.out, HZ.out, HY.out]
    have al : ∀ (x : World) (o : Obj), But (fun _ => False) x (x.alloc o) := fun x o => (But.refl _ x).alloc o
    refine ⟨?_, ?_, ?_, ?_, (((((But.refl _ w).alloc _).alloc _).alloc _).alloc _), fun _ _ => rfl⟩
    · exact (((Blk.new hg.symm).but (al _ _) (fun h => h)).but (al _ _) (fun h => h)).but (al _ _) (fun h => h)
    · exact ((Blk.new (by simp [hg])).but (al _ _) (fun h => h)).but (al _ _) (fun h => h)
    · exact (Blk.new (by simp [hg])).but (al _ _) (fun h => h)
    · rw [bl_zero]; exact Blk.new (by simp [hg])
  rw [← hg, show g + 1 + 1 + 1 = g + 3 from rfl, show g + 1 + 1 = g + 2 from rfl]
  generalize ((((w.alloc (.cells C 44)).alloc (.cells F 44)).alloc (.cells Z 44)).alloc (.cells Y 29)) = W0 at *
  have HI := Hid.mk' hI
  have HG := Hid.mk' hg
  have HAL := Hid.mk' ha
  have HBL := Hid.mk' hb
  have HNA : Hid ((nts a).length = 16) := by show _ = _; rw [nts_len]; exact ha
  clear hI hg HC HF HY hz2 ha
  go_loopw [6] (fun x wr => ∃ (i : Nat) (f : Nat → Bool), i ≤ 128 ∧ x = .int .i64 i ∧ redF f 256 = colSum a b i ∧ GtI w g a b f wr) (fun x _ => 128 - (intOf x).toNat)
  case atStart => exact ⟨0, fun _ => false, by decide, rfl, redF_zero 256, HI.out⟩
  case round =>
    obtain ⟨i, f, hi, rfl, hred, hI⟩ := hrel
    have HR := Hid.mk' hred
    clear HI hred
    have HI := Hid.mk' hI
    clear hI
    by_cases hlt : i < 128
    · have hii : (i : Int) < 128 := by omega
      obtain ⟨wo, hwo⟩ : ∃ wo, wo = wr := ⟨_, rfl⟩
      subst hwo
      go_wp2_with (first
        | (refine wpList_load_u8s Try.underlying44 i16g rfl _ rfl g (nts a) HNA.out rfl HI.out.sa ?_)
        | fail)
      refine Calls.mono (rbit_any a HAL.out i hlt wo) ?_
      rintro e w1 ⟨rfl, hbut1⟩
      have HI1 := Hid.mk' (HI.out.then hbut1)
      clear hbut1 HI
      cases hc : coef a i
      · have hv : (bo false : Int) = 0 := rfl
        have HCE := Hid.mk' hc
        clear hc
        go_wp2
        refine ⟨⟨i + 1, f, by omega, by go_num, ?_, HI1.out⟩, by simp [intOf]; omega⟩
        show redF f 256 = colSum a b i ^^^ cx (coef a i) (mxs i (toG b))
        rw [HR.out, HCE.out]
        exact BitVec.xor_zero.symm
      · have hv : ((bo true : Int) == 0) = false := by decide
        have HCE := Hid.mk' hc
        clear hc
        go_wp2
        go_loopw [7] (fun x wr => ∃ (k : Nat) (f : Nat → Bool), k ≤ 128 ∧ x = .int .i64 k ∧ redF f 256 = colSum a b i ^^^ rowSum b i k ∧ GtI w g a b f wr) (fun x _ => 128 - (intOf x).toNat)
        case atStart => exact ⟨0, f, by decide, rfl, by rw [HR.out]; exact BitVec.xor_zero.symm, HI1.out⟩
        case round =>
          obtain ⟨k, f, hk, rfl, hred, hI⟩ := hrel
          have HR2 := Hid.mk' hred
          have HI2 := Hid.mk' hI
          clear hred hI HI1
          by_cases hlk : k < 128
          · have hki : (k : Int) < 128 := by omega
            obtain ⟨s, hs⟩ : ∃ s, s = i + k := ⟨_, rfl⟩
            have w1' : IntKind.i64.wrap ((i : Int) + (k : Int)) = (s : Int) := by simp [IntKind.wrap, IntKind.bits, IntKind.signed]; omega
            have hs256 : s < 256 := by omega
            have hs256' : (s : Int) < 256 := by omega
            have hxo := bo_xor (f s) (coef b k)
            have HS := Hid.mk' hs
            clear hs
            go_wp2
            refine region_frame [some 23, some 24, some 25, some 26, some 27, some 28, some 29, some 30, some 31, some 32, some 33, some 34, some 35, none] (by kernel_rfl) [some (.int .i64 (i : Int)), some (.int .i64 (k : Int)), some (.int .i64 (s : Int)), some (.int .i64 (i : Int)), some (.int .i64 (k : Int)), some (.int .i64 (s : Int)), some (.pointer (some ⟨g + 3, s, none⟩)), some (.int .u8 (bo (f s) : Int)), some (.agg (u8s (nts b)).toArray), some (.int .i64 (k : Int)), some (.int .u8 (bo (coef b k) : Int)), some (.int .u8 (bo (f s ^^ coef b k) : Int)), some (.pointer (some ⟨g + 3, s, none⟩)), none] (GtC w g a b f s (f s ^^ coef b k)) (by kernel_rfl) (by kernel_rfl) (by kernel_rfl) (by kernel_rfl) (by kernel_rfl) (by kernel_rfl) ?_ ?_ ?_ ?_ ?_
            · intro fv
              exact ⟨fun _ => HI2.out.then ((But.refl _ wr).drew), nofun⟩
            · intro j u d fv wx hu hC
              have e : upd d j true 13 = d 13 := upd_other d true (by rintro rfl; cases hu)
              exact ⟨by rw [e]; exact hC.before, by rw [e]; exact hC.after⟩
            · intro ρ r0 r1 r2 j o u d fv wx ho hu hdi hsh hC
              have E23 := r1 0 23 _ (by kernel_rfl) rfl
              have E24 := r1 1 24 _ (by kernel_rfl) rfl
              have E25 := r1 2 25 _ (by kernel_rfl) rfl
              have E26 := r1 3 26 _ (by kernel_rfl) rfl
              have E27 := r1 4 27 _ (by kernel_rfl) rfl
              have E28 := r1 5 28 _ (by kernel_rfl) rfl
              have E29 := r1 6 29 _ (by kernel_rfl) rfl
              have E30 := r1 7 30 _ (by kernel_rfl) rfl
              have E31 := r1 8 31 _ (by kernel_rfl) rfl
              have E32 := r1 9 32 _ (by kernel_rfl) rfl
              have E33 := r1 10 33 _ (by kernel_rfl) rfl
              have E34 := r1 11 34 _ (by kernel_rfl) rfl
              have E35 := r1 12 35 _ (by kernel_rfl) rfl
              have O3 : ρ (.tmp 3) = .pointer (some ⟨g + 1, 0, none⟩) := r2 3 (by kernel_rfl)
              have O5 : ρ (.tmp 5) = .pointer (some ⟨g + 3, 0, none⟩) := r2 5 (by kernel_rfl)
              have O6 : ρ (.tmp 6) = .int .i64 (i : Int) := r2 6 (by kernel_rfl)
              have O7 : ρ (.tmp 7) = .int .i64 (k : Int) := r2 7 (by kernel_rfl)
              have pre : d j = false → GtI w g a b f wx := by
                intro hj
                refine hC.before ?_
                cases h : d 13 with
                | false => rfl
                | true =>
                  exfalso
                  have hall : ∀ q, q < 13 → d q = true := by
                    intro q hq
                    have h12 := hsh 13 _ 12 rfl (by kernel_rfl) h
                    match q, hq with
                    | 12, _ => exact h12
                    | 0, _ => exact hsh 13 _ 0 rfl (by kernel_rfl) h
                    | 1, _ => exact hsh 13 _ 1 rfl (by kernel_rfl) h
                    | 2, _ => exact hsh 13 _ 2 rfl (by kernel_rfl) h
                    | 3, _ => exact hsh 13 _ 3 rfl (by kernel_rfl) h
                    | 4, _ => exact hsh 13 _ 4 rfl (by kernel_rfl) h
                    | 5, _ => exact hsh 13 _ 5 rfl (by kernel_rfl) h
                    | 6, _ => exact hsh 13 _ 6 rfl (by kernel_rfl) h
                    | 7, _ => exact hsh 13 _ 7 rfl (by kernel_rfl) h
                    | 8, _ => exact hsh 13 _ 8 rfl (by kernel_rfl) h
                    | 9, _ => exact hsh 13 _ 9 rfl (by kernel_rfl) h
                    | 10, _ => exact hsh 13 _ 10 rfl (by kernel_rfl) h
                    | 11, _ => exact hsh 13 _ 11 rfl (by kernel_rfl) h
                  by_cases hj13 : j < 13
                  · rw [hall j hj13] at hj; cases hj
                  · by_cases hj2 : j = 13
                    · subst hj2; cases hu
                    · have : (14 : Nat) ≤ j := by omega
                      obtain ⟨m, rfl⟩ : ∃ m, j = m + 14 := ⟨j - 14, by omega⟩
                      cases hu
              have hGI := pre hdi
              have cs := bl_cell hGI.p s hs256
              clear r1 r2 hsh
              match j with
              | 0 =>
                  simp only [List.getElem?_toArray, List.getElem?_cons_zero, Option.some.injEq] at ho
                  subst ho
                  obtain rfl := Option.some.inj hu
                  go_simp
              | 1 =>
                  simp only [List.getElem?_toArray, List.getElem?_cons_succ, List.getElem?_cons_zero, Option.some.injEq] at ho
                  subst ho
                  obtain rfl := Option.some.inj hu
                  go_simp
              | 2 =>
                  simp only [List.getElem?_toArray, List.getElem?_cons_succ, List.getElem?_cons_zero, Option.some.injEq] at ho
                  subst ho
                  obtain rfl := Option.some.inj hu
                  go_simp
              | 3 =>
                  simp only [List.getElem?_toArray, List.getElem?_cons_succ, List.getElem?_cons_zero, Option.some.injEq] at ho
                  subst ho
                  obtain rfl := Option.some.inj hu
                  go_simp
              | 4 =>
                  simp only [List.getElem?_toArray, List.getElem?_cons_succ, List.getElem?_cons_zero, Option.some.injEq] at ho
                  subst ho
                  obtain rfl := Option.some.inj hu
                  go_simp
              | 5 =>
                  simp only [List.getElem?_toArray, List.getElem?_cons_succ, List.getElem?_cons_zero, Option.some.injEq] at ho
                  subst ho
                  obtain rfl := Option.some.inj hu
                  go_simp
              | 6 =>
                  simp only [List.getElem?_toArray, List.getElem?_cons_succ, List.getElem?_cons_zero, Option.some.injEq] at ho
                  subst ho
                  obtain rfl := Option.some.inj hu
                  go_simp
              | 7 =>
                  simp only [List.getElem?_toArray, List.getElem?_cons_succ, List.getElem?_cons_zero, Option.some.injEq] at ho
                  subst ho
                  obtain rfl := Option.some.inj hu
                  go_simp
              | 8 =>
                  simp only [List.getElem?_toArray, List.getElem?_cons_succ, List.getElem?_cons_zero, Option.some.injEq] at ho
                  subst ho
                  obtain rfl := Option.some.inj hu
                  unfold execOp
                  simp only [O3, Sem.run_bind, loadRow16 hb hGI.sb, Result.andThen_ok, Sem.run_pure]
                  exact ⟨rfl, rfl⟩
              | 9 =>
                  simp only [List.getElem?_toArray, List.getElem?_cons_succ, List.getElem?_cons_zero, Option.some.injEq] at ho
                  subst ho
                  obtain rfl := Option.some.inj hu
                  go_simp
              | 10 =>
                  simp only [List.getElem?_toArray, List.getElem?_cons_succ, List.getElem?_cons_zero, Option.some.injEq] at ho
                  subst ho
                  obtain rfl := Option.some.inj hu
                  refine quiet_call 90 [_, _] _ #[.agg (u8s (nts b)).toArray, .int .i64 (k : Int)] rfl (r0.2 _) (by simp [E31, E32]) (callBit _ _) ?_
                  refine Calls.mono (rbit_any b hb k hlk wx) ?_
                  rintro e w2 ⟨rfl, hbut2⟩
                  exact ⟨rfl, fun h => (hC.before h).then hbut2, fun h => (hC.after h).then hbut2⟩
              | 11 =>
                  simp only [List.getElem?_toArray, List.getElem?_cons_succ, List.getElem?_cons_zero, Option.some.injEq] at ho
                  subst ho
                  obtain rfl := Option.some.inj hu
                  go_simp
              | 12 =>
                  simp only [List.getElem?_toArray, List.getElem?_cons_succ, List.getElem?_cons_zero, Option.some.injEq] at ho
                  subst ho
                  obtain rfl := Option.some.inj hu
                  go_simp
              | 13 => cases hu
              | j + 14 => cases hu
            · intro j o d fv x wx ho hu hdi hsh hw hC hsee
              match j with
              | 13 =>
                simp only [List.getElem?_toArray, List.getElem?_cons_succ, List.getElem?_cons_zero, Option.some.injEq] at ho
                subst ho
                have e35 := hsee.tab 12 35 _ (by kernel_rfl) (by kernel_rfl) rfl
                have e34 := hsee.tab 11 34 _ (by kernel_rfl) (by kernel_rfl) rfl
                have hGI := hC.before hdi
                have fr := hGI.p.free s
                have cs := bl_cell hGI.p s hs256
                refine op_skip (w' := wx.setCell ⟨g + 3, s, none⟩ (.int .u8 (bo (f s ^^ coef b k) : Nat))) ?_ ?_
                · unfold execOp
                  simp only [e35, e34]
                  go_simp
                · exact ⟨undef, rfl, nofun, fun _ => hGI.put HG.out s hs256 _⟩
              | 0 => cases hu
              | 1 => cases hu
              | 2 => cases hu
              | 3 => cases hu
              | 4 => cases hu
              | 5 => cases hu
              | 6 => cases hu
              | 7 => cases hu
              | 8 => cases hu
              | 9 => cases hu
              | 10 => cases hu
              | 11 => cases hu
              | 12 => cases hu
              | j + 14 => cases ho
            · intro fv wx hC hval
              have HA := Hid.mk' (hC.after rfl)
              clear hC hval
              simp only [putL]
              go_wp2
              refine ⟨⟨k + 1, updB f s (f s ^^ coef b k), by omega, by go_num, ?_, HA.out⟩, by simp [intOf]; omega⟩
              rw [redF_flip f s (coef b k) 256 hs256, HR2.out, HS.out, BitVec.xor_assoc]
              rfl
          · have hk8 : k = 128 := by omega
            subst hk8
            go_wp2
            refine ⟨⟨i + 1, f, by omega, by go_num, ?_, HI2.out⟩, by simp [intOf]; omega⟩
            show redF f 256 = colSum a b i ^^^ cx (coef a i) (mxs i (toG b))
            rw [HR2.out, HCE.out, rowSum_all]; rfl
    · have hi8 : i = 128 := by omega
      subst hi8
      rw [colSum_all] at HR
      obtain ⟨wo, hwo⟩ : ∃ wo, wo = wr := ⟨_, rfl⟩
      subst hwo
      go_wp2
      go_loopw [8] (fun x wr => ∃ (s : Nat) (f : Nat → Bool), s ≤ 128 ∧ x = .int .i64 (127 + s : Nat) ∧ redF f 256 = gm (toG b) (toG a) ∧ (∀ t, 127 + s < t → f t = false) ∧ GtI w g a b f wr) (fun x _ => (intOf x).toNat)
      case atStart => exact ⟨128, f, by decide, rfl, HR.out, fun t ht => HI.out.top t (by omega), HI.out⟩
      case round =>
        obtain ⟨s, f, hs, rfl, hred, htop, hI⟩ := hrel
        have HR2 := Hid.mk' hred
        have HT2 := Hid.mk' htop
        have HI2 := Hid.mk' hI
        clear hred htop hI HI HR
        by_cases h0 : s = 0
        · subst h0
          have HPR : Hid (polyOf f 128 = gm (toG b) (toG a)) := by
            show _ = _
            rw [← redF_low f 128 (Nat.le_refl _), ← redF_top f (fun t ht => HT2.out t (by omega)) 256 (by decide)]
            exact HR2.out
          have h127 : ¬ ((128 : Int) ≤ ((127 + 0 : Nat) : Int)) := by decide
          clear HT2 HR2
          obtain ⟨wo2, hwo2⟩ : ∃ wo2, wo2 = wr := ⟨_, rfl⟩
          subst hwo2
          go_wp2
          obtain ⟨go, hgo⟩ : ∃ go, go = wo2.heap.size := ⟨_, rfl⟩
          rw [← hgo]
          have HGO : Hid (g + 3 < go) := by show _ < _; rw [hgo]; exact HI2.out.p.lt
          have HA : Hid (GtI w g a b f (wo2.alloc (.cells Z 44))) := HI2.out.then ((But.refl _ _).alloc _)
          have HO : Hid (Blk (wo2.alloc (.cells Z 44)) go 44 (u8s (nts (outB f 0)))) := by
            rw [outB_zero, HZ.out]; exact Blk.new hgo.symm
          generalize wo2.alloc (.cells Z 44) = W3 at *
          clear hgo HI2 hz HZ
          go_loopw [10] (fun x wr => ∃ k : Nat, k ≤ 128 ∧ x = .int .i64 k ∧ GtI w g a b f wr ∧ Blk wr go 44 (u8s (nts (outB f k)))) (fun x _ => 128 - (intOf x).toNat)
          case atStart => exact ⟨0, by decide, rfl, HA.out, HO.out⟩
          case round =>
            obtain ⟨k, hk, rfl, hI, hO⟩ := hrel
            have HI3 := Hid.mk' hI
            have HO3 := Hid.mk' hO
            clear hI hO HA HO
            by_cases hlk : k < 128
            · have hki : (k : Int) < 128 := by omega
              have hki2 : (k : Int) < 256 := by omega
              obtain ⟨q, hq⟩ : ∃ q, q = k / 8 := ⟨_, rfl⟩
              obtain ⟨r, hr⟩ : ∃ r, r = k % 8 := ⟨_, rfl⟩
              obtain ⟨sh, hsh⟩ : ∃ sh, sh = 7 - r := ⟨_, rfl⟩
              have d1 : Int.tdiv (k : Int) 8 = (q : Int) := by rw [Int.tdiv_eq_ediv_of_nonneg (by omega)]; omega
              have d2 : IntKind.i64.wrap (q : Int) = (q : Int) := by simp [IntKind.wrap, IntKind.bits, IntKind.signed]; omega
              have d3 : Int.tmod (k : Int) 8 = (r : Int) := by rw [Int.tmod_eq_emod_of_nonneg (by omega)]; omega
              have d4 : IntKind.u64.wrap (r : Int) = (r : Int) := by simp [IntKind.wrap, IntKind.bits, IntKind.signed]; omega
              have d5 : IntKind.u64.wrap (7 - (r : Int)) = (sh : Int) := by simp [IntKind.wrap, IntKind.bits, IntKind.signed]; omega
              have hq16 : q < 16 := by omega
              have hq16' : (q : Int) < 16 := by omega
              have hs8 : sh < 8 := by omega
              have cp := bl_cell HI3.out.p k (by omega)
              have co : wr.cell? ⟨go, q, none⟩ = some (.int .u8 (b8 (at8 (outB f k) q) : Nat)) := by
                rw [HO3.out.cell]
                have e := nts_at (outB f k) q (by rw [outB_len]; exact hq16)
                unfold u8s
                rw [List.getElem?_map, e]; rfl
              have fo := HO3.out.free q
              have hor := or_bit8 (at8 (outB f k) q) sh hs8 (f k)
              have HXE : Hid ((outB f k).set q (at8 (outB f k) q ||| cx (f k) (BitVec.twoPow 8 sh)) = outB f (k + 1)) := by
                show _ = _
                rw [hq, hsh, hr]; exact outB_set f k hlk
              have hbk := bo_lt (f k)
              have hp2 : 2 ^ sh ≤ 128 := Nat.pow_le_pow_right (n := 2) (by decide) (show sh ≤ 7 by omega)
              have hwr : IntKind.u8.wrap ((bo (f k) : Int) * 2 ^ sh) = (bo (f k) : Int) * 2 ^ sh := by
                have e1 : ((bo (f k) : Int) * 2 ^ sh) = ((bo (f k) * 2 ^ sh : Nat) : Int) := by simp
                have e2 : bo (f k) * 2 ^ sh ≤ 1 * 128 := Nat.mul_le_mul (by omega) hp2
                rw [e1, IntKind.wrap_u8']; omega
              clear hq hr hsh hp2
              go_wp2
              refine region_ends (l := [_, _, _, _, _, _, _, _, _, _, _, _, _, _, _, _]) (o := _) (by kernel_rfl) (by kernel_rfl) (by kernel_rfl) rfl (by kernel_rfl) (by kernel_rfl) ?_
              repeat (quiet_step (fail))
              refine wpQuiet_nil ?_
              intro _ hw'
              obtain ⟨nq, hw''⟩ := hw'
              subst hw''
              go_wp2
              have hs2 : But (· = go) wr ((wr.drewN nq).setCell ⟨go, q, none⟩ (.int .u8 (b8 (at8 (outB f k) q ||| cx (f k) (BitVec.twoPow 8 sh)) : Nat))) := ((But.refl (· = go) wr).drewN (n := nq)).setCell (p := ⟨go, q, none⟩) (fun _ => rfl) _
              refine ⟨⟨k + 1, by omega, by go_num, HI3.out.other HG.out HGO.out hs2, ?_⟩, by simp [intOf]; omega⟩
              rw [← HXE.out]
              exact blk_nts_set HO3.out q _
            · have hk8 : k = 128 := by omega
              subst hk8
              obtain ⟨M, hM⟩ : ∃ M, M = outB f 128 := ⟨_, rfl⟩
              rw [← hM] at HO3
              have HML : Hid ((nts M).length = 16) := by show _ = _; rw [hM, nts_len, outB_len]
              have HME : Hid (M = gtimes a b) := by
                refine toG_inj (by rw [hM]; exact outB_len _ _) (gtimes_len _ _) ?_
                rw [hM, outB_all, toG_gtimes, HPR.out, gm_comm]
              clear hM
              go_wp2_with (first
                | (refine wpList_load_u8s Try.underlying44 i16g rfl _ rfl go (nts M) HML.out rfl HO3.out ?_)
                | (refine wpList_store_u8s i16g rfl _ _ rfl (g + 2) (nts M) HML.out rfl (by exact rfl) _ (by simp [u8s]) HI3.out.res ?_; intro w2 hb2 hbut2))
              refine bodyPost_ret (results_cell_row rfl _ _ (g + 2) _ _ _ _ rfl hb2 Try.underlying44 rfl (by rw [i16g]; simp [u8s, HML.out])) rfl ⟨by rw [HME.out], ?_⟩
              exact HI3.out.but.then hbut2 (fun i hi e => by have := HG.out; omega)
        · obtain ⟨r, rfl⟩ : ∃ r, s = r + 1 := ⟨s - 1, by omega⟩
          obtain ⟨m, hm⟩ : ∃ m, m = r + 128 := ⟨_, rfl⟩
          rw [show 127 + (r + 1) = m by omega]
          have hr : r < 128 := by omega
          have hge : (128 : Int) ≤ (m : Int) := by omega
          have hm256 : (m : Int) < 256 := by omega
          have cm := bl_cell HI2.out.p m (by omega)
          have HM := Hid.mk' hm
          clear hm
          cases hfm : f m
          · rw [hfm] at cm
            have hv : ((bo false : Int) == 1) = false := by decide
            have HFM := Hid.mk' hfm
            clear hfm
            go_wp2
            have hmm := HM.out
            refine ⟨⟨r, f, by omega, by rw [hmm]; go_num, HR2.out, fun t ht => ?_, HI2.out⟩, by simp [intOf]; omega⟩
            by_cases e : t = m
            · rw [e]; exact HFM.out
            · exact HT2.out t (by omega)
          · rw [hfm] at cm
            have hv : ((bo true : Int) == 1) = true := by decide
            have fm := HI2.out.p.free m
            have HFM := Hid.mk' hfm
            clear hfm
            go_upto_region 15 with fail
            have HJ1 : Hid (GtI w g a b (updB f m false) (wr.setCell ⟨g + 3, m, none⟩ (.int .u8 0))) := HI2.out.put HG.out m (by omega) false
            generalize wr.setCell ⟨g + 3, m, none⟩ (.int .u8 0) = w1 at *
            obtain ⟨f1, hf1⟩ : ∃ f', f' = updB f m false := ⟨_, rfl⟩
            rw [← hf1] at HJ1
            have HF1 := Hid.mk' hf1
            clear hf1 cm fm
            obtain ⟨q1, hq1⟩ : ∃ q, q = r := ⟨_, rfl⟩
            have s1 : (m : Int) - 128 = (q1 : Int) := by have := HM.out; omega
            have b1 : q1 < 256 := by omega
            have b1' : (q1 : Int) < 256 := by omega
            have c1 := bl_cell HJ1.out.p q1 b1
            have r1 := HJ1.out.p.free q1
            have x1 : bits .xor .u8 (bo (f1 q1) : Int) 1 = (bo (!f1 q1) : Int) := bo_not _
            have HQ1 := Hid.mk' hq1
            clear hq1
            go_upto_region 16 with fail
            have HJ2 := Hid.mk' (HJ1.out.put HG.out q1 b1 (!f1 q1))
            generalize w1.setCell ⟨g + 3, q1, none⟩ (.int .u8 (bo (!f1 q1) : Nat)) = w2 at *
            obtain ⟨f2, hf2⟩ : ∃ f', f' = updB f1 q1 (!f1 q1) := ⟨_, rfl⟩
            rw [← hf2] at HJ2
            have HF2 := Hid.mk' hf2
            clear hf2 s1 c1 r1 x1 HJ1
            obtain ⟨q2, hq2⟩ : ∃ q, q = r + 1 := ⟨_, rfl⟩
            have s2 : (m : Int) - 127 = (q2 : Int) := by have := HM.out; omega
            have b2 : q2 < 256 := by omega
            have b2' : (q2 : Int) < 256 := by omega
            have c2 := bl_cell HJ2.out.p q2 b2
            have r2 := HJ2.out.p.free q2
            have x2 : bits .xor .u8 (bo (f2 q2) : Int) 1 = (bo (!f2 q2) : Int) := bo_not _
            have HQ2 := Hid.mk' hq2
            clear hq2
            go_upto_region 17 with fail
            have HJ3 := Hid.mk' (HJ2.out.put HG.out q2 b2 (!f2 q2))
            generalize w2.setCell ⟨g + 3, q2, none⟩ (.int .u8 (bo (!f2 q2) : Nat)) = w3 at *
            obtain ⟨f3, hf3⟩ : ∃ f', f' = updB f2 q2 (!f2 q2) := ⟨_, rfl⟩
            rw [← hf3] at HJ3
            have HF3 := Hid.mk' hf3
            clear hf3 s2 c2 r2 x2 HJ2
            obtain ⟨q3, hq3⟩ : ∃ q, q = r + 2 := ⟨_, rfl⟩
            have s3 : (m : Int) - 126 = (q3 : Int) := by have := HM.out; omega
            have b3 : q3 < 256 := by omega
            have b3' : (q3 : Int) < 256 := by omega
            have c3 := bl_cell HJ3.out.p q3 b3
            have r3 := HJ3.out.p.free q3
            have x3 : bits .xor .u8 (bo (f3 q3) : Int) 1 = (bo (!f3 q3) : Int) := bo_not _
            have HQ3 := Hid.mk' hq3
            clear hq3
            go_upto_region 18 with fail
            have HJ4 := Hid.mk' (HJ3.out.put HG.out q3 b3 (!f3 q3))
            generalize w3.setCell ⟨g + 3, q3, none⟩ (.int .u8 (bo (!f3 q3) : Nat)) = w4 at *
            obtain ⟨f4, hf4⟩ : ∃ f', f' = updB f3 q3 (!f3 q3) := ⟨_, rfl⟩
            rw [← hf4] at HJ4
            have HF4 := Hid.mk' hf4
            clear hf4 s3 c3 r3 x3 HJ3
            obtain ⟨q4, hq4⟩ : ∃ q, q = r + 7 := ⟨_, rfl⟩
            have s4 : (m : Int) - 121 = (q4 : Int) := by have := HM.out; omega
            have b4 : q4 < 256 := by omega
            have b4' : (q4 : Int) < 256 := by omega
            have c4 := bl_cell HJ4.out.p q4 b4
            have r4 := HJ4.out.p.free q4
            have x4 : bits .xor .u8 (bo (f4 q4) : Int) 1 = (bo (!f4 q4) : Int) := bo_not _
            have HQ4 := Hid.mk' hq4
            clear hq4
            go_wp2
            have hmm := HM.out
            have hJ5 := HJ4.out.put HG.out q4 b4 (!f4 q4)
            have ed : updB f4 q4 (!f4 q4) = downF f r := by
              unfold downF
              simp only [Bool.xor_true]
              rw [HF4.out, HF3.out, HF2.out, HF1.out, HQ1.out, HQ2.out, HQ3.out, HQ4.out, hmm]
            rw [ed] at hJ5
            refine ⟨⟨r, downF f r, by omega, by rw [hmm]; go_num, ?_, fun t ht => downF_top f r (fun t ht => HT2.out t (by omega)) t (by omega), hJ5⟩, by simp [intOf]; omega⟩
            rw [downF_red f r hr (by rw [← hmm]; exact HFM.out)]
            exact HR2.out
end Go.Proofs.Ythmjdebnjcopnaa
/- The reference's Add of layer 7. -/
namespace Go.Proofs.Ythmjdebnjcopnaa
open Go.RowKit

def partG (a b : List B8) (k : Nat) : List B8 := mk16 fun i => if i < k then at8 a i ^^^ at8 b i else at8 a i
theorem partG_len (a b : List B8) (k : Nat) : (partG a b k).length = 16 := mk16_len _
theorem partG_zero (a b : List B8) (ha : a.length = 16) : partG a b 0 = a := by
  refine at8_ext (partG_len _ _ _) ha (fun i hi => ?_)
  unfold partG; rw [mk16_at _ i hi, if_neg (Nat.not_lt_zero _)]
theorem partG_all (a b : List B8) : partG a b 16 = gadd a b := by
  refine at8_ext (partG_len _ _ _) (gadd_len _ _) (fun i hi => ?_)
  unfold partG gadd; rw [mk16_at _ i hi, mk16_at _ i hi, if_pos hi]
theorem partG_at (a b : List B8) (k : Nat) (h : k < 16) : at8 (partG a b k) k = at8 a k := by
  unfold partG; rw [mk16_at _ k h, if_neg (Nat.lt_irrefl _)]
theorem partG_set (a b : List B8) (k : Nat) (h : k < 16) : (partG a b k).set k (at8 a k ^^^ at8 b k) = partG a b (k + 1) := by
  refine at8_ext (by rw [List.length_set]; exact partG_len _ _ _) (partG_len _ _ _) (fun i hi => ?_)
  rw [at8_set _ _ _ _ (by rw [partG_len]; exact h)]
  unfold partG
  rw [mk16_at _ i hi, mk16_at _ i hi]
  by_cases h2 : i = k
  · subst h2; rw [if_pos rfl, if_pos (Nat.lt_succ_self _)]
  · rw [if_neg h2]
    by_cases h3 : i < k
    · rw [if_pos h3, if_pos (by omega)]
    · rw [if_neg h3, if_neg (by omega)]
structure GaI (w : World) (g : Nat) (a b : List B8) (k : Nat) (wr : World) : Prop where
  out : Blk wr g 44 (u8s (nts (partG a b k)))
  sb : Blk wr (g + 1) 44 (u8s (nts b))
  res : Blk wr (g + 2) 44 (u8s (List.replicate 16 0))
  but : But (fun _ => False) w wr
set_option maxRecDepth 100000 in
set_option maxHeartbeats 1000000 in
theorem rgadd_any {w : World} {a b : List B8} (ha : a.length = 16) (hb : b.length = 16) :
    Calls Try.prog 52 #[.agg (u8s (nts a)).toArray, .agg (u8s (nts b)).toArray] w fun e w' => e = .returned (.agg (u8s (nts (gadd a b))).toArray) ∧ But (fun _ => False) w w' := by
  have hz : ∀ w : World, (zeroValue 44).run Try.prog w = .ok (.agg (u8s (List.replicate 16 0)).toArray) w := fun _ => by kernel_rfl
  obtain ⟨Z, hZ⟩ : ∃ Z, Z = (u8s (List.replicate 16 0)).toArray := ⟨_, rfl⟩
  rw [← hZ] at hz
  obtain ⟨C, hC⟩ : ∃ C, C = (u8s (nts a)).toArray := ⟨_, rfl⟩
  obtain ⟨F, hF⟩ : ∃ F, F = (u8s (nts b)).toArray := ⟨_, rfl⟩
  rw [← hC, ← hF]
  have HZ := Hid.mk' hZ
  have HC := Hid.mk' hC
  have HF := Hid.mk' hF
  clear hZ hC hF
  go_enter Try.func52, Try.ntmps52
  go_wp2
  obtain ⟨g, hg⟩ : ∃ g, g = w.heap.size := ⟨_, rfl⟩
  have hI : GaI w g a b 0 (((w.alloc (.cells C 44)).alloc (.cells F 44)).alloc (.cells Z 44)) := by
    rw [HC.out, HF.out, HZ.out]
    have al : ∀ (x : World) (o : Obj), But (fun _ => False) x (x.alloc o) := fun x o => (But.refl _ x).alloc o
    refine ⟨?_, ?_, ?_, ((((But.refl _ w).alloc _).alloc _).alloc _)⟩
    · rw [partG_zero a b ha]; exact ((Blk.new hg.symm).but (al _ _) (fun h => h)).but (al _ _) (fun h => h)
    · exact (Blk.new (by simp [hg])).but (al _ _) (fun h => h)
    · exact Blk.new (by simp [hg])
  rw [← hg, show g + 1 + 1 = g + 2 from rfl]
  generalize (((w.alloc (.cells C 44)).alloc (.cells F 44)).alloc (.cells Z 44)) = W0 at *
  have HI := Hid.mk' hI
  have HG := Hid.mk' hg
  have HBL := Hid.mk' hb
  clear hI hg hz HZ HC HF hb
  go_loopw [5] (fun i wr => ∃ k : Nat, k ≤ 16 ∧ i = .int .i64 k ∧ GaI w g a b k wr) (fun i _ => 16 - (intOf i).toNat)
  case atStart => exact ⟨0, by decide, rfl, HI.out⟩
  case round =>
    obtain ⟨k, hk, rfl, hI⟩ := hrel
    have HI := Hid.mk' hI
    clear hI
    by_cases hlt : k < 16
    · have hki : (k : Int) < 16 := by omega
      have c1 := blk_nts HI.out.out k (by rw [partG_len]; exact hlt)
      rw [partG_at a b k hlt] at c1
      have c2 := blk_nts HI.out.sb k (by rw [HBL.out]; exact hlt)
      have hfr := HI.out.out.free k
      have hxor := xor_b8 (at8 a k) (at8 b k)
      generalize hX : at8 a k = X at *
      generalize hY : at8 b k = Y at *
      have HXY : Hid (at8 a k = X ∧ at8 b k = Y) := ⟨hX, hY⟩
      clear hX hY
      go_wp2
      refine region_ends (l := [_, _, _, _, _, _, _, _, _]) (o := _) (by kernel_rfl) (by kernel_rfl) (by kernel_rfl) rfl (by kernel_rfl) (by kernel_rfl) ?_
      repeat (quiet_step (fail))
      refine wpQuiet_nil ?_
      intro _ hw'
      obtain ⟨nq, hw''⟩ := hw'
      subst hw''
      go_wp2
      have h := HI.out
      have hs2 : But (· = g) wr ((wr.drewN nq).setCell ⟨g, k, none⟩ (.int .u8 (b8 (X ^^^ Y) : Nat))) := ((But.refl (· = g) wr).drewN (n := nq)).setCell (p := ⟨g, k, none⟩) (fun _ => rfl) _
      refine ⟨⟨k + 1, by omega, by go_num, ⟨?_, h.sb.but hs2 (show ¬ (g + 1 = g) by omega), h.res.but hs2 (show ¬ (g + 2 = g) by omega), h.but.then hs2 (fun i hi e => by have := HG.out; omega)⟩⟩, by simp [intOf]; omega⟩
      rw [← partG_set a b k hlt, HXY.out.1, HXY.out.2]
      exact blk_nts_set h.out k _
    · have hk16 : k = 16 := by omega
      subst hk16
      obtain ⟨h0, h1, h2, hbt⟩ := HI.out
      rw [partG_all] at h0
      have H0 := Hid.mk' h0
      have H2 := Hid.mk' h2
      have HBT := Hid.mk' hbt
      clear h0 h1 h2 hbt HI
      obtain ⟨M, hM⟩ : ∃ M, M = gadd a b := ⟨_, rfl⟩
      have HML : Hid ((nts M).length = 16) := by show _ = _; rw [hM, nts_len, gadd_len]
      rw [← hM] at H0
      have HM := Hid.mk' hM
      clear hM
      go_wp2_with (first
        | (refine wpList_load_u8s Try.underlying44 i16g rfl _ rfl g (nts M) HML.out rfl H0.out ?_)
        | (refine wpList_store_u8s i16g rfl _ _ rfl (g + 2) (nts M) HML.out rfl (by exact rfl) _ (by simp [u8s]) H2.out ?_; intro w2 hb2 hbut2))
      refine bodyPost_ret (results_cell_row rfl _ _ (g + 2) _ _ _ _ rfl hb2 Try.underlying44 rfl (by rw [i16g]; simp [u8s, HML.out])) rfl ⟨by rw [HM.out], ?_⟩
      exact HBT.out.then hbut2 (fun i hi e => by have := HG.out; omega)
end Go.Proofs.Ythmjdebnjcopnaa
/- The reference's Blocks of layer 7. -/
namespace Go.Proofs.Ythmjdebnjcopnaa
open Go.RowKit

/-- The bytes filled up to whole blocks. -/
def padB (xs : List Nat) : List Nat := xs ++ List.replicate ((16 - xs.length % 16) % 16) 0
def nblk (n : Nat) : Nat := (n + 15) / 16
theorem padB_len (xs : List Nat) : (padB xs).length = nblk xs.length * 16 := by
  unfold padB nblk; rw [List.length_append, List.length_replicate]; omega
/-- The first k bytes, and room for one more in their last block. -/
def room (xs : List Nat) (k : Nat) : List Nat := xs.take k ++ List.replicate (16 - k % 16) 0
theorem room_len (xs : List Nat) (k : Nat) (h : k < xs.length) : (room xs k).length = (k / 16 + 1) * 16 := by
  unfold room; rw [List.length_append, List.length_take, List.length_replicate]; omega
theorem padB_take (xs : List Nat) (k : Nat) (h : k ≤ xs.length) : padB (xs.take k) = xs.take k ++ List.replicate ((16 - k % 16) % 16) 0 := by
  unfold padB
  rw [List.length_take, Nat.min_eq_left h]
theorem room_set (xs : List Nat) (k : Nat) (h : k < xs.length) : (room xs k).set k (xs.getD k 0) = padB (xs.take (k + 1)) := by
  rw [padB_take xs (k + 1) (by omega)]
  unfold room
  have hl : (xs.take k).length = k := by rw [List.length_take]; omega
  rw [List.set_append, if_neg (by omega), hl, Nat.sub_self]
  obtain ⟨m, hm⟩ : ∃ m, 16 - k % 16 = m + 1 := ⟨15 - k % 16, by omega⟩
  rw [hm, List.replicate_succ, List.set_cons_zero, show (16 - (k + 1) % 16) % 16 = m by omega]
  have g : xs.getD k 0 = xs[k] := by simp [List.getD, List.getElem?_eq_getElem h]
  rw [List.take_succ_eq_append_getElem h, g, List.append_assoc]
  rfl
theorem row16 (w : World) : (Instr.buildSlice 122 1 #[(0, .agg (u8s (List.replicate 16 0)).toArray)]).run Try.prog w = .ok (.slice (some ⟨w.heap.size, 0, none⟩) 1 1) (w.alloc (.cells (u8s (List.replicate 16 0)).toArray 44)) := by kernel_rfl
theorem info16 : (Try.prog.info? 44).map (fun i => (i.zero, i.size, i.bytes)) = some (some (.agg (u8s (List.replicate 16 0)).toArray), 16, 16) := by kernel_rfl
theorem addr_add' (g k : Nat) : (⟨g, 0, none⟩ : Addr).add k = ⟨g, k, none⟩ := by
  by_cases e : k = 0
  · subst e; simp [Addr.add]
  · simp [Addr.add, e]
theorem but_grown {w w' : World} {v : Value} (h : w.grownBy w' v.ownBlock) : But (fun j => v.ownBlock = some j) w w' := ⟨h.os, h.tape, h.output, h.size, fun j hj hn => h.block j hj (fun e => hn e.symm)⟩
set_option maxRecDepth 100000 in
set_option maxHeartbeats 1000000 in
theorem rgblocks_any {w : World} {v : Value} {xs : List Nat} (hv : Bs w v xs) (hl : xs.length ≤ 100000) :
    Calls Try.prog 76 #[v] w fun e w' => ∃ vB, e = .returned vB ∧ w'.ownsRow w.heap.size 44 16 vB (nblk xs.length) (u8s (padB xs)) ∧ But (fun _ => False) w w' := by
  have HV := Hid.mk' hv
  obtain ⟨n, hn⟩ : ∃ n, n = xs.length := ⟨_, rfl⟩
  have hshape : ∃ ao cap, v = .slice ao n cap := by
    obtain ⟨_, _, ⟨h0, rfl | ⟨a, c, rfl⟩⟩ | ⟨_, b, o, c, rfl, _⟩⟩ := hv
    · exact ⟨none, 0, by rw [hn, h0]; rfl⟩
    · exact ⟨some a, c, by rw [hn, h0]; rfl⟩
    · exact ⟨_, c, by rw [hn]⟩
  obtain ⟨ao, cap, rfl⟩ := hshape
  rw [← hn] at hl ⊢
  have HN := Hid.mk' hn
  clear hv hn
  go_enter Try.func76, Try.ntmps76
  go_wp2
  go_loopw [3, 4] (fun o i wr => ∃ k : Nat, k ≤ n ∧ i = .int .i64 k ∧ wr.ownsRow w.heap.size 44 16 o (nblk k) (u8s (padB (xs.take k))) ∧ But (fun _ => False) w wr) (fun _ i _ => n - (intOf i).toNat)
  case atStart => exact ⟨0, by omega, rfl, by simpa [nblk, padB] using World.ownsRow_nil w w.heap.size 44 16, But.refl _ w⟩
  case round =>
    obtain ⟨k, hk, rfl, hown, hbt⟩ := hrel
    have HOWN := Hid.mk' hown
    have HBT := Hid.mk' hbt
    clear hown hbt
    by_cases hlt : k < n
    · have hki : (k : Int) < (n : Int) := by omega
      have hbs := HV.out.but HBT.out (fun _ _ _ h => h)
      obtain ⟨bb, off, rfl, hbb⟩ : ∃ bb off, ao = some ⟨bb, off, none⟩ ∧ (∀ i, i < n → w.cell? ⟨bb, off + i, none⟩ = some (.int .u8 (xs.getD i 0 : Nat)) ∧ bb < w.heap.size) := by
        obtain ⟨_, _, ⟨h0, _⟩ | ⟨_, b, o, c, he, _, hlt, hc⟩⟩ := HV.out
        · exfalso
          have := HN.out
          rw [h0] at this
          simp at this
          omega
        · injection he with e1 e2 e3
          exact ⟨b, o, e1, fun i hi => ⟨hc i (by rw [← HN.out]; exact hi), hlt⟩⟩
      obtain ⟨q, hq⟩ : ∃ q, q = k / 16 := ⟨_, rfl⟩
      obtain ⟨r, hr⟩ : ∃ r, r = k % 16 := ⟨_, rfl⟩
      obtain ⟨x, hx⟩ : ∃ x, x = xs.getD k 0 := ⟨_, rfl⟩
      have hx256 : x < 256 := by rw [hx]; exact HV.out.1 _ (getD_mem xs k (by rw [← HN.out]; exact hlt))
      have d3 : Int.tmod (k : Int) 16 = (r : Int) := by rw [Int.tmod_eq_emod_of_nonneg (by omega)]; omega
      have d1 : Int.tdiv (k : Int) 16 = (q : Int) := by rw [Int.tdiv_eq_ediv_of_nonneg (by omega)]; omega
      have d2 : IntKind.i64.wrap (q : Int) = (q : Int) := by simp [IntKind.wrap, IntKind.bits, IntKind.signed]; omega
      have hr16 : r < 16 := by omega
      have hr16' : (r : Int) < 16 := by omega
      have hqq : (q : Int) < ((q + 1 : Nat) : Int) := by omega
      have hqq2 : (q : Int) < (q : Int) + 1 := by omega
      have HE : Hid (q * 16 + r = k ∧ q = k / 16 ∧ r = k % 16) := by show _ ∧ _; omega
      have HXE := Hid.mk' hx
      have HCB := Hid.mk' hbb
      clear hq hr hx hbb hbs
      by_cases h0 : r = 0
      case' pos =>
        have e0 : ((r : Int) == 0) = true := by rw [h0]; rfl
        have HR0 := Hid.mk' h0
        clear h0
        obtain ⟨i0, hi0, hy0, hy1, hy2⟩ := info_parts info16
        have HI0 := Hid.mk' hi0
        have HY0 := Hid.mk' hy0
        have HY1 := Hid.mk' hy1
        have HY2 := Hid.mk' hy2
        clear hi0 hy0 hy1 hy2
        have HCN : Hid (∀ j u, (u8s (List.replicate 16 0))[j]? = some u → (wr.alloc (.cells (u8s (List.replicate 16 0)).toArray 44)).cell? ((⟨wr.heap.size, 0, none⟩ : Addr).add j) = some u) := by
          intro j u hj
          have hb : Blk (wr.alloc (.cells (u8s (List.replicate 16 0)).toArray 44)) wr.heap.size 44 (u8s (List.replicate 16 0)) := Blk.new rfl
          rw [addr_add']
          exact (hb.cell j).trans hj
        have HOA := Hid.mk' (HOWN.out.alloc (.cells (u8s (List.replicate 16 0)).toArray 44))
        have HBA := Hid.mk' (HBT.out.alloc (.cells (u8s (List.replicate 16 0)).toArray 44))
        generalize hWA : wr.alloc (.cells (u8s (List.replicate 16 0)).toArray 44) = WA at *
        have HWA := Hid.mk' hWA
        clear hWA
        have hnb : nblk k ≤ 10000 := by unfold nblk; omega
        go_upto_region 7 with (first
          | (refine wpList_build rfl _ _ rfl (by kernel_rfl) ?_
             rw [show (Try.prog.built 44 _).getD #[] = (u8s (List.replicate 16 0)).toArray by kernel_rfl]
             refine wpList_plain rfl (fun K hK => op_row1 122 _ _ _ rfl rfl (row16 _) (hK _ _ ?_))
             rw [HWA.out]
             refine wpList_append_own WA rfl _ _ 122 rfl w.heap.size 44 i0 _ 16 16 Try.underlying122 HI0.out HY0.out HY1.out HY2.out rfl (by decide) _ (nblk k) _ rfl HOA.out ⟨wr.heap.size, 0, none⟩ 1 1 (u8s (List.replicate 16 0)) rfl rfl HCN.out (u8s_one _) (by unfold maxLen; omega) (by omega) HBA.out.size ?_
             intro v' w' hown' hgr' hiff)
          | fail)
        clear hiff
        have hnk : nblk k + 1 = q + 1 := by have := HE.out; have := HR0.out; unfold nblk; omega
        have HBW : Hid (But (fun _ => False) w w') := HBA.out.then (but_grown hgr') (fun j hj e => by
          have := (HOA.out.lt j e).1
          omega)
        obtain ⟨gr, cp, hshape⟩ : ∃ gr cp, v' = .slice (some ⟨gr, 0, none⟩) (q + 1) cp := by
          obtain ⟨_, ⟨_, hz⟩ | ⟨gr, cp, cur, h, _⟩⟩ := hown'
          · omega
          · exact ⟨gr, cp, by rw [h, hnk]⟩
        subst hshape
        have HOW : Hid (w'.ownsRow w.heap.size 44 16 (.slice (some ⟨gr, 0, none⟩) (q + 1) cp) (q + 1) (u8s (room xs k))) := by
          have h := hown'
          rw [hnk, padB_take xs k (by rw [← HN.out]; omega)] at h
          have hk0 : k % 16 = 0 := by have := HE.out; have := HR0.out; omega
          unfold room
          rw [hk0] at h ⊢
          rw [show (16 - 0) % 16 = 0 from rfl, List.replicate_zero, List.append_nil] at h
          rw [show 16 - 0 = 16 from rfl]
          unfold u8s at h ⊢
          rw [List.map_append]
          exact h
        clear hown' hgr' hnk HOA HBA HCN HI0 HY0 HY1 HY2 HWA hnb HR0
      case' neg =>
        have e0 : ((r : Int) == 0) = false := by rw [beq_eq_false_iff_ne]; intro h; exact h0 (by omega)
        have HR0 := Hid.mk' h0
        clear h0
        have hnk : nblk k = q + 1 := by have := HE.out; have := HR0.out; unfold nblk; omega
        obtain ⟨gr, cp, hshape⟩ : ∃ gr cp, u3 = .slice (some ⟨gr, 0, none⟩) (q + 1) cp := by
          obtain ⟨_, ⟨_, hz⟩ | ⟨gr, cp, cur, h, _⟩⟩ := HOWN.out
          · omega
          · exact ⟨gr, cp, by rw [h, hnk]⟩
        subst hshape
        obtain ⟨w', hw'⟩ : ∃ w', w' = wr := ⟨_, rfl⟩
        have HOW : Hid (w'.ownsRow w.heap.size 44 16 (.slice (some ⟨gr, 0, none⟩) (q + 1) cp) (q + 1) (u8s (room xs k))) := by
          have h := HOWN.out
          rw [hnk, padB_take xs k (by rw [← HN.out]; omega)] at h
          have e : (16 - k % 16) % 16 = 16 - k % 16 := by have := HE.out; have := HR0.out; omega
          rw [e] at h
          rw [hw']; exact h
        have HBW : Hid (But (fun _ => False) w w') := by rw [hw']; exact HBT.out
        rw [← hw']
        clear hw' hnk HR0
        go_upto_region 7 with fail
      all_goals
        have hlen := room_len xs k (by rw [← HN.out]; exact hlt)
        have hqk := HE.out
        have ck : w'.cell? ⟨gr, q * 16 + r, none⟩ = some (.int .u8 ((room xs k).getD (q * 16 + r) 0 : Nat)) := by
          have h := HOW.out.cells (g := gr) rfl (q * 16 + r) (.int .u8 ((room xs k).getD (q * 16 + r) 0 : Nat)) (u8s_get _ _ (by omega))
          rw [addr_add'] at h
          exact h
        have fk := HOW.out.frozenAt (q * 16 + r)
        have cb : w'.cell? ⟨bb, off + k, none⟩ = some (.int .u8 (x : Nat)) := by
          have h := HCB.out k hlt
          rw [HXE.out, ← h.1]
          exact World.cell?_of_block (HBW.out.block bb h.2 (fun h => h))
        generalize (room xs k).getD (q * 16 + r) 0 = old at ck
        clear hlen hqk
        refine region_ends (l := [_, _, _, _, _, _, _, _, _, _, _]) (o := _) (by kernel_rfl) (by kernel_rfl) (by kernel_rfl) rfl (by kernel_rfl) (by kernel_rfl) ?_
        repeat (quiet_step (fail))
        refine wpQuiet_nil ?_
        intro _ hw'
        obtain ⟨nq, hw''⟩ := hw'
        subst hw''
        go_wp2
        have hst := ((show (w'.drewN nq).ownsRow w.heap.size 44 16 (.slice (some ⟨gr, 0, none⟩) (q + 1) cp) (q + 1) (u8s (room xs k)) from HOW.out).stored (q * 16 + r) (.int .u8 (x : Nat))).1
        have hqk := HE.out
        have hgr := (HOW.out.lt gr rfl).1
        have hs2 : But (· = gr) w' ((w'.drewN nq).setCell ⟨gr, q * 16 + r, none⟩ (.int .u8 (x : Nat))) := ((But.refl (· = gr) w').drewN (n := nq)).setCell (p := ⟨gr, q * 16 + r, none⟩) (fun _ => rfl) _
        refine ⟨⟨k + 1, by omega, by go_num, ?_, HBW.out.then hs2 (fun i hi e => by omega)⟩, by simp [intOf]; omega⟩
        rw [← room_set xs k (by rw [← HN.out]; exact hlt), ← HXE.out, show nblk (k + 1) = q + 1 by unfold nblk; omega, ← u8s_set]
        rw [hqk.1] at hst ⊢
        exact hst
    · have hkn : k = n := by omega
      have hki : ¬ ((k : Int) < (n : Int)) := by omega
      go_wp2
      go_ret
      refine ⟨u3, rfl, ?_, HBT.out⟩
      have h := HOWN.out
      rw [hkn, List.take_of_length_le (by rw [← HN.out]; omega)] at h
      exact h
end Go.Proofs.Ythmjdebnjcopnaa
/- The reference's Sum. -/
namespace Go.Proofs.Ythmjdebnjcopnaa
open Go.RowKit

/-- How many bits so many bytes have, in eight bytes, the highest first. -/
def lenB (n i : Nat) : Nat := 8 * n / 2 ^ (56 - 8 * i) % 256
/-- The last block: of two lengths. -/
def lastB (a t : Nat) : List Nat := (List.range 16).map fun j => if j < 8 then lenB a j else lenB t (j - 8)
def blkAt (L : List Nat) (k : Nat) : List B8 := mk16 fun i => BitVec.ofNat 8 (L.getD (16 * k + i) 0)
def gsumN (h : List B8) (L : List Nat) : Nat → List B8
  | 0 => gzero
  | k + 1 => gtimes (gadd (gsumN h L k) (blkAt L k)) h
def gall (aad text : List Nat) : List Nat := padB aad ++ padB text ++ lastB aad.length text.length
def gsum (h : List B8) (aad text : List Nat) : List B8 := gsumN h (gall aad text) (nblk aad.length + nblk text.length + 1)
theorem lastB_len (a t : Nat) : (lastB a t).length = 16 := by simp [lastB]
theorem gsumN_len (h : List B8) (L : List Nat) (k : Nat) : (gsumN h L k).length = 16 := by
  cases k
  · simp [gsumN, gzero]
  · exact gtimes_len _ _
theorem gall_len (aad text : List Nat) : (gall aad text).length = (nblk aad.length + nblk text.length + 1) * 16 := by
  unfold gall
  rw [List.length_append, List.length_append, padB_len, padB_len, lastB_len]; omega
theorem lenB_lt (n i : Nat) : lenB n i < 256 := Nat.mod_lt _ (by decide)
theorem padB_lt {xs : List Nat} (h : ∀ z ∈ xs, z < 256) : ∀ z ∈ padB xs, z < 256 := by
  intro z hz
  rcases List.mem_append.1 hz with h1 | h1
  · exact h z h1
  · rw [(List.mem_replicate.1 h1).2]; decide
theorem lastB_lt (a t : Nat) : ∀ z ∈ lastB a t, z < 256 := by
  intro z hz
  obtain ⟨j, _, rfl⟩ := List.mem_map.1 hz
  show (if j < 8 then lenB a j else lenB t (j - 8)) < 256
  split <;> exact lenB_lt _ _
theorem gall_lt {aad text : List Nat} (h1 : ∀ z ∈ aad, z < 256) (h2 : ∀ z ∈ text, z < 256) : ∀ z ∈ gall aad text, z < 256 := by
  intro z hz
  rcases List.mem_append.1 hz with h | h
  · rcases List.mem_append.1 h with h | h
    · exact padB_lt h1 z h
    · exact padB_lt h2 z h
  · exact lastB_lt _ _ z h
theorem blkAt_len (L : List Nat) (k : Nat) : (blkAt L k).length = 16 := mk16_len _
theorem blkAt_cell {L : List Nat} (hL : ∀ z ∈ L, z < 256) (k : Nat) (hk : 16 * k + 16 ≤ L.length) (j : Nat) (v : Value) (h : (u8s (nts (blkAt L k)))[j]? = some v) : j < 16 ∧ (u8s L)[16 * k + j]? = some v := by
  have hj : j < 16 := by
    have := (List.getElem?_eq_some_iff.1 h).1
    rwa [show (u8s (nts (blkAt L k))).length = 16 by unfold u8s; rw [List.length_map, nts_len, blkAt_len]] at this
  refine ⟨hj, ?_⟩
  rw [← h]
  unfold u8s
  rw [List.getElem?_map, List.getElem?_map, nts_at _ j (by rw [blkAt_len]; exact hj)]
  have hlt : 16 * k + j < L.length := by omega
  have e : L[16 * k + j]? = some (L.getD (16 * k + j) 0) := by simp [List.getD, hlt]
  rw [e]
  unfold blkAt
  rw [mk16_at _ j hj, b8_of _ (hL _ (by simp [List.getD, hlt]))]
theorem wpList_append_ran {w w' : World} {ops : Array Oper} {rest : List Oper} {o : Oper} {a : Act} {Q : Exit → Act → World → Prop} (hgd : o.guard = none) (s x : Operand) (t : TypeId)
    (ho : o.op = .call { callee := .builtin .append, args := #[s, x], argTypes := #[t, t] }) (vs vx : Value) (hs : a.eval s = vs) (hx : a.eval x = vx) {v' : Value}
    (hr : (Builtin.append_ #[t, t] o.type #[vs, vx]).run Try.prog w = .ok v' w')
    (h : wpList Try.prog ops Q rest (a.put o.dst v') w') : wpList Try.prog ops Q (o :: rest) a w :=
  wpList_plain hgd fun _ hK => by
    unfold Oper.wp execOp
    simp only [ho, resolve, invoke, builtin, Sem.run_bind, Sem.run_pure, Result.andThen_ok, List.map_toArray, List.map_cons, List.map_nil, hs, hx, hr]
    exact hK _ _ h
/-- Blocks behind blocks that are the call's own. -/
theorem append_blocks {w : World} {base base2 n m : Nat} {v u : Value} {zs ys : List Nat} (ty : TypeId) (hv : w.ownsRow base 44 16 v n (u8s zs)) (hu : w.ownsRow base2 44 16 u m (u8s ys)) (hl : n + m ≤ 100000) (hb : base ≤ w.heap.size) :
    ∃ v' w', (Builtin.append_ #[122, 122] ty #[v, u]).run Try.prog w = .ok v' w' ∧ w'.ownsRow base 44 16 v' (n + m) (u8s (zs ++ ys)) ∧ w.grownBy w' v.ownBlock := by
  obtain ⟨i0, hi, hz0, hz1, hz2⟩ := info_parts info16
  obtain ⟨hul, h | ⟨g, cap, cur, rfl, -, hblk, hmc, -, hcs, htk⟩⟩ := id hu
  · obtain ⟨rfl, rfl⟩ := h
    have hy : ys = [] := by
      have : (u8s ys).length = 0 := by rw [hul]
      unfold u8s at this
      simpa using this
    subst hy
    have hr := run_append_owned_none (P := Try.prog) w base 122 ty 44 i0 16 Try.underlying122 hi _ n (u8s zs) hv
    exact ⟨v, w, hr, by simpa using hv, World.grownBy.refl _ _⟩
  · obtain ⟨v', w', hr, ho, hg, _⟩ := run_append_own (P := Try.prog) w base 122 ty 44 i0 _ 16 16 Try.underlying122 hi hz0 hz1 hz2 (by simp [Value.cells, u8s]) (by decide) v n (u8s zs) hv ⟨g, 0, none⟩ m cap (u8s ys) hul (by
        intro j x hx
        rw [addr_add', cell_of_row w g j _ _ _ hblk, ← Array.getElem?_toList]
        rw [← htk, List.getElem?_take] at hx
        by_cases hj : j < m * 16
        · rwa [if_pos hj] at hx
        · rw [if_neg hj] at hx; cases hx) (u8s_one _) (by unfold maxLen; omega) (by omega) hb
    refine ⟨v', w', hr, ?_, hg⟩
    rw [show u8s (zs ++ ys) = u8s zs ++ u8s ys by simp [u8s]]
    exact ho
theorem zeroG (w : World) : (zeroValue 44).run Try.prog w = .ok (.agg (u8s (List.replicate 16 0)).toArray) w := by kernel_rfl
/-- The last block with its first k bytes of either half. -/
def partL (a t k : Nat) : List Nat := (List.range 16).map fun j => if j % 8 < k then (if j < 8 then lenB a j else lenB t (j - 8)) else 0
def partL' (a t k : Nat) : List Nat := (partL a t k).set k (lenB a k)
theorem partL_len (a t k : Nat) : (partL a t k).length = 16 := by simp [partL]
theorem partL_zero (a t : Nat) : partL a t 0 = List.replicate 16 0 := by
  apply List.ext_getElem (by simp [partL])
  intro i h1 h2
  simp only [partL, List.getElem_map, List.getElem_replicate]
  rw [if_neg (Nat.not_lt_zero _)]
theorem partL_all (a t : Nat) : partL a t 8 = lastB a t := by
  apply List.ext_getElem (by simp [partL, lastB])
  intro i h1 h2
  simp only [partL, lastB, List.getElem_map, List.getElem_range]
  rw [if_pos (by omega)]
theorem partL_set (a t k : Nat) (hk : k < 8) : (partL' a t k).set (8 + k) (lenB t k) = partL a t (k + 1) := by
  unfold partL'
  apply List.ext_getElem (by simp [partL])
  intro i h1 h2
  have hi : i < 16 := by simpa [partL] using h2
  simp only [List.getElem_set, partL, List.getElem_map, List.getElem_range]
  by_cases e1 : 8 + k = i
  · rw [if_pos e1]
    subst e1
    rw [if_pos (by omega), if_neg (by omega), show 8 + k - 8 = k by omega]
  · rw [if_neg e1]
    by_cases e2 : k = i
    · rw [if_pos e2]
      subst e2
      rw [if_pos (by omega), if_pos (by omega)]
    · rw [if_neg e2]
      by_cases e3 : i % 8 < k
      · rw [if_pos e3, if_pos (show i % 8 < k + 1 by omega)]
      · rw [if_neg e3, if_neg (show ¬ i % 8 < k + 1 by omega)]
theorem build16' (w : World) (a0 a1 a2 a3 a4 a5 a6 a7 a8 a9 a10 a11 a12 a13 a14 a15 : Nat) : (Instr.buildSlice 122 1 #[(0, .agg (u8s [a0, a1, a2, a3, a4, a5, a6, a7, a8, a9, a10, a11, a12, a13, a14, a15]).toArray)]).run Try.prog w = .ok (.slice (some ⟨w.heap.size, 0, none⟩) 1 1) (w.alloc (.cells (u8s [a0, a1, a2, a3, a4, a5, a6, a7, a8, a9, a10, a11, a12, a13, a14, a15]).toArray 44)) := by kernel_rfl
theorem build16 (w : World) (D : List Nat) (h : D.length = 16) : (Instr.buildSlice 122 1 #[(0, .agg (u8s D).toArray)]).run Try.prog w = .ok (.slice (some ⟨w.heap.size, 0, none⟩) 1 1) (w.alloc (.cells (u8s D).toArray 44)) := by
  match D, h with
  | [a0, a1, a2, a3, a4, a5, a6, a7, a8, a9, a10, a11, a12, a13, a14, a15], _ => exact build16' w a0 a1 a2 a3 a4 a5 a6 a7 a8 a9 a10 a11 a12 a13 a14 a15
/-- What memory is amid Sum's last loop. -/
structure SumJ (w : World) (g : Nat) (h : List B8) (gM : Nat) (cur : Array Value) (gy : Nat) (y : List B8) (wr : World) : Prop where
  key : Blk wr g 44 (u8s (nts h))
  res : Blk wr (g + 1) 44 (u8s (List.replicate 16 0))
  row : wr.heap[gM]? = some (.cells cur 44 (0, 0))
  acc : Blk wr gy 44 (u8s (nts y))
  but : But (fun _ => False) w wr
theorem SumJ.then {w wr w' : World} {g : Nat} {h : List B8} {gM : Nat} {cur : Array Value} {gy : Nat} {y : List B8} (i : SumJ w g h gM cur gy y wr) (k : But (fun _ => False) wr w') : SumJ w g h gM cur gy y w' :=
  ⟨i.key.but k (fun h => h), i.res.but k (fun h => h), (k.block gM (lt_of_block i.row) (fun h => h)).trans i.row, i.acc.but k (fun h => h), i.but.trans k⟩
theorem SumJ.put {w wr w' : World} {g : Nat} {h : List B8} {gM : Nat} {cur : Array Value} {gy : Nat} {y y' : List B8} (i : SumJ w g h gM cur gy y wr) (k : But (· = gy) wr w') (hb : Blk w' gy 44 (u8s (nts y'))) (h1 : g + 1 < gy) (h2 : gM < gy) (h3 : w.heap.size ≤ gy) : SumJ w g h gM cur gy y' w' :=
  ⟨i.key.but k (show ¬ (g = gy) by omega), i.res.but k (show ¬ (g + 1 = gy) by omega), (k.block gM (lt_of_block i.row) (show ¬ (gM = gy) by omega)).trans i.row, hb, i.but.then k (fun j hj e => by omega)⟩
theorem run_load16 {w : World} {o : Oper} {a : Act} {x : Operand} {ad : Addr} {D : List Nat} (hD : D.length = 16) (hc : ∀ j v, (u8s D)[j]? = some v → w.cell? (ad.add j) = some v) (ho : o.op = .load 44 x) (hx : a.eval x = .pointer (some ad)) :
    (execOp a.eval o).run Try.prog w = .ok (.value (.agg (u8s D).toArray)) w := by
  have h := run_loadVar_cells w ad 44 (u8s D) _ hc Try.underlying44 rfl (by rw [i16g]; simp [u8s, hD])
  unfold execOp
  simp only [ho, hx, Instr.loadAt, Instr.sureAddr, Sem.run_bind, Sem.run_pure, Result.andThen_ok, h]
theorem blk_add {w : World} {g : Nat} {T : TypeId} {L : List Value} (h : Blk w g T L) : ∀ j v, L[j]? = some v → w.cell? ((⟨g, 0, none⟩ : Addr).add j) = some v := by
  intro j v hv
  rw [addr_add', h.cell]; exact hv
/-- What memory is amid Sum. -/
structure SumI (w : World) (g : Nat) (h : List B8) (base : Nat) (vL : Value) (n : Nat) (L : List Nat) (wr : World) : Prop where
  key : Blk wr g 44 (u8s (nts h))
  res : Blk wr (g + 1) 44 (u8s (List.replicate 16 0))
  own : wr.ownsRow base 44 16 vL n (u8s L)
  but : But (fun _ => False) w wr
theorem ownsRow_but {R : Nat → Prop} {w w' : World} {base n : Nat} {e : TypeId} {size : Nat} {v : Value} {xs : List Value} (h : w.ownsRow base e size v n xs) (k : But R w w') (hr : ∀ j, v.ownBlock = some j → ¬ R j) : w'.ownsRow base e size v n xs := by
  obtain ⟨hl, h | ⟨g, cap, cur, rfl, hge, hb, h1, h2, h3, h4⟩⟩ := h
  · exact ⟨hl, .inl h⟩
  · exact ⟨hl, .inr ⟨g, cap, cur, rfl, hge, (k.block g (lt_of_block hb) (hr g rfl)).trans hb, h1, h2, h3, h4⟩⟩
theorem SumI.then {R : Nat → Prop} {w wr w' : World} {g : Nat} {h : List B8} {base : Nat} {vL : Value} {n : Nat} {L : List Nat} (i : SumI w g h base vL n L wr) (k : But R wr w') (h0 : ¬ R g) (h1 : ¬ R (g + 1)) (h2 : ∀ j, vL.ownBlock = some j → ¬ R j) (h3 : ∀ j, j < w.heap.size → ¬ R j) : SumI w g h base vL n L w' :=
  ⟨i.key.but k h0, i.res.but k h1, ownsRow_but i.own k h2, i.but.then k (fun j hj e => h3 j hj e)⟩
theorem own_ge {w : World} {base n : Nat} {e : TypeId} {size : Nat} {v : Value} {xs : List Value} (h : w.ownsRow base e size v n xs) : ∀ j, v.ownBlock = some j → base ≤ j ∧ j < w.heap.size := by
  intro j hj
  obtain ⟨-, ⟨rfl, -⟩ | ⟨g, cap, cur, rfl, hge, hb, -⟩⟩ := h
  · cases hj
  · cases hj; exact ⟨hge, lt_of_block hb⟩
set_option maxRecDepth 100000 in
set_option maxHeartbeats 2000000 in
theorem rgsum_any {w : World} {h : List B8} {v1 v2 : Value} {aad text : List Nat} (hh : h.length = 16) (h1 : Bs w v1 aad) (h2 : Bs w v2 text) (l1 : aad.length ≤ 10000) (l2 : text.length ≤ 10000) :
    Calls Try.prog 53 #[.agg (u8s (nts h)).toArray, v1, v2] w fun e w' => e = .returned (.agg (u8s (nts (gsum h aad text))).toArray) ∧ But (fun _ => False) w w' := by
  have hz := zeroG
  obtain ⟨Z, hZ⟩ : ∃ Z, Z = (u8s (List.replicate 16 0)).toArray := ⟨_, rfl⟩
  rw [← hZ] at hz
  obtain ⟨C, hC⟩ : ∃ C, C = (u8s (nts h)).toArray := ⟨_, rfl⟩
  rw [← hC]
  have HZ := Hid.mk' hZ
  have HC := Hid.mk' hC
  have HAL := Hid.mk' (gall_lt h1.1 h2.1)
  obtain ⟨g, hg⟩ : ∃ g, g = w.heap.size := ⟨_, rfl⟩
  obtain ⟨W0, hW0⟩ : ∃ W0, W0 = ((w.alloc (.cells C 44)).alloc (.cells Z 44)) := ⟨_, rfl⟩
  have hT0 : But (fun _ => False) w W0 := by rw [hW0]; exact ((But.refl _ w).alloc _).alloc _
  have HK0 := Hid.mk' (show Blk W0 g 44 (u8s (nts h)) by rw [hW0, hC]; exact (Blk.new hg.symm).but ((But.refl (fun _ => False) _).alloc _) (fun h => h))
  have HR0 := Hid.mk' (show Blk W0 (g + 1) 44 (u8s (List.replicate 16 0)) by rw [hW0, hZ]; exact Blk.new (by simp [hg]))
  have HB1 := Hid.mk' (rgblocks_any (h1.but hT0 (fun _ _ _ h => h)) (by omega))
  have HV2 := Hid.mk' (h2.but hT0 (fun _ _ _ h => h))
  have HT0 := Hid.mk' hT0
  have HG := Hid.mk' hg
  have HW0 := Hid.mk' hW0
  obtain ⟨ao1, c1, rfl⟩ : ∃ ao c, v1 = .slice ao aad.length c := by obtain ⟨ao, c, e, -, -⟩ := h1.gen; exact ⟨ao, c, e⟩
  obtain ⟨ao2, c2, rfl⟩ : ∃ ao c, v2 = .slice ao text.length c := by obtain ⟨ao, c, e, -, -⟩ := h2.gen; exact ⟨ao, c, e⟩
  have HHN : Hid ((nts h).length = 16) := by show _ = _; rw [nts_len]; exact hh
  have HHL := Hid.mk' hh
  obtain ⟨A, hA⟩ : ∃ A, A = aad.length := ⟨_, rfl⟩
  obtain ⟨T, hT⟩ : ∃ T, T = text.length := ⟨_, rfl⟩
  have HA := Hid.mk' hA
  have HT := Hid.mk' hT
  rw [← hA] at HB1 l1 ⊢
  rw [← hT] at HV2 l2 ⊢
  clear h1 h2 hh hZ hC hg hW0 hT0 hA hT
  go_enter Try.func53, Try.ntmps53
  go_wp2_with fail
  rw [← HW0.out, ← HG.out]
  refine Calls.mono HB1.out ?_
  rintro e w1 ⟨vA, rfl, hoA, hb1⟩
  have HO1 := Hid.mk' hoA
  have HT1 := Hid.mk' hb1
  have HB2 := Hid.mk' (rgblocks_any (HV2.out.but hb1 (fun _ _ _ h => h)) (by rw [← HT.out]; omega))
  rw [← HT.out] at HB2
  clear hoA hb1 HB1 HV2
  go_wp2_with fail
  refine Calls.mono HB2.out ?_
  rintro e w2 ⟨vT, rfl, hoT, hb2⟩
  have hs1 : W0.heap.size ≤ w2.heap.size := Nat.le_trans HT1.out.size hb2.size
  obtain ⟨vL, w3, hrun, hoL, hgr⟩ := append_blocks 122 (ownsRow_but HO1.out hb2 (fun _ _ h => h)) hoT (by unfold nblk; omega) hs1
  have HRUN := Hid.mk' hrun
  have hb3 : But (fun j => vA.ownBlock = some j) w2 w3 := but_grown hgr
  have HSZ : Hid (W0.heap.size ≤ w3.heap.size) := Nat.le_trans hs1 hb3.size
  have hvA := own_ge HO1.out
  have hgA : g + 1 < W0.heap.size := HR0.out.lt
  have hgw := HG.out
  have HT2 := Hid.mk' (HT1.out.trans hb2)
  have HI3 : Hid (SumI w g h W0.heap.size vL (nblk A + nblk T) (padB aad ++ padB text) w3) := by
    refine ⟨(HK0.out.but HT2.out (fun h => h)).but hb3 (fun e => ?_), (HR0.out.but HT2.out (fun h => h)).but hb3 (fun e => ?_), hoL, (HT0.out.trans HT2.out).then hb3 (fun j hj e => ?_)⟩
    · have := (hvA _ e).1; omega
    · have := (hvA _ e).1; omega
    · have := (hvA _ e).1; omega
  clear hoT hb2 hs1 hrun hoL hgr hb3 hvA hgA hgw HT2 HB2 HO1 HT1
  go_wp2_with (first
    | (refine wpList_append_ran rfl _ _ _ rfl vA vT rfl rfl HRUN.out ?_)
    | fail)
  obtain ⟨gl, hgl⟩ : ∃ gl, gl = w3.heap.size := ⟨_, rfl⟩
  obtain ⟨w4, hw4⟩ : ∃ w4, w4 = w3.alloc (.cells Z 44) := ⟨_, rfl⟩
  rw [← hw4, ← hgl]
  have hb4 : But (fun _ => False) w3 w4 := by rw [hw4]; exact (But.refl _ w3).alloc _
  have HI4 := Hid.mk' (HI3.out.then hb4 (fun h => h) (fun h => h) (fun _ _ h => h) (fun _ _ h => h))
  have HL4 := Hid.mk' (show Blk w4 gl 44 (u8s (partL A T 0)) by rw [hw4, HZ.out, partL_zero]; exact Blk.new hgl.symm)
  have HGL : Hid (g + 1 < gl ∧ (∀ j, vL.ownBlock = some j → j < gl) ∧ w.heap.size ≤ gl ∧ W0.heap.size ≤ gl) := by
    rw [hgl]
    exact ⟨HI3.out.res.lt, fun j hj => (own_ge HI3.out.own j hj).2, HI3.out.but.size, HSZ.out⟩
  clear hgl hw4 hb4 HI3 HRUN
  go_loopw [9] (fun i wr => ∃ k : Nat, k ≤ 8 ∧ i = .int .i64 k ∧ SumI w g h W0.heap.size vL (nblk A + nblk T) (padB aad ++ padB text) wr ∧ Blk wr gl 44 (u8s (partL A T k))) (fun i _ => 8 - (intOf i).toNat)
  case atStart => exact ⟨0, by decide, rfl, HI4.out, HL4.out⟩
  case round =>
    obtain ⟨k, hk, rfl, hI, hB⟩ := hrel
    have HI := Hid.mk' hI
    have HB := Hid.mk' hB
    clear hI hB HI4 HL4
    by_cases hlt : k < 8
    · have hki : (k : Int) < 8 := by omega
      obtain ⟨s, hs⟩ : ∃ s, s = 56 - 8 * k := ⟨_, rfl⟩
      have w1 : (56 : Int) - 8 * (k : Int) = (s : Int) := by omega
      have hs57 : s ≤ 56 := by omega
      obtain ⟨m, hm⟩ : ∃ m, m = 8 + k := ⟨_, rfl⟩
      have w2 : (8 : Int) + (k : Int) = (m : Int) := by omega
      have hm16 : (m : Int) < 16 := by omega
      have HS := Hid.mk' hs
      have HM := Hid.mk' hm
      obtain ⟨y1, hy1⟩ : ∃ y, y = (partL A T k).getD k 0 := ⟨_, rfl⟩
      have c1 : wr.cell? ⟨gl, k, none⟩ = some (.int .u8 (y1 : Nat)) := by rw [HB.out.cell, hy1]; exact u8s_get _ k (by rw [partL_len]; omega)
      have f1 := HB.out.free k
      have HV1 : Hid ((8 : Int) * (A : Int) / 2 ^ s % 256 = (lenB A k : Int)) := by show _ = _; unfold lenB; rw [← hs]; simp
      have HV2 : Hid ((8 : Int) * (T : Int) / 2 ^ s % 256 = (lenB T k : Int)) := by show _ = _; unfold lenB; rw [← hs]; simp
      clear hs hm hy1
      go_upto_region 7 with fail
      rw [HV1.out]
      obtain ⟨w5, hw5⟩ : ∃ w5, w5 = wr.setCell ⟨gl, k, none⟩ (.int .u8 (lenB A k : Int)) := ⟨_, rfl⟩
      rw [← hw5]
      have hb5 : But (· = gl) wr w5 := by rw [hw5]; exact (But.refl (· = gl) wr).setCell (p := ⟨gl, k, none⟩) (fun _ => rfl) _
      have HB5 := Hid.mk' (show Blk w5 gl 44 (u8s (partL' A T k)) by rw [hw5]; unfold partL'; rw [← u8s_set]; exact HB.out.set k _)
      have HI5 := Hid.mk' (HI.out.then hb5 (show ¬ (g = gl) by have := HGL.out.1; omega) (show ¬ (g + 1 = gl) by have := HGL.out.1; omega) (fun j hj => show ¬ (j = gl) by have := HGL.out.2.1 j hj; omega) (fun j hj => show ¬ (j = gl) by have := HGL.out.2.2.1; omega))
      obtain ⟨y2, hy2⟩ : ∃ y, y = (partL' A T k).getD m 0 := ⟨_, rfl⟩
      have c2 : w5.cell? ⟨gl, m, none⟩ = some (.int .u8 (y2 : Nat)) := by rw [HB5.out.cell, hy2]; exact u8s_get _ m (by unfold partL'; rw [List.length_set, partL_len]; omega)
      have f2 := HB5.out.free m
      generalize (lenB A k : Int) = q1
      clear hw5 hb5 c1 f1 hy2 HI HB
      go_wp2
      refine ⟨⟨k + 1, by omega, by go_num, ?_, ?_⟩, by simp [intOf]; omega⟩
      · have hb6 : But (· = gl) w5 (w5.setCell ⟨gl, m, none⟩ (.int .u8 (8 * (T : Int) / 2 ^ s % 256))) := (But.refl (· = gl) w5).setCell (p := ⟨gl, m, none⟩) (fun _ => rfl) _
        exact HI5.out.then hb6 (show ¬ (g = gl) by have := HGL.out.1; omega) (show ¬ (g + 1 = gl) by have := HGL.out.1; omega) (fun j hj => show ¬ (j = gl) by have := HGL.out.2.1 j hj; omega) (fun j hj => show ¬ (j = gl) by have := HGL.out.2.2.1; omega)
      · rw [HV2.out, ← partL_set A T k hlt, ← HM.out, ← u8s_set]
        exact HB5.out.set m _
    · have hk8 : k = 8 := by omega
      subst hk8
      rw [partL_all] at HB
      have HLN := Hid.mk' (lastB_len A T)
      obtain ⟨LB, hLB⟩ : ∃ LB, LB = lastB A T := ⟨_, rfl⟩
      rw [← hLB] at HB HLN
      have HLE := Hid.mk' hLB
      obtain ⟨V, hV⟩ : ∃ V, V = (u8s LB).toArray := ⟨_, rfl⟩
      have hbs : (Instr.buildSlice 122 1 #[(0, .agg V)]).run Try.prog wr = .ok (.slice (some ⟨wr.heap.size, 0, none⟩) 1 1) (wr.alloc (.cells V 44)) := by rw [hV]; exact build16 wr LB HLN.out
      have hbw : But (fun _ => False) wr (wr.alloc (.cells V 44)) := (But.refl _ wr).alloc _
      have hsrc : (wr.alloc (.cells V 44)).ownsRow wr.heap.size 44 16 (.slice (some ⟨wr.heap.size, 0, none⟩) 1 1) 1 (u8s LB) := by
        have h := World.ownsRow_lit (base := wr.heap.size) (size := 16) (e := 44) wr V 1 (Nat.le_refl _) (by decide) (by rw [hV]; simp [u8s, HLN.out])
        rw [hV] at h ⊢
        simpa using h
      obtain ⟨vM, w6, hrun, hoM, hgr⟩ := append_blocks 122 (ownsRow_but HI.out.own hbw (fun _ _ h => h)) hsrc (by unfold nblk; omega) (by simp; have := HB.out.lt; have := HGL.out.2.2.2; omega)
      have HRUN := Hid.mk' hrun
      have hb6 : But (fun j => vL.ownBlock = some j) wr w6 := (hbw.mono (fun _ _ h => h.elim)).trans (but_grown hgr)
      have hvL := own_ge HI.out.own
      have HI6 : Hid (SumI w g h W0.heap.size vM (nblk A + nblk T + 1) (gall aad text) w6) := by
        refine ⟨HI.out.key.but hb6 (fun e => ?_), HI.out.res.but hb6 (fun e => ?_), ?_, HI.out.but.then hb6 (fun j hj e => ?_)⟩
        · have := (hvL _ e).1; have := HR0.out.lt; omega
        · have := (hvL _ e).1; have := HR0.out.lt; omega
        · unfold gall; rw [← HA.out, ← HT.out, ← HLE.out]; exact hoM
        · have := (hvL _ e).1; have := HR0.out.lt; have := HG.out; omega
      have HBL := Hid.mk' (HB.out)
      have HVV := Hid.mk' hV
      clear hLB hV hbw hsrc hrun hoM hgr hb6 hvL HI HGL
      have HBS := Hid.mk' hbs
      clear hbs
      go_upto_region 9 with (first
        | (refine wpList_load_u8s Try.underlying44 i16g rfl _ rfl gl LB HLN.out rfl HBL.out ?_
           rw [← HVV.out]
           refine wpList_plain rfl (fun K hK => op_row1 122 _ _ _ rfl rfl HBS.out (hK _ _ ?_))
           refine wpList_append_ran rfl _ _ _ rfl vL (.slice (some ⟨wr.heap.size, 0, none⟩) 1 1) rfl rfl HRUN.out ?_)
        | fail)
      obtain ⟨ng, hng⟩ : ∃ ng, ng = nblk A + nblk T + 1 := ⟨_, rfl⟩
      rw [← hng] at HI6
      have HNG := Hid.mk' hng
      have hng2 : ng ≤ 2000 := by rw [hng]; unfold nblk; omega
      have hng0 : 0 < ng := by omega
      obtain ⟨LL, hLL⟩ : ∃ LL, LL = gall aad text := ⟨_, rfl⟩
      rw [← hLL] at HI6 HAL
      have HLL : Hid (LL.length = ng * 16) := by show _ = _; rw [hLL, gall_len, ← HA.out, ← HT.out, hng]
      have HLG := Hid.mk' hLL
      obtain ⟨gM, cM, curM, hvM, hgM, hblM, -, -, hszM, htkM⟩ : ∃ gM cM curM, vM = .slice (some ⟨gM, 0, none⟩) ng cM ∧ W0.heap.size ≤ gM ∧ w6.heap[gM]? = some (.cells curM 44 (0, 0)) ∧ ng ≤ cM ∧ cM ≤ maxLen ∧ curM.size = cM * 16 ∧ curM.toList.take (ng * 16) = u8s LL := by
        obtain ⟨-, h | h⟩ := HI6.out.own
        · have := h.2; omega
        · exact h
      have HML : Hid (∀ w', But (fun _ => False) w6 w' ∨ True → w'.heap[gM]? = some (.cells curM 44 (0, 0)) → ∀ k, k < ng → ∀ j v, (u8s (nts (blkAt LL k)))[j]? = some v → w'.cell? ((⟨gM, k * 16, none⟩ : Addr).add j) = some v) := by
        intro w' _ hbw' k hk j v hv
        obtain ⟨hj, hc⟩ := blkAt_cell HAL.out k (by rw [HLL.out]; omega) j v hv
        have e : (⟨gM, k * 16, none⟩ : Addr).add j = ⟨gM, 16 * k + j, none⟩ := by rw [Nat.mul_comm]; simp [Addr.add]
        rw [e, cell_of_row w' gM _ _ _ _ hbw', ← Array.getElem?_toList]
        rw [← htkM, List.getElem?_take, if_pos (by omega)] at hc
        exact hc
      subst hvM
      have HGM := Hid.mk' (And.intro hgM (lt_of_block hblM))
      have HBM := Hid.mk' hblM
      have HK6 := Hid.mk' HI6.out.key
      have HR6 := Hid.mk' HI6.out.res
      have HT6 := Hid.mk' HI6.out.but
      clear hgM hblM hszM htkM hng hLL HI6 HRUN HBS HBL
      obtain ⟨gy, hgy⟩ : ∃ gy, gy = w6.heap.size := ⟨_, rfl⟩
      have HJ0 : Hid (SumJ w g h gM curM gy (gsumN h LL 0) (w6.alloc (.cells Z 44))) := by
        have ha : But (fun _ => False) w6 (w6.alloc (.cells Z 44)) := (But.refl _ w6).alloc _
        refine ⟨HK6.out.but ha (fun h => h), HR6.out.but ha (fun h => h), (ha.block gM (lt_of_block HBM.out) (fun h => h)).trans HBM.out, ?_, HT6.out.trans ha⟩
        show Blk _ _ _ (u8s (nts gzero))
        rw [show nts gzero = List.replicate 16 0 by decide, HZ.out]
        exact Blk.new hgy.symm
      have HGY : Hid (g + 1 < gy ∧ gM < gy ∧ w.heap.size ≤ gy) := by
        rw [hgy]
        exact ⟨HR6.out.lt, HGM.out.2, HT6.out.size⟩
      go_wp2
      rw [← hgy]
      generalize w6.alloc (.cells Z 44) = W7 at *
      clear hgy hz HK6 HR6 HT6 HBM HGM
      go_loopw [11] (fun i wr => ∃ k : Nat, k ≤ ng ∧ i = .int .i64 k ∧ SumJ w g h gM curM gy (gsumN h LL k) wr) (fun i _ => ng - (intOf i).toNat)
      case atStart => exact ⟨0, by omega, rfl, HJ0.out⟩
      case round =>
        obtain ⟨k, hk, rfl, hJ⟩ := hrel
        obtain ⟨y, hy⟩ : ∃ y, y = gsumN h LL k := ⟨_, rfl⟩
        have HYL : Hid (y.length = 16) := by show _ = _; rw [hy, gsumN_len]
        have HYN : Hid ((nts y).length = 16) := by show _ = _; rw [nts_len]; exact HYL.out
        rw [← hy] at hJ
        have HYE := Hid.mk' hy
        have HJ := Hid.mk' hJ
        clear hJ hy HJ0
        by_cases hlt : k < ng
        · have hki : (k : Int) < (ng : Int) := by omega
          obtain ⟨B, hB⟩ : ∃ B, B = blkAt LL k := ⟨_, rfl⟩
          have HBN : Hid (B.length = 16) := by show _ = _; rw [hB, blkAt_len]
          have HBN2 : Hid ((nts B).length = 16) := by show _ = _; rw [nts_len]; exact HBN.out
          have HBC : Hid (∀ w', But (fun _ => False) wr w' → ∀ j v, (u8s (nts B))[j]? = some v → w'.cell? ((⟨gM, k * 16, none⟩ : Addr).add j) = some v) := by
            intro w' hw'
            rw [hB]
            exact HML.out w' (.inr trivial) (HJ.out.then hw').row k hlt
          have HBE := Hid.mk' hB
          clear hB
          go_upto_region 13 with fail
          refine region_class (l := [_, _, _, _, _, _, _, _]) (o := _) (fun w' => But (fun _ => False) wr w') (by kernel_rfl) (by kernel_rfl) (by kernel_rfl) rfl (by kernel_rfl) (by kernel_rfl) ((But.refl _ wr).drew) ?_
          refine class_val (.agg (u8s (nts y)).toArray) rfl (fun w' hw' => run_load16 HYN.out (blk_add (HJ.out.then hw').acc) rfl rfl) ?_
          intro K hK; go_simp; refine hK _ ?_; clear hK K
          refine class_val _ rfl (fun w' _ => rfl) ?_
          intro K hK; go_simp; refine hK _ ?_; clear hK K
          refine class_val _ rfl (fun w' _ => rfl) ?_
          intro K hK; go_simp; refine hK _ ?_; clear hK K
          refine class_val (.pointer (some ⟨gM, k * 16, none⟩)) rfl (fun w' _ => by go_simp) ?_
          intro K hK; go_simp; refine hK _ ?_; clear hK K
          refine class_val (.agg (u8s (nts B)).toArray) rfl (fun w' hw' => run_load16 HBN2.out (HBC.out w' hw') rfl rfl) ?_
          intro K hK; go_simp; refine hK _ ?_; clear hK K
          refine class_call (.agg (u8s (nts (gadd y B))).toArray) 52 #[.agg (u8s (nts y)).toArray, .agg (u8s (nts B)).toArray] rfl (fun w' _ => by kernel_rfl) (fun w' hw' => (rgadd_any HYL.out HBN.out).mono (fun e w'' h => ⟨h.1, hw'.trans h.2⟩)) ?_
          intro K hK; go_simp; refine hK _ ?_; clear hK K
          refine class_val (.agg (u8s (nts h)).toArray) rfl (fun w' hw' => run_load16 HHN.out (blk_add (HJ.out.then hw').key) rfl rfl) ?_
          intro K hK; go_simp; refine hK _ ?_; clear hK K
          refine class_call (.agg (u8s (nts (gtimes (gadd y B) h))).toArray) 77 #[.agg (u8s (nts (gadd y B))).toArray, .agg (u8s (nts h)).toArray] rfl (fun w' _ => by kernel_rfl) (fun w' hw' => (rgtimes_any (gadd_len y B) HHL.out).mono (fun e w'' h => ⟨h.1, hw'.trans h.2⟩)) ?_
          intro K hK; go_simp; refine hK _ ?_; clear hK K
          refine wpQuiet_nil ?_
          intro w8 hw8
          have HJ8 := Hid.mk' (HJ.out.then hw8)
          obtain ⟨N, hN⟩ : ∃ N, N = gtimes (gadd y B) h := ⟨_, rfl⟩
          have HNN : Hid ((nts N).length = 16) := by show _ = _; rw [hN, nts_len, gtimes_len]
          rw [← hN]
          have HNE := Hid.mk' hN
          have HYU : Hid ((u8s (nts y)).length = 16) := by show _ = _; unfold u8s; rw [List.length_map]; exact HYN.out
          clear hN
          go_wp2_with (refine wpList_store_u8s i16g rfl _ _ rfl gy (nts N) HNN.out rfl (by exact rfl) _ HYU.out HJ8.out.acc ?_; intro w9 hb9 hbut9)
          refine ⟨⟨k + 1, by omega, by go_num, ?_⟩, by simp [intOf]; omega⟩
          have e : gsumN h LL (k + 1) = N := by
            show gtimes (gadd (gsumN h LL k) (blkAt LL k)) h = N
            rw [← HYE.out, ← HBE.out, HNE.out]
          rw [e]
          exact HJ8.out.put hbut9 hb9 HGY.out.1 HGY.out.2.1 HGY.out.2.2
        · have hkn : k = ng := by omega
          subst hkn
          go_wp2_with (first
            | (refine wpList_load_u8s Try.underlying44 i16g rfl _ rfl gy (nts y) HYN.out rfl HJ.out.acc ?_)
            | (refine wpList_store_u8s i16g rfl _ _ rfl (g + 1) (nts y) HYN.out rfl (by exact rfl) _ (by simp [u8s]) HJ.out.res ?_; intro w9 hb9 hbut9))
          refine bodyPost_ret (results_cell_row rfl _ _ (g + 1) _ _ _ _ rfl hb9 Try.underlying44 rfl (by rw [i16g]; simp [u8s, HYN.out])) rfl ⟨?_, HJ.out.but.then hbut9 (fun j hj e => by have := HG.out; omega)⟩
          unfold gsum
          rw [← HA.out, ← HT.out, ← HNG.out, ← HLG.out, ← HYE.out]
end Go.Proofs.Ythmjdebnjcopnaa
/- Sums over blocks: they are additive, and a byte that is turned turns the sum, under each key but 0. -/
namespace Go.Proofs.Ythmjdebnjcopnaa
open Go.RowKit

/-- Byte j of a list, as an element. -/
def bt (L : List Nat) (j : Nat) : B8 := BitVec.ofNat 8 (L.getD j 0)
theorem blkAt_bt (L : List Nat) (k : Nat) : blkAt L k = mk16 fun i => bt L (16 * k + i) := rfl
def gsG (h : G) (L : List Nat) : Nat → G
  | 0 => 0#128
  | k + 1 => gm (gsG h L k ^^^ toG (blkAt L k)) h
theorem toG_sum (h : List B8) (L : List Nat) : ∀ k, toG (gsumN h L k) = gsG (toG h) L k
  | 0 => toG_zero
  | k + 1 => by
    show toG (gtimes (gadd (gsumN h L k) (blkAt L k)) h) = gm (gsG (toG h) L k ^^^ toG (blkAt L k)) (toG h)
    rw [toG_gtimes, toG_gadd, toG_sum h L k]
theorem mk16_gadd (f g : Nat → B8) : gadd (mk16 f) (mk16 g) = mk16 fun i => f i ^^^ g i := by
  refine at8_ext (gadd_len _ _) (mk16_len _) (fun i hi => ?_)
  unfold gadd
  rw [mk16_at _ i hi, mk16_at _ i hi, mk16_at _ i hi, mk16_at _ i hi]
theorem mk16_congr {f g : Nat → B8} (h : ∀ i, i < 16 → f i = g i) : mk16 f = mk16 g := by
  refine at8_ext (mk16_len _) (mk16_len _) (fun i hi => ?_)
  rw [mk16_at _ i hi, mk16_at _ i hi, h i hi]
theorem mk16_zero : mk16 (fun _ => 0#8) = gzero := by decide
/-- Four lists whose bytes come to 0: so do their sums. -/
theorem four_sums (h : G) {L1 L2 L3 L4 : List Nat} (hz : ∀ j, bt L1 j ^^^ bt L2 j ^^^ bt L3 j ^^^ bt L4 j = 0#8) : ∀ k, gsG h L1 k ^^^ gsG h L2 k ^^^ gsG h L3 k ^^^ gsG h L4 k = 0#128
  | 0 => by simp [gsG]
  | k + 1 => by
    have ih := four_sums h hz k
    have hb : toG (blkAt L1 k) ^^^ toG (blkAt L2 k) ^^^ toG (blkAt L3 k) ^^^ toG (blkAt L4 k) = 0#128 := by
      rw [← toG_gadd, ← toG_gadd, ← toG_gadd, blkAt_bt, blkAt_bt, blkAt_bt, blkAt_bt, mk16_gadd, mk16_gadd, mk16_gadd, mk16_congr (fun i _ => hz (16 * k + i)), mk16_zero, toG_zero]
    show gm (gsG h L1 k ^^^ toG (blkAt L1 k)) h ^^^ gm (gsG h L2 k ^^^ toG (blkAt L2 k)) h ^^^ gm (gsG h L3 k ^^^ toG (blkAt L3 k)) h ^^^ gm (gsG h L4 k ^^^ toG (blkAt L4 k)) h = 0#128
    have e := gm_left h
    rw [← e, ← e, ← e]
    have hs : ∀ a b c d p q r s : G, (a ^^^ p) ^^^ (b ^^^ q) ^^^ (c ^^^ r) ^^^ (d ^^^ s) = (a ^^^ b ^^^ c ^^^ d) ^^^ (p ^^^ q ^^^ r ^^^ s) := by intros; ac_rfl
    rw [hs, ih, hb, BitVec.xor_zero]
    exact zero_gm h
/-- h to so much. -/
def gpw (h : G) : Nat → G
  | 0 => 1#128
  | n + 1 => gm (gpw h n) h
theorem gpw_zero (h : G) (n : Nat) : gpw h n = 0#128 → h = 0#128 := by
  induction n with
  | zero => intro e; exact absurd (show (1#128 : G) = 0#128 from e) (by decide)
  | succ n ih =>
    intro e
    rcases gm_eq_zero.1 e with e | e
    · exact ih e
    · exact e
/-- Two lists that differ in one byte alone. -/
theorem one_sum (h : G) {L M : List Nat} (i : Nat) (hd : ∀ j, j ≠ i → bt L j = bt M j) : ∀ k, gsG h L k ^^^ gsG h M k = if k ≤ i / 16 then 0#128 else gm (toG (blkAt L (i / 16)) ^^^ toG (blkAt M (i / 16))) (gpw h (k - i / 16))
  | 0 => by simp [gsG]
  | k + 1 => by
    have ih := one_sum h i hd k
    have e := gm_left h
    show gm (gsG h L k ^^^ toG (blkAt L k)) h ^^^ gm (gsG h M k ^^^ toG (blkAt M k)) h = _
    rw [← e]
    have hs : ∀ a b p q : G, (a ^^^ p) ^^^ (b ^^^ q) = (a ^^^ b) ^^^ (p ^^^ q) := by intros; ac_rfl
    rw [hs, ih]
    have same : ∀ q, q ≠ i / 16 → toG (blkAt L q) ^^^ toG (blkAt M q) = 0#128 := by
      intro q hq
      have : blkAt L q = blkAt M q := by
        rw [blkAt_bt, blkAt_bt]
        exact mk16_congr (fun t ht => hd _ (by omega))
      rw [this]; exact BitVec.xor_self
    by_cases h1 : k < i / 16
    · rw [if_pos (by omega), if_pos (by omega), same k (by omega), BitVec.xor_zero]
      exact zero_gm h
    · by_cases h2 : k = i / 16
      · rw [if_pos (by omega), if_neg (by omega), h2, show i / 16 + 1 - i / 16 = 1 by omega, BitVec.zero_xor]
        show _ = gm _ (gm 1#128 h)
        rw [one_gm]
      · rw [if_neg (by omega), if_neg (by omega), same k h2, BitVec.xor_zero, show k + 1 - i / 16 = (k - i / 16) + 1 by omega]
        show _ = gm _ (gm (gpw h (k - i / 16)) h)
        rw [gm_assoc]
theorem xor_zero_iff {n : Nat} (a b : BitVec n) : a ^^^ b = 0#n ↔ a = b := by
  constructor
  · intro e
    have : a ^^^ b ^^^ b = b := by rw [e, BitVec.zero_xor]
    rwa [BitVec.xor_assoc, BitVec.xor_self, BitVec.xor_zero] at this
  · rintro rfl; exact BitVec.xor_self
/-- A byte that is turned turns the sum, under each key but 0. -/
theorem turned_sum {h : List B8} (hh : h.length = 16) {L M : List Nat} (i n : Nat) (hi : i < 16 * n) (hd : ∀ j, j ≠ i → bt L j = bt M j) : (gsumN h L n = gsumN h M n) = (bt L i = bt M i ∨ h = gzero) := by
  have e1 : (gsumN h L n = gsumN h M n) = (gsG (toG h) L n ^^^ gsG (toG h) M n = 0#128) := by
    rw [← toG_sum, ← toG_sum]
    refine propext ⟨fun e => by rw [e]; exact BitVec.xor_self, fun e => toG_inj (gsumN_len _ _ _) (gsumN_len _ _ _) ((xor_zero_iff _ _).1 e)⟩
  rw [e1, one_sum (toG h) i hd n, if_neg (by omega)]
  refine propext ⟨fun e => ?_, fun e => ?_⟩
  · rcases gm_eq_zero.1 e with e | e
    · left
      have e2 := toG_inj (blkAt_len _ _) (blkAt_len _ _) ((xor_zero_iff _ _).1 e)
      have e3 : at8 (blkAt L (i / 16)) (i % 16) = at8 (blkAt M (i / 16)) (i % 16) := by rw [e2]
      rw [blkAt_bt, blkAt_bt, mk16_at _ _ (by omega), mk16_at _ _ (by omega)] at e3
      rwa [show 16 * (i / 16) + i % 16 = i by omega] at e3
    · right
      have e2 := gpw_zero _ _ e
      rw [← toG_zero] at e2
      exact toG_inj hh (by simp [gzero]) e2
  · rcases e with e | e
    · have e2 : blkAt L (i / 16) = blkAt M (i / 16) := by
        rw [blkAt_bt, blkAt_bt]
        refine mk16_congr (fun t ht => ?_)
        by_cases h1 : 16 * (i / 16) + t = i
        · rw [h1]; exact e
        · exact hd _ h1
      rw [e2, BitVec.xor_self]; exact zero_gm _
    · rw [e, toG_zero]
      obtain ⟨m, hm⟩ : ∃ m, n - i / 16 = m + 1 := ⟨n - i / 16 - 1, by omega⟩
      rw [hm]
      show gm _ (gm _ 0#128) = _
      rw [gm_zero, gm_zero]
theorem padB_set (xs : List Nat) (i z : Nat) (h : i < xs.length) : padB (xs.set i z) = (padB xs).set i z := by
  unfold padB
  rw [List.length_set, List.set_append_left _ _ h]
theorem bt_set (L : List Nat) (i z j : Nat) (h : i < L.length) : bt (L.set i z) j = if j = i then BitVec.ofNat 8 z else bt L j := by
  unfold bt List.getD
  by_cases e : j = i
  · subst e; rw [if_pos rfl, List.getElem?_set_self h]; rfl
  · rw [if_neg e, List.getElem?_set_ne (fun h => e h.symm)]
end Go.Proofs.Ythmjdebnjcopnaa
/- Products and sums of the great field in bytes: its rules, and what the document tells, computed. -/
namespace Go.Proofs.Ythmjdebnjcopnaa
open Go.RowKit

def gone : List B8 := [128#8, 0#8, 0#8, 0#8, 0#8, 0#8, 0#8, 0#8, 0#8, 0#8, 0#8, 0#8, 0#8, 0#8, 0#8, 0#8]
theorem gone_len : gone.length = 16 := rfl
theorem gzero_len : gzero.length = 16 := by simp [gzero]
theorem toG_one : toG gone = 1#128 := by decide +kernel
theorem gtimes_comm (a b : List B8) : gtimes a b = gtimes b a := by unfold gtimes; rw [gm_comm]
theorem gtimes_assoc (a b c : List B8) : gtimes a (gtimes b c) = gtimes (gtimes a b) c := by
  unfold gtimes
  rw [toG_ofG, toG_ofG, gm_assoc]
theorem gtimes_gadd (a b c : List B8) : gtimes a (gadd b c) = gadd (gtimes a b) (gtimes a c) := by
  refine toG_inj (gtimes_len _ _) (gadd_len _ _) ?_
  rw [toG_gtimes, toG_gadd, toG_gadd, toG_gtimes, toG_gtimes]
  exact gm_right (toG a) (toG b) (toG c)
theorem gtimes_one {a : List B8} (ha : a.length = 16) : gtimes a gone = a := by
  unfold gtimes
  rw [toG_one, gm_one, ofG_toG ha]
theorem one_gtimes {a : List B8} (ha : a.length = 16) : gtimes gone a = a := by rw [gtimes_comm, gtimes_one ha]
theorem gtimes_zero {a b : List B8} (ha : a.length = 16) (hb : b.length = 16) : (gtimes a b = gzero) = (a = gzero ∨ b = gzero) := by
  refine propext ⟨fun e => ?_, fun e => ?_⟩
  · have e2 : gm (toG a) (toG b) = 0#128 := by rw [← toG_gtimes, e, toG_zero]
    rcases gm_eq_zero.1 e2 with e | e
    · exact .inl (toG_inj ha gzero_len (by rw [e, toG_zero]))
    · exact .inr (toG_inj hb gzero_len (by rw [e, toG_zero]))
  · refine toG_inj (gtimes_len _ _) gzero_len ?_
    rw [toG_gtimes, toG_zero]
    rcases e with e | e <;> rw [e, toG_zero]
    · exact zero_gm _
    · exact gm_zero _
theorem gadd_self (a : List B8) : gadd a a = gzero := by
  refine at8_ext (gadd_len _ _) gzero_len (fun i hi => ?_)
  unfold gadd
  rw [mk16_at _ i hi, gzero_at, BitVec.xor_self]; rfl
theorem zero_gadd {a : List B8} (ha : a.length = 16) : gadd gzero a = a := by
  refine at8_ext (gadd_len _ _) ha (fun i hi => ?_)
  unfold gadd
  rw [mk16_at _ i hi, gzero_at]
  exact BitVec.zero_xor
/-- Four sums that come to 0, in bytes. -/
theorem four_zero {a b c d : List B8} (h : toG a ^^^ toG b ^^^ toG c ^^^ toG d = 0#128) : gadd (gadd a b) (gadd c d) = gzero := by
  refine toG_inj (gadd_len _ _) gzero_len ?_
  rw [toG_gadd, toG_gadd, toG_gadd, toG_zero, ← h]; ac_rfl
def knownH : List B8 := [102#8, 233#8, 75#8, 212#8, 239#8, 138#8, 44#8, 59#8, 136#8, 76#8, 250#8, 89#8, 202#8, 52#8, 43#8, 46#8]
def knownT : List Nat := [3, 136, 218, 206, 96, 182, 163, 146, 243, 40, 194, 185, 113, 178, 254, 120]
def knownY : List B8 := [94#8, 46#8, 199#8, 70#8, 145#8, 112#8, 98#8, 136#8, 44#8, 133#8, 176#8, 104#8, 83#8, 83#8, 222#8, 183#8]
def knownX : List B8 := [94#8, 46#8, 199#8, 70#8, 145#8, 112#8, 98#8, 136#8, 44#8, 133#8, 176#8, 104#8, 83#8, 83#8, 222#8, 55#8]
def knownS : List B8 := [243#8, 140#8, 187#8, 26#8, 214#8, 146#8, 35#8, 220#8, 195#8, 69#8, 122#8, 229#8, 182#8, 176#8, 248#8, 133#8]
theorem known_one : gtimes (gadd gzero (blkAt (gall [] knownT) 0)) knownH = knownY := by decide +kernel
theorem known_two : gtimes (gadd knownY (blkAt (gall [] knownT) 1)) knownH = knownS := by decide +kernel
theorem known_sum : gsum knownH [] knownT = knownS := by
  show gtimes (gadd (gtimes (gadd gzero (blkAt (gall [] knownT) 0)) knownH) (blkAt (gall [] knownT) 1)) knownH = knownS
  rw [known_one, known_two]
theorem none_sum {h : List B8} : gsum h [] [] = gzero := by
  show gtimes (gadd gzero (blkAt (gall [] []) 0)) h = gzero
  rw [show gadd gzero (blkAt (gall [] []) 0) = gzero by decide +kernel]
  refine toG_inj (gtimes_len _ _) gzero_len ?_
  rw [toG_gtimes, toG_zero]; exact zero_gm _
theorem awake_sum : gsum gone [9] [] = [9#8, 0#8, 0#8, 0#8, 0#8, 0#8, 0#8, 8#8, 0#8, 0#8, 0#8, 0#8, 0#8, 0#8, 0#8, 0#8] := by
  show gtimes (gadd (gtimes (gadd gzero (blkAt (gall [9] []) 0)) gone) (blkAt (gall [9] []) 1)) gone = _
  rw [gtimes_one (gadd_len _ _), gtimes_one (gadd_len _ _)]
  decide +kernel
end Go.Proofs.Ythmjdebnjcopnaa
/- Elements of the great field as two words of 64 bits. -/
namespace Go.Proofs.Ythmjdebnjcopnaa
open Go.RowKit

abbrev W64 := BitVec 64
def fw (g : G) : W64 := g.reverse.extractLsb' 64 64
def sw (g : G) : W64 := g.reverse.extractLsb' 0 64
theorem fw_bit (g : G) (j : Nat) (h : j < 64) : (fw g).getLsbD j = g.getLsbD (63 - j) := by
  unfold fw
  rw [BitVec.getLsbD_extractLsb', BitVec.getLsbD_reverse, BitVec.getMsbD_eq_getLsbD, decide_eq_true h, decide_eq_true (show 64 + j < 128 by omega), show 128 - 1 - (64 + j) = 63 - j by omega]
  rfl
theorem sw_bit (g : G) (j : Nat) (h : j < 64) : (sw g).getLsbD j = g.getLsbD (127 - j) := by
  unfold sw
  rw [BitVec.getLsbD_extractLsb', BitVec.getLsbD_reverse, BitVec.getMsbD_eq_getLsbD, decide_eq_true h, decide_eq_true (show 0 + j < 128 by omega), show 128 - 1 - (0 + j) = 127 - j by omega]
  rfl
theorem fw_xor (a b : G) : fw (a ^^^ b) = fw a ^^^ fw b := by
  apply BitVec.eq_of_getLsbD_eq
  intro j hj
  rw [fw_bit _ j hj, BitVec.getLsbD_xor, BitVec.getLsbD_xor, fw_bit _ j hj, fw_bit _ j hj]
theorem sw_xor (a b : G) : sw (a ^^^ b) = sw a ^^^ sw b := by
  apply BitVec.eq_of_getLsbD_eq
  intro j hj
  rw [sw_bit _ j hj, BitVec.getLsbD_xor, BitVec.getLsbD_xor, sw_bit _ j hj, sw_bit _ j hj]
theorem fw_zero : fw 0#128 = 0#64 := by
  apply BitVec.eq_of_getLsbD_eq
  intro j hj
  rw [fw_bit _ j hj, BitVec.getLsbD_zero, BitVec.getLsbD_zero]
theorem sw_zero : sw 0#128 = 0#64 := by
  apply BitVec.eq_of_getLsbD_eq
  intro j hj
  rw [sw_bit _ j hj, BitVec.getLsbD_zero, BitVec.getLsbD_zero]
/-- A word all of whose bits are one. -/
def msk (b : Bool) : W64 := if b then BitVec.allOnes 64 else 0#64
theorem fw_msk (b : Bool) (a : G) : fw (cx b a) = fw a &&& msk b := by
  cases b
  · show fw 0#128 = fw a &&& 0#64
    rw [fw_zero, BitVec.and_zero]
  · show fw a = fw a &&& BitVec.allOnes 64
    rw [BitVec.and_allOnes]
theorem sw_msk (b : Bool) (a : G) : sw (cx b a) = sw a &&& msk b := by
  cases b
  · show sw 0#128 = sw a &&& 0#64
    rw [sw_zero, BitVec.and_zero]
  · show sw a = sw a &&& BitVec.allOnes 64
    rw [BitVec.and_allOnes]
theorem mx_bit (a : G) (j : Nat) (h : j < 128) : (mx a).getLsbD j = ((decide (1 ≤ j) && a.getLsbD (j - 1)) ^^ (a.getLsbD 127 && (0x87#128).getLsbD j)) := by
  unfold mx
  rw [BitVec.getLsbD_xor, BitVec.getLsbD_shiftLeft, decide_eq_true h]
  congr 1
  · by_cases h1 : 1 ≤ j
    · simp [h1, show ¬ j < 1 by omega]
    · simp [h1, show j < 1 by omega]
  · cases a.getLsbD 127
    · simp [cx]
    · simp [cx]
theorem low_87 : ∀ j, j < 128 → 64 ≤ j → (0x87#128).getLsbD j = false := by decide
theorem top_e1 : ∀ j, j < 64 → (0xe100000000000000#64).getLsbD j = (0x87#128).getLsbD (63 - j) := by decide
theorem sw_mx (a : G) : sw (mx a) = fw a <<< 63 ||| sw a >>> 1 := by
  apply BitVec.eq_of_getLsbD_eq
  intro j hj
  rw [sw_bit _ j hj, mx_bit _ _ (by omega), low_87 _ (by omega) (by omega), BitVec.getLsbD_or, BitVec.getLsbD_shiftLeft, BitVec.getLsbD_ushiftRight]
  by_cases h : j = 63
  · subst h
    have e : (sw a).getLsbD (1 + 63) = false := BitVec.getLsbD_of_ge _ _ (by decide)
    rw [e, fw_bit _ _ (by decide)]
    simp
  · rw [sw_bit _ (1 + j) (by omega), show 127 - (1 + j) = 127 - j - 1 by omega, decide_eq_true (show 1 ≤ 127 - j by omega), decide_eq_true (show j < 63 by omega)]
    simp
theorem fw_mx (a : G) : fw (mx a) = (fw a >>> 1) ^^^ (cx ((sw a).getLsbD 0) 0xe100000000000000#64) := by
  apply BitVec.eq_of_getLsbD_eq
  intro j hj
  have e2 : (cx ((sw a).getLsbD 0) 0xe100000000000000#64).getLsbD j = (a.getLsbD 127 && (0x87#128).getLsbD (63 - j)) := by
    rw [sw_bit _ 0 (by decide), ← top_e1 j hj]
    cases a.getLsbD (127 - 0)
    · simp [cx]
    · simp [cx]
  rw [fw_bit _ j hj, mx_bit _ _ (by omega), BitVec.getLsbD_xor, BitVec.getLsbD_ushiftRight, e2]
  congr 1
  by_cases h : j = 63
  · subst h
    have e : (fw a).getLsbD (1 + 63) = false := BitVec.getLsbD_of_ge _ _ (by decide)
    rw [e]; simp
  · rw [fw_bit _ (1 + j) (by omega), show 63 - (1 + j) = 63 - j - 1 by omega, decide_eq_true (show 1 ≤ 63 - j by omega)]
    simp
theorem fw_top (e : G) (i : Nat) (h : i < 64) : (fw e <<< i).getLsbD 63 = e.getLsbD i := by
  rw [BitVec.getLsbD_shiftLeft, fw_bit _ _ (by omega), show 63 - (63 - i) = i by omega]
  simp; omega
theorem sw_top (e : G) (i : Nat) (h : i < 64) : (sw e <<< i).getLsbD 63 = e.getLsbD (64 + i) := by
  rw [BitVec.getLsbD_shiftLeft, sw_bit _ _ (by omega), show 127 - (63 - i) = 64 + i by omega]
  simp; omega
theorem sumBits_split {m : Nat} (f : Nat → BitVec m) (b : G) (n : Nat) : sumBits f b (64 + n) = sumBits f b 64 ^^^ sumBits (fun j => f (64 + j)) (b >>> 64) n := by
  induction n with
  | zero => simp [sumBits]
  | succ n ih =>
    show sumBits f b (64 + n) ^^^ cx (b.getLsbD (64 + n)) (f (64 + n)) = _ ^^^ (sumBits (fun j => f (64 + j)) (b >>> 64) n ^^^ cx ((b >>> 64).getLsbD n) (f (64 + n)))
    rw [ih, BitVec.getLsbD_ushiftRight, BitVec.xor_assoc]
/-- The sum that times grows: bits i and 64 + i together. -/
def two (h e : G) (i : Nat) : G := sumBits (fun j => mxs j h) e i ^^^ sumBits (fun j => mxs (64 + j) h) (e >>> 64) i
theorem two_zero (h e : G) : two h e 0 = 0#128 := by simp [two, sumBits]
theorem two_next (h e : G) (i : Nat) : two h e (i + 1) = two h e i ^^^ cx (e.getLsbD i) (mxs i h) ^^^ cx (e.getLsbD (64 + i)) (mxs (64 + i) h) := by
  show (sumBits (fun j => mxs j h) e i ^^^ cx (e.getLsbD i) (mxs i h)) ^^^ (sumBits (fun j => mxs (64 + j) h) (e >>> 64) i ^^^ cx ((e >>> 64).getLsbD i) (mxs (64 + i) h)) = _
  rw [BitVec.getLsbD_ushiftRight]
  unfold two
  ac_rfl
theorem two_all (h e : G) : two h e 64 = gm e h := by
  rw [gm_comm]
  exact (sumBits_split (fun j => mxs j h) e 64).symm
theorem val_bit (l : List B8) (j : Nat) : ∀ k, k ≤ l.length → (val ((nts l).take k)).testBit j = (decide (j < 8 * k) && (at8 l (k - 1 - j / 8)).getLsbD (j % 8))
  | 0, _ => by simp [val]
  | k + 1, h => by
    have e : (nts l).getD k 0 = b8 (at8 l k) := by
      unfold List.getD
      rw [nts_at l k (by omega)]; rfl
    rw [val_next _ k (by rw [nts_len]; omega), e]
    have hb : b8 (at8 l k) < 2 ^ 8 := b8_lt _
    rw [show (256 : Nat) = 2 ^ 8 by rfl, Nat.testBit_two_pow_mul_add _ hb]
    by_cases hj : j < 8
    · rw [if_pos hj, show k + 1 - 1 - j / 8 = k by omega, show j % 8 = j by omega]
      unfold b8
      simp [BitVec.getLsbD, show j < 8 * (k + 1) by omega]
    · rw [if_neg hj]
      have hs : (val ((nts l).take k)).testBit (j - 8) = (decide (j - 8 < 8 * k) && (at8 l (k - 1 - (j - 8) / 8)).getLsbD ((j - 8) % 8)) := by
        have := val_bit l (j - 8) k (by omega)
        exact this
      rw [hs, show k - 1 - (j - 8) / 8 = k + 1 - 1 - j / 8 by omega, show (j - 8) % 8 = j % 8 by omega]
      congr 1
      simp; omega
theorem fw_val {a : List B8} (h : a.length = 16) : (fw (toG a)).toNat = val ((nts a).take 8) := by
  apply Nat.eq_of_testBit_eq
  intro j
  rw [val_bit a j 8 (by omega)]
  by_cases hj : j < 64
  · have e : (fw (toG a)).toNat.testBit j = (fw (toG a)).getLsbD j := rfl
    rw [e, fw_bit _ j hj, toG_bit _ _ (by omega)]
    unfold coef
    rw [show (63 - j) / 8 = 8 - 1 - j / 8 by omega, show 7 - (63 - j) % 8 = j % 8 by omega]
    simp; omega
  · have e : (fw (toG a)).toNat.testBit j = (fw (toG a)).getLsbD j := rfl
    rw [e, BitVec.getLsbD_of_ge _ _ (by omega)]
    simp; omega
theorem sw_val {a : List B8} (h : a.length = 16) : (sw (toG a)).toNat = val (((nts a).drop 8).take 8) := by
  have ed : (nts a).drop 8 = nts (a.drop 8) := by simp [nts, List.map_drop]
  apply Nat.eq_of_testBit_eq
  intro j
  rw [ed, val_bit (a.drop 8) j 8 (by rw [List.length_drop]; omega)]
  by_cases hj : j < 64
  · have e : (sw (toG a)).toNat.testBit j = (sw (toG a)).getLsbD j := rfl
    rw [e, sw_bit _ j hj, toG_bit _ _ (by omega)]
    unfold coef
    have e2 : at8 (a.drop 8) (8 - 1 - j / 8) = at8 a ((127 - j) / 8) := by
      unfold at8 List.getD
      rw [List.getElem?_drop, show 8 + (8 - 1 - j / 8) = (127 - j) / 8 by omega]
    rw [e2, show 7 - (127 - j) % 8 = j % 8 by omega]
    simp; omega
  · have e : (sw (toG a)).toNat.testBit j = (sw (toG a)).getLsbD j := rfl
    rw [e, BitVec.getLsbD_of_ge _ _ (by omega)]
    simp; omega
end Go.Proofs.Ythmjdebnjcopnaa
