/- JournalMarks: the statement. -/
import Derived.Test.YtmlladpmecclbaaDoorJournalMarksPG
import Derived.Test.YtmlladpmecclbaaDoorJournalMarksFG
namespace Go.Proofs.YtmlladpmecclbaaDoor

theorem journalMarks_holds : Rows.JournalMarksCardSaid := journalMarks_card journalMarks_walk
#print axioms journalMarks_holds
end Go.Proofs.YtmlladpmecclbaaDoor
