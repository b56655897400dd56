/- JournalBinds: the statement. -/
import Derived.Test.YtmlladpmecclbaaDoorJournalBindsPG
import Derived.Test.YtmlladpmecclbaaDoorJournalBindsFG
namespace Go.Proofs.YtmlladpmecclbaaDoor

theorem journalBinds_holds : Rows.JournalBindsCardSaid := journalBinds_card journalBinds_walk
#print axioms journalBinds_holds
end Go.Proofs.YtmlladpmecclbaaDoor
