/- ViewTells: the law's walk, whole. -/
import Derived.Test.YtebffkoonbkhnaaVwTw
import Derived.Test.YtebffkoonbkhnaaVwV
namespace Go.Proofs.Ytebffkoonbkhnaa
theorem tells_walk (c : CfgD) (who seq : Int) (A : Option Addr) (n ca : Nat) (lq : List (Int × Int × Int)) (D : Option Addr) (m cd : Nat) (lv : List Int) (w : World) (_ : Int64 who) (_ : 0 ≤ seq ∧ seq ≤ 18446744073709551615)
    (hq : lq.length = n) (hn : n ≤ maxLen) (hA : SlAt w A 3 (lq.map fun x => [.int .i64 x.1, .int .i64 x.2.1, .int .i64 x.2.2])) (hwq : ∀ e ∈ lq, I64 e.1 ∧ I64 e.2.1 ∧ I64 e.2.2) (hv : lv.length = m) (hm : m ≤ maxLen) (hD : SlAt w D 1 (lv.map fun x => [.int .u64 x])) (_ : ∀ e ∈ lv, 0 ≤ e ∧ e ≤ 18446744073709551615) :
    Calls Try.prog 4 #[cfgV c, .int .i64 who, .int .u64 seq, .slice A n ca, .slice D m cd] w (Good w) :=
  tells_law alive9_calls c who seq A n ca lq D m cd lv w hq hn hA hwq hv hm hD
end Go.Proofs.Ytebffkoonbkhnaa
