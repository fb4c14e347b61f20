/- ViewSteps: the law's walk, whole. -/
import Derived.Test.YtebffkoonbkhnaaVwSw
import Derived.Test.YtebffkoonbkhnaaVwV
namespace Go.Proofs.Ytebffkoonbkhnaa
theorem steps_walk (c : CfgD) (who seq : Int) (A : Option Addr) (n ca : Nat) (lq : List (Int × Int × Int)) (w : World) (_ : Int64 who) (_ : 0 ≤ seq ∧ seq ≤ 18446744073709551615)
    (hq : lq.length = n) (hn : n ≤ maxLen) (hA : SlAt w A 3 (lq.map fun x => [.int .i64 x.1, .int .i64 x.2.1, .int .i64 x.2.2])) (_ : ∀ e ∈ lq, I64 e.1 ∧ I64 e.2.1 ∧ I64 e.2.2) :
    Calls Try.prog 5 #[cfgV c, .int .i64 who, .int .u64 seq, .slice A n ca] w (Good w) :=
  steps_law alive9_calls c who seq A n ca lq w hq hn hA
end Go.Proofs.Ytebffkoonbkhnaa
