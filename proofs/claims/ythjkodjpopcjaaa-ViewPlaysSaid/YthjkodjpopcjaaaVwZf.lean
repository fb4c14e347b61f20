/- ViewPlays: the law's walk, whole. -/
import Derived.Test.YthjkodjpopcjaaaVwZw
import Derived.Test.YthjkodjpopcjaaaVwV
namespace Go.Proofs.Ythjkodjpopcjaaa
theorem plays9_walk (c : CfgD) (who seq : Int) (A : Option Addr) (n ca : Nat) (lq : List (Int × Int × Int)) (D : Option Addr) (m cd : Nat) (lv : List OutD) (w : World) (_ : Int64 who) (_ : 0 ≤ seq ∧ seq ≤ 18446744073709551615)
    (hq : lq.length = n) (hn : n ≤ maxLen) (hA : SlAt w A 3 (lq.map fun x => [.int .i64 x.1, .int .i64 x.2.1, .int .i64 x.2.2])) (hwq : ∀ e ∈ lq, I64 e.1 ∧ I64 e.2.1 ∧ I64 e.2.2)
    (hv : lv.length = m) (hm : m ≤ maxLen) (hD : SlAt w D 3 (lv.map OutD.cells)) (_ : ∀ e ∈ lv, (0 ≤ e.val ∧ e.val ≤ 18446744073709551615) ∧ 0 ≤ e.seq ∧ e.seq ≤ 18446744073709551615) (hcd : m ≤ cd ∧ cd ≤ maxLen) :
    Calls Try.prog 3 #[cfgV c, .int .i64 who, .int .u64 seq, .slice A n ca, .slice D m cd] w (Good w) :=
  plays9_law alive9_calls c who seq A n ca lq D m cd lv w hq hn hA hwq hv hm hcd.1 hD
end Go.Proofs.Ythjkodjpopcjaaa
