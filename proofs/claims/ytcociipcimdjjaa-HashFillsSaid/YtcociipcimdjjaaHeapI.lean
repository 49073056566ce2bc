import Derived.Test.YtcociipcimdjjaaBase
import Derived.Test.YtcociipcimdjjaaHeapL
import Derived.LoopTactic
namespace Go.Proofs.Ytcociipcimdjjaa
open Go.RowKit
theorem wrap_nil (P : Program) (xt : TypeId) (p : Addr) (s m : String) (w : World) : (Builtin.ssaWrapNilChk_ #[xt] xt #[.pointer (some p), strVal s, strVal m]).run P w = .ok (.pointer (some p)) w := rfl
theorem method_any (p : Addr) (w : World) (a : Option Addr) (n c : Nat) (s : String) (f : FuncId) (h : w.cell? p = some (.slice a n c))
    (hs : ((Try.prog.info? 71).bind (fun i => i.methods.find? (·.name == s))).map (fun m => (m.path.toList, m.func)) = some ([], some (f, false))) :
    (method 208 71 (.pointer (some p)) s).run Try.prog w = .ok (f, .slice a n c) w := by
  obtain ⟨m, hs1, hm1⟩ := Option.map_eq_some_iff.1 hs
  obtain ⟨i, hi, hm⟩ := Option.bind_eq_some_iff.1 hs1
  injection hm1 with hp hf
  unfold method
  have hp2 : m.path = #[] := by
    cases hq : m.path
    rw [hq] at hp
    simp at hp
    rw [hp]
  simp [typeInfo, hi, hm, hp, hf, follow, receiverAt, Place.get, go_sem]
  simp [hp2, wrap_nil, go_sem, h]
theorem method_len (p : Addr) (w : World) (a : Option Addr) (n c : Nat) (h : w.cell? p = some (.slice a n c)) : (method 208 71 (.pointer (some p)) "Len").run Try.prog w = .ok (32, .slice a n c) w :=
  method_any p w a n c _ _ h (by kernel_rfl)
theorem method_less (p : Addr) (w : World) (a : Option Addr) (n c : Nat) (h : w.cell? p = some (.slice a n c)) : (method 208 71 (.pointer (some p)) "Less").run Try.prog w = .ok (61, .slice a n c) w :=
  method_any p w a n c _ _ h (by kernel_rfl)
theorem method_swap (p : Addr) (w : World) (a : Option Addr) (n c : Nat) (h : w.cell? p = some (.slice a n c)) : (method 208 71 (.pointer (some p)) "Swap").run Try.prog w = .ok (62, .slice a n c) w :=
  method_any p w a n c _ _ h (by kernel_rfl)
theorem method_push (p : Addr) (w : World) : (method 208 71 (.pointer (some p)) "Push").run Try.prog w = .ok (64, .pointer (some p)) w := by kernel_rfl
theorem method_pop (p : Addr) (w : World) : (method 208 71 (.pointer (some p)) "Pop").run Try.prog w = .ok (63, .pointer (some p)) w := by kernel_rfl
end Go.Proofs.Ytcociipcimdjjaa
