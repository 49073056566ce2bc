/-
  Proved here: what typeOf and may of package objs give. Conditions: as each says.
-/
import Derived.Test.YtcdpmggjdmibjaaOMk
import Derived.Deep.QuietTactic
import Derived.BigQuiet
namespace Go.Proofs.Ytcdpmggjdmibjaa
open Go.RowKit

theorem ret_same {P : Program} {f : FuncId} {args : Array Value} {w : World} {v : Value} (h : Calls P f args w (Ret v w)) : Calls P f args w fun e w' => e = .returned v ∧ w' = w := h.mono fun _ _ ⟨h1, h2⟩ => ⟨h1, h2.symm⟩
/-- What a call answers that draws at most. -/
def Draws (v : Value) (w : World) (e : Ending) (w' : World) : Prop := e = .returned v ∧ ∃ m, w' = w.drewN m
theorem Draws.tells {v : Value} {w : World} {e : Ending} {w' : World} (h : Draws v w e w') : Tells v w e w' := by
  obtain ⟨h1, m, rfl⟩ := h
  exact ⟨h1, below_drewN _ _⟩
/-- A letter of a word. -/
def IsLett (z : Int) : Prop := z = 116 ∨ z = 105 ∨ z = 109 ∨ z = 110
/-- May a word of a letter be x? -/
def wordZ (objs : List Kob) (z x : Int) : Bool :=
  if (z == 110) = true then true
  else if (x == 0) = true then z == 109
  else decide (x ≤ objs.length) && (((objs.getD (x.toNat - 1) default).typ == 1) == (z == 116))
theorem wordB_in {objs : List Kob} {l : ByteArray} {x : Int} {i : Nat} (h : i < l.size) : wordB objs l x i = wordZ objs (byteAt l i) x := by
  unfold wordB wordZ byteAt
  simp only [dif_pos h]
theorem kind_lett (k i : Nat) (h1 : 1 ≤ k) (h2 : k ≤ 16) (hi : i < (lettB k).size) : (kindL k).getD i 0 = lettI (byteAt (lettB k) i) ∧ IsLett (byteAt (lettB k) i) := by
  have h : ∀ (k : Fin 17) (i : Fin 5), 1 ≤ k.val → i.val < (lettB k.val).size → (kindL k.val).getD i.val 0 = lettI (byteAt (lettB k.val) i.val) ∧ (byteAt (lettB k.val) i.val = 116 ∨ byteAt (lettB k.val) i.val = 105 ∨ byteAt (lettB k.val) i.val = 109 ∨ byteAt (lettB k.val) i.val = 110) := by decide +kernel
  have h5 := (lettB_pos k h1 h2).2
  exact h ⟨k, by omega⟩ ⟨i, by omega⟩ h1 hi
theorem kind_len (k : Nat) (h1 : 1 ≤ k) (h2 : k ≤ 16) : (kindL k).length = (lettB k).size := by
  have h : ∀ (k : Fin 17), 1 ≤ k.val → (kindL k.val).length = (lettB k.val).size := by decide +kernel
  exact h ⟨k, by omega⟩ h1
theorem typeOf_call (z : Int) (w : World) (hz : z = 116 ∨ z = 105 ∨ z = 109) : Calls Try.prog 39 #[.int .u8 (lettI z)] w (Ret (.int .i64 (if (z == 116) = true then 1 else 2)) w) := by
  unfold Ret
  rcases hz with rfl | rfl | rfl
  · show Calls Try.prog 39 #[.int .u8 1] w _
    go_enter Try.func39, Try.ntmps39
    go_wp2
    go_ret
    exact ⟨rfl, rfl⟩
  · show Calls Try.prog 39 #[.int .u8 2] w _
    go_enter Try.func39, Try.ntmps39
    go_wp2
    go_ret
    exact ⟨rfl, rfl⟩
  · show Calls Try.prog 39 #[.int .u8 6] w _
    go_enter Try.func39, Try.ntmps39
    go_wp2
    go_ret
    exact ⟨rfl, rfl⟩
theorem may_num (x : Int) (a : Option Addr) (n k : Nat) (w : World) : Calls Try.prog 26 #[.int .u8 0, .int .u64 x, .slice a n k] w (Draws (.bool true) w) := by
  go_enter Try.func26, Try.ntmps26
  go_wp2
  go_ret
  exact ⟨rfl, 0, rfl⟩
theorem may_null (z : Int) (a : Option Addr) (n k : Nat) (w : World) (hz : z = 116 ∨ z = 105 ∨ z = 109) : Calls Try.prog 26 #[.int .u8 (lettI z), .int .u64 0, .slice a n k] w (Draws (.bool (z == 109)) w) := by
  rcases hz with rfl | rfl | rfl
  · show Calls Try.prog 26 #[.int .u8 1, .int .u64 0, .slice a n k] w _
    go_enter Try.func26, Try.ntmps26
    go_wp2
    go_ret
    exact ⟨rfl, 0, rfl⟩
  · show Calls Try.prog 26 #[.int .u8 2, .int .u64 0, .slice a n k] w _
    go_enter Try.func26, Try.ntmps26
    go_wp2
    go_ret
    exact ⟨rfl, 0, rfl⟩
  · show Calls Try.prog 26 #[.int .u8 6, .int .u64 0, .slice a n k] w _
    go_enter Try.func26, Try.ntmps26
    go_wp2
    go_ret
    exact ⟨rfl, 0, rfl⟩
theorem may_far (z x : Int) (a : Option Addr) (n k : Nat) (w : World) (hz : z = 116 ∨ z = 105 ∨ z = 109) (hn : n ≤ 8) (hf : (n : Int) < x) : Calls Try.prog 26 #[.int .u8 (lettI z), .int .u64 x, .slice a n k] w (Draws (.bool false) w) := by
  obtain ⟨kd, hkd⟩ : ∃ kd, lettI z = kd := ⟨_, rfl⟩
  have k0 : (kd == 0) = false := by rw [← hkd]; rcases hz with rfl | rfl | rfl <;> rfl
  have x0 : (x == 0) = false := by rw [beq_eq_false_iff_ne]; omega
  have e0 : IntKind.u64.wrap (n : Int) = (n : Int) := IntWalk.u64_in _ (by omega)
  have e1 : decide (x ≤ (n : Int)) = false := by simp; omega
  have e2 : ¬ x ≤ (n : Int) := by omega
  have HT := Lib.hid (typeOf_call z · hz)
  rw [hkd] at HT ⊢
  clear hf hkd
  go_enter Try.func26, Try.ntmps26
  go_wp2
  go_quiet ((go_at_call 39; exact Calls.quiet_of_same (ret_same (HT.out _))))
  go_wp2
  go_ret
  exact ⟨rfl, nq, rfl⟩
theorem may_obj (z : Int) (objs : List Kob) (m : Nat) (a : Option Addr) (k : Nat) (w : World) (hz : z = 116 ∨ z = 105 ∨ z = 109) (hr : ObRow w a objs) (hn : objs.length ≤ 8) (hm : m < objs.length) (ht : typeB (objs.getD m default) = true) : Calls Try.prog 26 #[.int .u8 (lettI z), .int .u64 ((m + 1 : Nat) : Int), .slice a objs.length k] w (Draws (.bool (((objs.getD m default).typ == 1) == (z == 116))) w) := by
  obtain ⟨kd, hkd⟩ : ∃ kd, lettI z = kd := ⟨_, rfl⟩
  have k0 : (kd == 0) = false := by rw [← hkd]; rcases hz with rfl | rfl | rfl <;> rfl
  obtain ⟨p, off, rfl, -, hr⟩ := hr (by omega)
  obtain ⟨X, hX, hcs⟩ := hr m hm
  have hcell := (hcs 0 (by omega)).trans hX.x0
  rw [Nat.add_zero] at hcell
  obtain ⟨n, hnn⟩ : ∃ n, objs.length = n := ⟨_, rfl⟩
  rw [hnn] at hn hm ⊢
  obtain ⟨t, htt⟩ : ∃ t, (objs.getD m default).typ = t := ⟨_, rfl⟩
  have ht2 : t = 1 ∨ t = 2 := by
    unfold typeB at ht
    rw [htt] at ht
    simpa using ht
  rw [htt] at hcell ⊢
  obtain ⟨u, hu⟩ : ∃ u : Int, (if (z == 116) = true then 1 else 2) = u := ⟨_, rfl⟩
  have htc := fun W => typeOf_call z W hz
  rw [hu] at htc
  have hres : ((t == 1) == (z == 116)) = (t == u) := by
    rw [← hu]
    rcases ht2 with rfl | rfl <;> rcases hz with rfl | rfl | rfl <;> rfl
  rw [hres]
  have HT := Lib.hid htc
  rw [hkd] at HT ⊢
  clear hcs hX hr ht htt ht2 hu htc hres hkd hnn
  have x0 : (((m + 1 : Nat) : Int) == 0) = false := by rw [beq_eq_false_iff_ne]; omega
  have x00 : ((m : Int) + 1 == 0) = false := by rw [beq_eq_false_iff_ne]; omega
  have e0 : IntKind.u64.wrap (n : Int) = (n : Int) := IntWalk.u64_in _ (by omega)
  have e1 : IntKind.u64.wrap (((m + 1 : Nat) : Int) - 1) = (m : Int) := by rw [IntWalk.u64_in _ (by omega)]; omega
  have e3 : (((m : Int) + 1) - 1) = (m : Int) := by omega
  have e5 : IntKind.u64.wrap (m : Int) = (m : Int) := IntWalk.u64_in _ (by omega)
  have e6 : IntKind.u64.wrap ((m : Int) + 1 - 1) = (m : Int) := by rw [e3]; exact e5
  have e7 : decide ((m : Int) + 1 ≤ (n : Int)) = true := by simp; omega
  have e8 : (m : Int) + 1 ≤ (n : Int) := by omega
  go_enter Try.func26, Try.ntmps26
  go_wp2
  go_quiet ((go_at_call 39; exact Calls.quiet_of_same (ret_same (HT.out _))))
  go_wp2
  go_ret
  exact ⟨rfl, nq, rfl⟩
theorem may_call (objs : List Kob) (z x : Int) (a : Option Addr) (k : Nat) (w : World) (hz : IsLett z) (hx : 0 ≤ x ∧ x ≤ 18446744073709551615) (hr : ObRow w a objs) (hl : objs.length ≤ 8) (ht : objs.all typeB = true) : Calls Try.prog 26 #[.int .u8 (lettI z), .int .u64 x, .slice a objs.length k] w (Draws (.bool (wordZ objs z x)) w) := by
  by_cases h110 : z = 110
  · subst h110
    exact may_num x a _ k w
  · have hz3 : z = 116 ∨ z = 105 ∨ z = 109 := by
      rcases hz with h | h | h | h
      · exact .inl h
      · exact .inr (.inl h)
      · exact .inr (.inr h)
      · exact absurd h h110
    have h110b : ¬ (z == 110) = true := by simpa using h110
    unfold wordZ
    rw [if_neg h110b]
    by_cases x0 : x = 0
    · subst x0
      rw [if_pos (show ((0 : Int) == 0) = true from rfl)]
      exact may_null z a _ k w hz3
    · rw [if_neg (by simpa using x0)]
      by_cases hf : x ≤ objs.length
      · obtain ⟨m, rfl⟩ : ∃ m : Nat, x = ((m + 1 : Nat) : Int) := ⟨x.toNat - 1, by omega⟩
        rw [decide_eq_true hf, Bool.true_and, Int.toNat_natCast, Nat.add_sub_cancel]
        have hm : m < objs.length := by omega
        refine may_obj z objs m a k w hz3 hr hl hm ?_
        rw [List.all_eq_true] at ht
        rw [List.getD_eq_getElem?_getD, List.getElem?_eq_getElem hm]
        exact ht _ (List.getElem_mem hm)
      · rw [decide_eq_false hf, Bool.false_and]
        exact may_far z x a _ k w hz3 hl (by omega)
end Go.Proofs.Ytcdpmggjdmibjaa
