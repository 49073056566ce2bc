/-
  Proved here: what hasNoType, and slices.ContainsFunc of it, give. Conditions: as each says.
-/
import Derived.Test.YtcdpmggjdmibjaaZKind
namespace Go.Proofs.Ytcdpmggjdmibjaa
open Go.RowKit

theorem noType_call (X : Array Value) (o : Kob) (w : World) (hx : ObX w X o) : Calls Try.prog 23 #[.agg X] w (Tells (.bool (!typeB o)) w) := by
  have hc := (box_cells w X 38 0).trans hx.x0
  obtain ⟨t, ht⟩ : ∃ t, o.typ = t := ⟨_, rfl⟩
  have hb : typeB o = (t == 1 || t == 2) := by unfold typeB; rw [ht]
  rw [hb]
  rw [ht] at hc
  clear hx hb ht
  cases t1 : t == 1
  · have t1n : (t != 1) = true := by unfold bne; rw [t1]; rfl
    cases t2 : t == 2
    · have t2n : (t != 2) = true := by unfold bne; rw [t2]; rfl
      go_enter Try.func23, Try.ntmps23
      go_wp2
      go_ret
      exact ⟨rfl, (Below.refl _ _).alloc (Nat.le_refl _) _⟩
    · have t2n : (t != 2) = false := by unfold bne; rw [t2]; rfl
      go_enter Try.func23, Try.ntmps23
      go_wp2
      go_ret
      exact ⟨rfl, (Below.refl _ _).alloc (Nat.le_refl _) _⟩
  · have t1n : (t != 1) = false := by unfold bne; rw [t1]; rfl
    go_enter Try.func23, Try.ntmps23
    go_wp2
    go_ret
    exact ⟨rfl, (Below.refl _ _).alloc (Nat.le_refl _) _⟩
def GaveNo (objs : List Kob) (w : World) (e : Ending) (w' : World) : Prop := ∃ i : Int, e = .returned (.int .i64 i) ∧ decide (0 ≤ i) = !(objs.all typeB) ∧ Below w.heap.size w w'
attribute [local go_sem ↓] loadObj_veil
theorem indexNo_call (objs : List Kob) (a : Option Addr) (k : Nat) (w : World) (hr : ObRow w a objs) (hl : objs.length ≤ 8) : Calls Try.prog 38 #[.slice a objs.length k, .func (.func 23) #[] #[]] w (GaveNo objs w) := by
  obtain ⟨n, hn⟩ : ∃ n, objs.length = n := ⟨_, rfl⟩
  rw [hn] at hl ⊢
  unfold GaveNo
  obtain ⟨A, hA⟩ : ∃ A, objs.all typeB = A := ⟨_, rfl⟩
  rw [hA]
  have HN := Lib.hid hn
  have HR := Lib.hid hr
  have HA := Lib.hid hA
  clear hn hr hA
  go_enter Try.func38, Try.ntmps38
  go_wp2
  go_loopw [8] (fun x W => ∃ i : Nat, i ≤ n ∧ x = .int .i64 i ∧ (objs.take i).all typeB = true ∧ Below w.heap.size w W) (fun x _ => n - (intOf x).toNat)
  case atStart => exact ⟨0, by omega, rfl, by simp, Below.refl _ _⟩
  case round =>
    obtain ⟨i, hi, rfl, hall, hb⟩ := hrel
    have HALL := Lib.hid hall
    have HB := Lib.hid hb
    clear hall hb
    by_cases hlt : i < n
    · obtain ⟨p, off, rfl, -, hr⟩ := (HR.out.stay HB.out) (by rw [HN.out]; omega)
      obtain ⟨X, hX, hcs⟩ := hr i (by rw [HN.out]; exact hlt)
      have hld := run_loadOb (w := wr) (p := p) (o := off + i * 13) hX.size (fun j hj => by rw [Nat.add_assoc]; exact hcs j hj)
      have HX := Lib.hid hX
      have hst := all_take typeB objs i (by rw [HN.out]; exact hlt)
      have hof := fun h => all_of_take (p := typeB) (l := objs) (i := i) (by rw [HN.out]; exact hlt) h
      clear hX hcs hr
      cases hy : typeB (objs.getD i default)
      · rw [hy] at hst
        have HF := Lib.hid (HA.out.symm.trans (hof hy))
        have HY := Lib.hid hy
        clear hst hof hy
        go_wp2_with (go_at_call 23; refine (noType_call X _ _ HX.out).mono ?_; rintro e w' ⟨rfl, hb'⟩; have HB' := Lib.hid hb'; clear hb'; rw [HY.out])
        go_ret
        exact ⟨_, rfl, by rw [HF.out]; simp, HB.out.trans (HB'.out.mono HB.out.size)⟩
      · rw [hy] at hst
        have HST := Lib.hid hst
        have HY := Lib.hid hy
        clear hst hof hy
        go_wp2_with (go_at_call 23; refine (noType_call X _ _ HX.out).mono ?_; rintro e w' ⟨rfl, hb'⟩; have HB' := Lib.hid hb'; clear hb'; rw [HY.out])
        go_roundw
        case rel => exact ⟨i + 1, by omega, by go_num, by rw [HST.out, HALL.out]; rfl, HB.out.trans (HB'.out.mono HB.out.size)⟩
        case measure => simp [intOf]; omega
    · obtain rfl : i = n := by omega
      have hf : A = true := by rw [← HA.out]; have h := HALL.out; rwa [← HN.out, List.take_length] at h
      have HF := Lib.hid hf
      clear hf
      go_wp2
      go_ret
      exact ⟨_, rfl, by rw [HF.out]; rfl, HB.out⟩
theorem containsNo_call (objs : List Kob) (a : Option Addr) (k : Nat) (w : World) (hr : ObRow w a objs) (hl : objs.length ≤ 8) : Calls Try.prog 22 #[.slice a objs.length k, .func (.func 23) #[] #[]] w (Tells (.bool (!(objs.all typeB))) w) := by
  have HC := Lib.hid (indexNo_call objs a k w hr hl)
  clear hr hl
  go_enter Try.func22, Try.ntmps22
  go_wp2_with (go_at_call 38; refine HC.out.mono ?_; rintro e w' ⟨i, rfl, hi, hb⟩; have HI := Lib.hid hi; have HB := Lib.hid hb; clear hi hb)
  go_ret
  exact ⟨by rw [← HI.out]; rfl, HB.out⟩
end Go.Proofs.Ytcdpmggjdmibjaa
