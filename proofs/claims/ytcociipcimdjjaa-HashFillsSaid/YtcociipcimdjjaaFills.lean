/-
  Proved here: the walk of the law HashFills, over what came in. Conditions: what came in reads as its types say.
-/
import Derived.Test.YtcociipcimdjjaaFillK
import Derived.Test.YtcociipcimdjjaaOpen
import Derived.LoopTactic
import Derived.RegionTactic
import Derived.BigRegion
namespace Go.Proofs.Ytcociipcimdjjaa
open Go.RowKit

/-- A row of zeros, a byte of which was written. -/
def kRow (W : World) (p t : Nat) (x : Int) : World := W.alloc (.cells ((u8s (zeros (p + 1))).set t (.int .u8 x)).toArray 5)
theorem kRow_size (W : World) (p t : Nat) (x : Int) : (kRow W p t x).heap.size = W.heap.size + 1 := by simp [kRow]
theorem kRow_below (W : World) (p t : Nat) (x : Int) : Below W.heap.size W (kRow W p t x) := (Below.refl _ _).alloc (Nat.le_refl _) _
theorem kRow_key (W : World) (p t : Nat) (x : Int) : KeyAt (kRow W p t x) (.slice (some ⟨W.heap.size, 0, none⟩) (p + 1) (p + 1)) ((zeros (p + 1)).set t x) := by
  have h := lit_key W ((u8s (zeros (p + 1))).set t (.int .u8 x)).toArray (0, 0) ((zeros (p + 1)).set t x) (by rw [u8s, u8s, List.map_set])
  rwa [List.length_set, zeros_length] at h
theorem fill_put {PS : MapMem} {p n L : Nat} (A : Acts PS (p + 1) 1 n L) {W : World} {D : Nat → Prop} {h : Nat} {ks : List ByteArray} {zs : List Int} (hp : PS W D h ks zs) (t : Nat) (x y : Int) :
    Calls Try.prog 18 #[.pointer (some ⟨h, 0, none⟩), .slice (some ⟨W.heap.size, 0, none⟩) (p + 1) (p + 1), .slice (some ⟨W.heap.size + 1, 0, none⟩) 1 1, .int .u64 0] ((kRow W p t x).alloc (.cells #[.int .u8 y] 5)) (PutP PS D h (putR ks zs (p + 1) 1 ((zeros (p + 1)).set t x) [y] 0) ((kRow W p t x).alloc (.cells #[.int .u8 y] 5))) := by
  have hz := kRow_size W p t x
  have hb1 := kRow_below W p t x
  have hb2 := below_one (kRow W p t x) (.cells #[.int .u8 y] 5)
  have hall := hb1.trans (hb2.mono hb1.size)
  have hk := (kRow_key W p t x).stay hb2
  have hv := lit_key (kRow W p t x) #[.int .u8 y] (0, 0) [y] rfl
  rw [hz] at hv
  refine A.put (A.kept hp (fun b' hb' => hall.block b' (A.lt hp b' hb'))) hk hv ?_ ?_ (by omega) (by omega)
  · intro a len c e h0 hd
    injection e with e _ _
    injection e with e
    subst e
    have := A.lt hp _ hd
    simp only at this
    omega
  · intro a len c e h0 hd
    injection e with e _ _
    injection e with e
    subst e
    have := A.lt hp _ hd
    simp only at this
    omega
theorem fill_slot {p m : Nat} {W : World} {D : Nat → Prop} {h k : Nat} {ks : List ByteArray} {zs : List Int} (hd : Dim 1 m m) (hp : PM (p + 1) 1 m m W D h ks zs) (hk : k < m) :
    Calls Try.prog 16 #[.pointer (some ⟨h, 0, none⟩), .int .i64 (k : Int)] W (fun e w => ∃ G, e = .returned (.tuple #[.slice (some ⟨G, k, none⟩) 1 1, .bool true]) ∧ w.cell? ⟨G, k, none⟩ = some (.int .u8 (zs.getD k 0)) ∧ Below W.heap.size W w) := by
  obtain ⟨A, G, C, M, v, len, l, Dm, H, hD⟩ := hp
  refine (hm_slot_yes H hd hk).mono fun e w ⟨he, hb⟩ => ⟨G, by rw [he, Nat.mul_one], ?_, hb⟩
  have := (H.stay hb).ar.row k hk
  rwa [Nat.zero_add] at this
set_option maxRecDepth 100000 in
set_option maxHeartbeats 2000000 in
theorem fills_law (kk nn : Int) (p m : Nat) (w : World) (hp : p < 8) (hm : m < 17) (hm1 : 1 ≤ m) (f1 : kk % 8 = (p : Int)) (f2 : nn % 16 + 1 = (m : Int)) (hk0 : 0 ≤ kk ∧ kk ≤ 255) (hn0 : 0 ≤ nn ∧ nn ≤ 255) :
    Calls Try.prog 4 #[.int .u8 kk, .int .u8 nn] w (fun e w' => e = .returned (.bool true) ∧ Below w.heap.size w w') := by
  have hd : Dim 1 m m := ⟨by omega, by omega, hm1, by omega, by omega⟩
  have HA := Lib.hid (hm_acts (p + 1) 1 m m hd (by omega) (by omega))
  have HD := Lib.hid hd
  clear hd
  go_enter Try.func4, Try.ntmps4
  go_wp2_with (first
    | (go_at_call 5; refine (alive11 _).mono ?_; rintro e w1 ⟨rfl, hb1⟩; have HB1 := Lib.hid hb1; clear hb1)
    | (go_at_call 6; refine (HA.out.new _).mono ?_; rintro e w2 ⟨h, D2, rfl, hp2, hb2, hd2⟩; have HB2 := Lib.hid hb2; have HP2 := Lib.hid hp2; have HD2 := Lib.hid hd2; clear hb2 hp2 hd2))
  have hst := fill_start p m
  have hp2 := HP2.out
  rw [hst.1, hst.2] at hp2
  have X0 : Hid (Ex (PM (p + 1) 1 m m) w w2 D2 h (ksF p m 0) (zsF m 0)) := ⟨hp2, HB1.out.trans (HB2.out.mono HB1.out.size), fun b hb => Nat.le_trans HB1.out.size (HD2.out b hb)⟩
  have hmk : ∀ W : World, (Instr.makeSlice 31 (.int .i64 ((p : Int) + 1)) (.int .i64 ((p : Int) + 1))).run Try.prog W = .ok (.slice (some ⟨W.heap.size, 0, none⟩) (p + 1) (p + 1)) (W.alloc (.cells (u8s (zeros (p + 1))).toArray 5)) := fun W => make_u8 W (p + 1) (by omega)
  clear hst hp2 HP2 HB1 HB2 HD2
  go_loopw [9] (fun v wr => ∃ (k : Nat) (D : Nat → Prop), k ≤ m ∧ v = .int .i64 k ∧ Ex (PM (p + 1) 1 m m) w wr D h (ksF p m k) (zsF m k)) (fun v _ => 17 - (intOf v).toNat)
  case atStart => exact ⟨0, D2, by omega, rfl, X0.out⟩
  case round =>
    obtain ⟨k, D, hk, rfl, hx⟩ := hrel
    have X := Lib.hid hx
    clear hx X0
    by_cases hlt : k < m
    · have hz0 := zeros_cells wr (p + 1) p (by omega)
      have hzc : (wr.alloc (.cells (u8s (zeros (p + 1))).toArray 5)).cell? ⟨wr.heap.size, p, none⟩ = some (.int .u8 0) := by
        rw [Nat.zero_add, zeros_get] at hz0
        exact hz0
      have hzf : (wr.alloc (.cells (u8s (zeros (p + 1))).toArray 5)).frozen? ⟨wr.heap.size, p, none⟩ = false := by simp [go_sem]
      have hw1 : IntKind.u8.wrap (k : Int) = k := IntWalk.u8_in _ (by omega)
      have hw2 : IntKind.u8.wrap (100 + (k : Int)) = 100 + k := IntWalk.u8_in _ (by omega)
      have hstep := fill_step ⟨p, hp⟩ ⟨m, hm⟩ ⟨k, by omega⟩ hlt
      simp only at hstep
      have HST := Lib.hid hstep
      clear hstep hz0
      go_wp2_with (go_at_call 18; refine (fill_put HA.out X.out.p p k (100 + (k : Int))).mono ?_; rintro e w3 ⟨D3, he, hp3, ht3, hd3⟩; rw [show (zeros (p + 1)).set p (k : Int) = kB p k from rfl, HST.out] at he hp3; subst he; have X3 := Lib.hid (X.out.next HA.out ((kRow_below wr p p k).trans ((below_one _ _).mono (kRow_below wr p p k).size)) ht3 hp3 hd3); clear hp3 ht3 hd3)
      go_roundw
      case rel => exact ⟨k + 1, D3, by omega, by go_num, X3.out⟩
      case measure => simp [intOf]; omega
    · obtain rfl : k = m := by omega
      have hz0 := zeros_cells wr (p + 1) 0 (by omega)
      have hzc : (wr.alloc (.cells (u8s (zeros (p + 1))).toArray 5)).cell? ⟨wr.heap.size, 0, none⟩ = some (.int .u8 0) := by
        rw [Nat.zero_add, zeros_get] at hz0
        exact hz0
      have hzf : (wr.alloc (.cells (u8s (zeros (p + 1))).toArray 5)).frozen? ⟨wr.heap.size, 0, none⟩ = false := by simp [go_sem]
      have hmore := fill_more ⟨p, hp⟩ ⟨k, hm⟩ hm1
      simp only at hmore
      have HMO := Lib.hid hmore
      clear hmore hz0
      go_wp2_with (go_at_call 18; refine (fill_put HA.out X.out.p 0 200 1).mono ?_; rintro e w3 ⟨D3, he, hp3, ht3, hd3⟩; rw [HMO.out] at he hp3; subst he; have X3 := Lib.hid (X.out.next HA.out ((kRow_below wr p 0 200).trans ((below_one _ _).mono (kRow_below wr p 0 200).size)) ht3 hp3 hd3); clear hp3 ht3 hd3)
      go_loopw [16] (fun v wr => ∃ (j : Nat) (D : Nat → Prop), j ≤ k ∧ v = .int .i64 j ∧ Ex (PM (p + 1) 1 k k) w wr D h (ksF p k k) (zsF k k)) (fun v _ => 17 - (intOf v).toNat)
      case atStart => exact ⟨0, D3, by omega, rfl, X3.out⟩
      case round =>
        obtain ⟨j, D4, hj, rfl, hx⟩ := hrel
        have X4 := Lib.hid hx
        clear hx X3 X
        by_cases hlt : j < k
        · have hw2 : IntKind.u8.wrap (100 + (j : Int)) = 100 + j := IntWalk.u8_in _ (by omega)
          have hg := fill_get k j hlt
          have HG := Lib.hid hg
          clear hg hmk
          go_wp2_with (go_at_call 16; refine (fill_slot HD.out X4.out.p hlt).mono ?_; rintro e w5 ⟨G, rfl, hc5, hb5⟩; rw [HG.out] at hc5; have X5 := Lib.hid (Ex.mk ((HA.out.tells D4).stay X4.out.p hb5) (X4.out.b.trans (hb5.mono X4.out.b.size)) X4.out.d); clear hb5)
          go_roundw
          case rel => exact ⟨j + 1, D4, by omega, by go_num, X5.out⟩
          case measure => simp [intOf]; omega
        · obtain rfl : j = k := by omega
          have hl := fill_len ⟨p, hp⟩ ⟨j, hm⟩
          simp only at hl
          have HL := Lib.hid hl
          clear hl hmk
          go_wp2_with (go_at_call 11; refine ((HA.out.tells D4).len X4.out.p).mono ?_; rintro e w6 ⟨he, hb6⟩; rw [HL.out] at he; subst he; have B6 := Lib.hid hb6; clear hb6)
          go_ret
          exact ⟨rfl, X4.out.b.trans (B6.out.mono X4.out.b.size)⟩
end Go.Proofs.Ytcociipcimdjjaa
namespace Go.Proofs.Ytcociipcimdjjaa.hashFills
open Go.RowKit

theorem walk (v0 v1 : Value) (w : World) (h0 : IsInt .u8 v0) (h1 : IsInt .u8 v1) :
    Calls Try.prog 4 #[v0, v1] w fun e w' => e = .returned (.bool true) ∧ Below w.heap.size w w' := by
  obtain ⟨kk, rfl, wk⟩ := h0
  obtain ⟨nn, rfl, wn⟩ := h1
  have hk := bounds_u8 wk
  have hn := bounds_u8 wn
  obtain ⟨p, hp⟩ := Int.eq_ofNat_of_zero_le (show 0 ≤ kk % 8 by omega)
  obtain ⟨m, hm⟩ := Int.eq_ofNat_of_zero_le (show 0 ≤ nn % 16 + 1 by omega)
  exact fills_law kk nn p m w (by omega) (by omega) (by omega) hp hm hk hn
end Go.Proofs.Ytcociipcimdjjaa.hashFills
