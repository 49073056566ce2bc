/-
  Proved here: AluOpposites of halberdlaw04 returns true, of all numbers. Conditions: the arguments are of their types.
-/
import Derived.Test.YtnodajcllgglcaaAlive
namespace Go.Proofs.Ytnodajcllgglcaa
open Go.RowKit

theorem opp_16 (wide : Bool) (a b : Int) : (holdI 16 wide a b == holdI 80 wide a b) = false := by
  unfold holdI condI
  generalize zx a (szI wide) = x
  generalize zx b (szI wide) = y
  generalize szI wide = n
  show ((x == y) == (x != y)) = false
  rw [bne]
  cases x == y <;> rfl
theorem opp_32 (wide : Bool) (a b : Int) : (holdI 32 wide a b == holdI 176 wide a b) = false := by
  unfold holdI condI
  generalize zx a (szI wide) = x
  generalize zx b (szI wide) = y
  generalize szI wide = n
  simp
  omega
theorem opp_48 (wide : Bool) (a b : Int) : (holdI 48 wide a b == holdI 160 wide a b) = false := by
  unfold holdI condI
  generalize zx a (szI wide) = x
  generalize zx b (szI wide) = y
  generalize szI wide = n
  simp
  omega
theorem opp_96 (wide : Bool) (a b : Int) : (holdI 96 wide a b == holdI 208 wide a b) = false := by
  unfold holdI condI
  generalize zx a (szI wide) = x
  generalize zx b (szI wide) = y
  generalize szI wide = n
  generalize sgI x n = s
  generalize sgI y n = t
  simp
  omega
theorem opp_112 (wide : Bool) (a b : Int) : (holdI 112 wide a b == holdI 192 wide a b) = false := by
  unfold holdI condI
  generalize zx a (szI wide) = x
  generalize zx b (szI wide) = y
  generalize szI wide = n
  generalize sgI x n = s
  generalize sgI y n = t
  simp
  omega
/-- The ten numbers of the five pairs: block B. -/
def pairs : List Int := [16, 80, 32, 176, 48, 160, 96, 208, 112, 192]
def PairsAt (w : World) (B : Nat) : Prop := B < w.heap.size ∧ ∀ j, j < 10 → w.cell? ⟨B, j, none⟩ = some (.int .u8 (pairs.getD j 0))
theorem PairsAt.stays {w w' : World} {B : Nat} (h : PairsAt w B) (hb : Below w.heap.size w w') : PairsAt w' B :=
  ⟨Nat.lt_of_lt_of_le h.1 hb.size, fun j hj => (hb.cell (p := ⟨B, j, none⟩) h.1).trans (h.2 j hj)⟩
def pairsObj : Obj := .cells #[.int .u8 16, .int .u8 80, .int .u8 32, .int .u8 176, .int .u8 48, .int .u8 160, .int .u8 96, .int .u8 208, .int .u8 112, .int .u8 192] 30
theorem pairs_new (w : World) : PairsAt (w.alloc pairsObj) w.heap.size := by
  refine ⟨by simp, fun j hj => ?_⟩
  unfold pairsObj
  rw [World.cell?_alloc_new]
  obtain rfl | rfl | rfl | rfl | rfl | rfl | rfl | rfl | rfl | rfl : j = 0 ∨ j = 1 ∨ j = 2 ∨ j = 3 ∨ j = 4 ∨ j = 5 ∨ j = 6 ∨ j = 7 ∨ j = 8 ∨ j = 9 := by omega
  all_goals rfl
theorem law_opp (wide : Bool) (a b : Int) (w : World) (ha0 : 0 ≤ a) (ha1 : a ≤ 18446744073709551615) (hb0 : 0 ≤ b) (hb1 : b ≤ 18446744073709551615) :
    Calls Try.prog 6 #[.bool wide, .int .u64 a, .int .u64 b] w fun e w' => e = .returned (.bool true) ∧ Below w.heap.size w w' := by
  go_enter Try.func6, Try.ntmps6
  go_wp2_with (first
    | (go_at_call 7; refine (alive _).mono ?_; rintro e w1 ⟨rfl, hb⟩; have HB1 := Lib.hid hb; clear hb))
  have HP := Lib.hid (pairs_new w1)
  unfold pairsObj at HP
  have HB2 := Lib.hid (HB1.out.alloc HB1.out.size (.cells #[.int .u8 16, .int .u8 80, .int .u8 32, .int .u8 176, .int .u8 48, .int .u8 160, .int .u8 96, .int .u8 208, .int .u8 112, .int .u8 192] 30))
  generalize w1.alloc (.cells #[.int .u8 16, .int .u8 80, .int .u8 32, .int .u8 176, .int .u8 48, .int .u8 160, .int .u8 96, .int .u8 208, .int .u8 112, .int .u8 192] 30) = w2 at *
  generalize w1.heap.size = B at *
  clear HB1
  go_loopw [8] (fun i wr => ∃ k : Nat, k ≤ 5 ∧ i = .int .i64 k ∧ PairsAt wr B ∧ Below w.heap.size w wr) (fun i _ => 5 - (intOf i).toNat)
  case atStart => exact ⟨0, by omega, rfl, HP.out, HB2.out⟩
  case round =>
    obtain ⟨k, hk, rfl, hp, hb⟩ := hrel
    have HPr := Lib.hid hp
    have HBr := Lib.hid hb
    have hlt := hp.1
    clear hb HP HB2
    obtain rfl | rfl | rfl | rfl | rfl | rfl : k = 5 ∨ k = 0 ∨ k = 1 ∨ k = 2 ∨ k = 3 ∨ k = 4 := by omega
    · clear hp
      go_wp2
      go_ret
      exact ⟨rfl, HBr.out⟩
    · have c0 : wr.cell? ⟨B, 0, none⟩ = some (.int .u8 16) := hp.2 0 (by decide)
      have c1 : wr.cell? ⟨B, 1, none⟩ = some (.int .u8 80) := hp.2 1 (by decide)
      clear hp
      have ho := opp_16 wide a b
      obtain ⟨h, hh⟩ : ∃ h, holdI 16 wide a b = h := ⟨_, rfl⟩
      obtain ⟨g, hg⟩ : ∃ g, holdI 80 wide a b = g := ⟨_, rfl⟩
      have t1 : isCond 16 = true := by decide
      have t2 : isCond 80 = true := by decide
      rw [hh, hg] at ho
      have HH := Lib.hid hh
      have HG := Lib.hid hg
      have T1 := Lib.hid t1
      have T2 := Lib.hid t2
      clear hh hg t1 t2
      go_wp2_with (first
        | (go_at_call_of 10 (Value.int .u8 16); refine (holds_alu 16 wide a b _ ha0 ha1 hb0 hb1).mono ?_; rw [HH.out, T1.out]; rintro e w3 ⟨rfl, hb⟩; have HP3 := Lib.hid (HPr.out.stays hb); have d1 := HP3.out.2 1 (by decide); have dlt := HP3.out.1; change w3.cell? ⟨B, 1, none⟩ = some (.int .u8 80) at d1; have HB3 := Lib.hid (HBr.out.trans (hb.mono HBr.out.size)); clear hb)
        | (go_at_call_of 10 (Value.int .u8 80); refine (holds_alu 80 wide a b _ ha0 ha1 hb0 hb1).mono ?_; rw [HG.out, T2.out]; rintro e w4 ⟨rfl, hb⟩; have HP4 := Lib.hid (HP3.out.stays hb); have HB4 := Lib.hid (HB3.out.trans (hb.mono HB3.out.size)); clear hb))
      go_roundw
      case rel => exact ⟨1, by omega, by go_num, HP4.out, HB4.out⟩
      case measure => simp [intOf]
    · have c0 : wr.cell? ⟨B, 2, none⟩ = some (.int .u8 32) := hp.2 2 (by decide)
      have c1 : wr.cell? ⟨B, 3, none⟩ = some (.int .u8 176) := hp.2 3 (by decide)
      clear hp
      have ho := opp_32 wide a b
      obtain ⟨h, hh⟩ : ∃ h, holdI 32 wide a b = h := ⟨_, rfl⟩
      obtain ⟨g, hg⟩ : ∃ g, holdI 176 wide a b = g := ⟨_, rfl⟩
      have t1 : isCond 32 = true := by decide
      have t2 : isCond 176 = true := by decide
      rw [hh, hg] at ho
      have HH := Lib.hid hh
      have HG := Lib.hid hg
      have T1 := Lib.hid t1
      have T2 := Lib.hid t2
      clear hh hg t1 t2
      go_wp2_with (first
        | (go_at_call_of 10 (Value.int .u8 32); refine (holds_alu 32 wide a b _ ha0 ha1 hb0 hb1).mono ?_; rw [HH.out, T1.out]; rintro e w3 ⟨rfl, hb⟩; have HP3 := Lib.hid (HPr.out.stays hb); have d1 := HP3.out.2 3 (by decide); have dlt := HP3.out.1; change w3.cell? ⟨B, 3, none⟩ = some (.int .u8 176) at d1; have HB3 := Lib.hid (HBr.out.trans (hb.mono HBr.out.size)); clear hb)
        | (go_at_call_of 10 (Value.int .u8 176); refine (holds_alu 176 wide a b _ ha0 ha1 hb0 hb1).mono ?_; rw [HG.out, T2.out]; rintro e w4 ⟨rfl, hb⟩; have HP4 := Lib.hid (HP3.out.stays hb); have HB4 := Lib.hid (HB3.out.trans (hb.mono HB3.out.size)); clear hb))
      go_roundw
      case rel => exact ⟨2, by omega, by go_num, HP4.out, HB4.out⟩
      case measure => simp [intOf]
    · have c0 : wr.cell? ⟨B, 4, none⟩ = some (.int .u8 48) := hp.2 4 (by decide)
      have c1 : wr.cell? ⟨B, 5, none⟩ = some (.int .u8 160) := hp.2 5 (by decide)
      clear hp
      have ho := opp_48 wide a b
      obtain ⟨h, hh⟩ : ∃ h, holdI 48 wide a b = h := ⟨_, rfl⟩
      obtain ⟨g, hg⟩ : ∃ g, holdI 160 wide a b = g := ⟨_, rfl⟩
      have t1 : isCond 48 = true := by decide
      have t2 : isCond 160 = true := by decide
      rw [hh, hg] at ho
      have HH := Lib.hid hh
      have HG := Lib.hid hg
      have T1 := Lib.hid t1
      have T2 := Lib.hid t2
      clear hh hg t1 t2
      go_wp2_with (first
        | (go_at_call_of 10 (Value.int .u8 48); refine (holds_alu 48 wide a b _ ha0 ha1 hb0 hb1).mono ?_; rw [HH.out, T1.out]; rintro e w3 ⟨rfl, hb⟩; have HP3 := Lib.hid (HPr.out.stays hb); have d1 := HP3.out.2 5 (by decide); have dlt := HP3.out.1; change w3.cell? ⟨B, 5, none⟩ = some (.int .u8 160) at d1; have HB3 := Lib.hid (HBr.out.trans (hb.mono HBr.out.size)); clear hb)
        | (go_at_call_of 10 (Value.int .u8 160); refine (holds_alu 160 wide a b _ ha0 ha1 hb0 hb1).mono ?_; rw [HG.out, T2.out]; rintro e w4 ⟨rfl, hb⟩; have HP4 := Lib.hid (HP3.out.stays hb); have HB4 := Lib.hid (HB3.out.trans (hb.mono HB3.out.size)); clear hb))
      go_roundw
      case rel => exact ⟨3, by omega, by go_num, HP4.out, HB4.out⟩
      case measure => simp [intOf]
    · have c0 : wr.cell? ⟨B, 6, none⟩ = some (.int .u8 96) := hp.2 6 (by decide)
      have c1 : wr.cell? ⟨B, 7, none⟩ = some (.int .u8 208) := hp.2 7 (by decide)
      clear hp
      have ho := opp_96 wide a b
      obtain ⟨h, hh⟩ : ∃ h, holdI 96 wide a b = h := ⟨_, rfl⟩
      obtain ⟨g, hg⟩ : ∃ g, holdI 208 wide a b = g := ⟨_, rfl⟩
      have t1 : isCond 96 = true := by decide
      have t2 : isCond 208 = true := by decide
      rw [hh, hg] at ho
      have HH := Lib.hid hh
      have HG := Lib.hid hg
      have T1 := Lib.hid t1
      have T2 := Lib.hid t2
      clear hh hg t1 t2
      go_wp2_with (first
        | (go_at_call_of 10 (Value.int .u8 96); refine (holds_alu 96 wide a b _ ha0 ha1 hb0 hb1).mono ?_; rw [HH.out, T1.out]; rintro e w3 ⟨rfl, hb⟩; have HP3 := Lib.hid (HPr.out.stays hb); have d1 := HP3.out.2 7 (by decide); have dlt := HP3.out.1; change w3.cell? ⟨B, 7, none⟩ = some (.int .u8 208) at d1; have HB3 := Lib.hid (HBr.out.trans (hb.mono HBr.out.size)); clear hb)
        | (go_at_call_of 10 (Value.int .u8 208); refine (holds_alu 208 wide a b _ ha0 ha1 hb0 hb1).mono ?_; rw [HG.out, T2.out]; rintro e w4 ⟨rfl, hb⟩; have HP4 := Lib.hid (HP3.out.stays hb); have HB4 := Lib.hid (HB3.out.trans (hb.mono HB3.out.size)); clear hb))
      go_roundw
      case rel => exact ⟨4, by omega, by go_num, HP4.out, HB4.out⟩
      case measure => simp [intOf]
    · have c0 : wr.cell? ⟨B, 8, none⟩ = some (.int .u8 112) := hp.2 8 (by decide)
      have c1 : wr.cell? ⟨B, 9, none⟩ = some (.int .u8 192) := hp.2 9 (by decide)
      clear hp
      have ho := opp_112 wide a b
      obtain ⟨h, hh⟩ : ∃ h, holdI 112 wide a b = h := ⟨_, rfl⟩
      obtain ⟨g, hg⟩ : ∃ g, holdI 192 wide a b = g := ⟨_, rfl⟩
      have t1 : isCond 112 = true := by decide
      have t2 : isCond 192 = true := by decide
      rw [hh, hg] at ho
      have HH := Lib.hid hh
      have HG := Lib.hid hg
      have T1 := Lib.hid t1
      have T2 := Lib.hid t2
      clear hh hg t1 t2
      go_wp2_with (first
        | (go_at_call_of 10 (Value.int .u8 112); refine (holds_alu 112 wide a b _ ha0 ha1 hb0 hb1).mono ?_; rw [HH.out, T1.out]; rintro e w3 ⟨rfl, hb⟩; have HP3 := Lib.hid (HPr.out.stays hb); have d1 := HP3.out.2 9 (by decide); have dlt := HP3.out.1; change w3.cell? ⟨B, 9, none⟩ = some (.int .u8 192) at d1; have HB3 := Lib.hid (HBr.out.trans (hb.mono HBr.out.size)); clear hb)
        | (go_at_call_of 10 (Value.int .u8 192); refine (holds_alu 192 wide a b _ ha0 ha1 hb0 hb1).mono ?_; rw [HG.out, T2.out]; rintro e w4 ⟨rfl, hb⟩; have HP4 := Lib.hid (HP3.out.stays hb); have HB4 := Lib.hid (HB3.out.trans (hb.mono HB3.out.size)); clear hb))
      go_roundw
      case rel => exact ⟨5, by omega, by go_num, HP4.out, HB4.out⟩
      case measure => simp [intOf]
theorem aluOpposites.walk (v0 v1 v2 : Value) (w : World) (h0 : ∃ b : Bool, v0 = .bool b) (h1 : IsInt .u64 v1) (h2 : IsInt .u64 v2) :
    Calls Try.prog 6 #[v0, v1, v2] w fun e w' => e = .returned (.bool true) ∧ Below w.heap.size w w' := by
  obtain ⟨wide, rfl⟩ := h0
  obtain ⟨a, rfl, ha⟩ := h1
  obtain ⟨b, rfl, hb⟩ := h2
  have b1 := bounds_u64 ha
  have b2 := bounds_u64 hb
  exact law_opp wide a b w b1.1 b1.2 b2.1 b2.2
end Go.Proofs.Ytnodajcllgglcaa
