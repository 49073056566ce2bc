/-
  Proved here: readOne of package inst returns the instruction that eight bytes have. Conditions: the bytes are there.
-/
import Derived.Test.YtmihmgchbibmoaaInsIn
import Derived.Deep.RegionHeld
namespace Go.Proofs.Ytmihmgchbibmoaa
open Go.RowKit

/-- The instruction that bytes have, from place p on. -/
def insOf (zs : List Int) (p : Nat) : Ins := ⟨zs.getD p 0, zs.getD (p + 1) 0 % 16, zs.getD (p + 1) 0 / 16, IntKind.i16.wrap (ldF zs (p + 2) 2), wrap32 (ldF zs (p + 4) 4)⟩

theorem load_in (g off len cap : Nat) (p n : Nat) (zs : List Int) (w : World) (v : Int) (hl : len ≤ maxLen) (ht : thB len p n = true) (hr : RowAt w g off len zs) (hz : BytesIn zs) (hv : ldF zs p n = v) :
    Calls Try.prog 25 #[.slice (some ⟨g, off, none⟩) len cap, .int .i64 p, .int .i64 n] w (Ret (.tuple #[.int .u64 v, .bool true]) w) := by
  subst hv
  exact load_yes g off len cap p n zs w hl ht hr hz
theorem and15 (z : Int) (h : 0 ≤ z ∧ z ≤ 255) : bits BinOp.and IntKind.u8 z 15 = z % 16 := by
  obtain ⟨z, rfl⟩ := Int.eq_ofNat_of_zero_le h.1
  rw [u8_and _ _ (by omega) (by omega) (by omega) (by omega)]
  have : ((15 : Int).toNat) = 15 := rfl
  rw [this, Int.toNat_natCast, nat_mask4]
  simp
theorem read_one (g off len cap : Nat) (zs : List Int) (w : World) (h8 : 8 ≤ len) (hl : len ≤ maxLen) (hr : RowAt w g off len zs) (hz : BytesIn zs) :
    Calls Try.prog 18 #[.slice (some ⟨g, off, none⟩) len cap] w fun e w' => e = .returned (insOf zs 0).val ∧ Below w.heap.size w w' := by
  have hm := hl
  unfold maxLen at hm
  have hg : g < w.heap.size := World.block_lt_of_cell? w _ (hr 0 (by omega))
  have t2 : thB len 2 2 = true := by simp [thB, sizeB]; omega
  have t4 : thB len 4 4 = true := by simp [thB, sizeB]; omega
  have c0 := hr 0 (by omega)
  have c1 := hr 1 (by omega)
  rw [Nat.add_zero] at c0
  have z0 := hz 0
  have z1 := hz 1
  obtain ⟨o, ho⟩ : ∃ o, zs.getD 0 0 = o := ⟨_, rfl⟩
  obtain ⟨b, hb⟩ : ∃ b, zs.getD 1 0 = b := ⟨_, rfl⟩
  obtain ⟨f, hf⟩ : ∃ f, ldF zs 2 2 = f := ⟨_, rfl⟩
  obtain ⟨m, hm4⟩ : ∃ m, ldF zs 4 4 = m := ⟨_, rfl⟩
  rw [ho] at c0 z0
  rw [hb] at c1 z1
  have hv : insOf zs 0 = ⟨o, b % 16, b / 16, IntKind.i16.wrap f, wrap32 m⟩ := by
    simp only [insOf, Nat.zero_add, ho, hb, hf, hm4]
  have hra : ∀ o : Obj, RowAt (w.alloc o) g off len zs := fun o j hj => (World.cell?_alloc_lt w o _ hg).trans (hr j hj)
  have ha := and15 b z1
  have HF := Lib.hid hf
  have HM := Lib.hid hm4
  have HR := Lib.hid hra
  have T2 := Lib.hid t2
  have T4 := Lib.hid t4
  rw [hv]
  clear hf hm4 hv hra t2 t4 ho hb hr
  have N0 := World.new_ne w _ c0
  have N1 := World.new_ne w _ c1
  unfold Ins.val
  go_enter Try.func18, Try.ntmps18
  go_wp2_with fail
  refine (load_in g off len cap 2 2 zs _ f hl T2.out (HR.out _) hz HF.out).mono ?_
  rintro e w' ⟨rfl, rfl⟩
  go_wp2_with fail
  refine (load_in g off len cap 4 4 zs _ m hl T4.out (HR.out _) hz HM.out).mono ?_
  rintro e w' ⟨rfl, rfl⟩
  go_wp2_with fail
  have i0 : (0 : Int) < (len : Int) := by omega
  have i1 : (1 : Int) < (len : Int) := by omega
  go_region_held (fun W => W.cell? ⟨g, off, none⟩ = some (.int .u8 o) ∧ W.cell? ⟨g, off + 1, none⟩ = some (.int .u8 b)) (go_keep)
    (fail)
  go_wp2
  refine bodyPost_ret (v := (⟨o, b % 16, b / 16, IntKind.i16.wrap f, wrap32 m⟩ : Ins).val) (by simp [results, Try.results18, go_sem, Ins.val]) rfl ⟨rfl, ?_⟩
  exact ((Below.refl _ _).alloc (Nat.le_refl _) _).drew
end Go.Proofs.Ytmihmgchbibmoaa
