/-
  Proved here: writeOne of package inst writes an instruction's eight bytes. Conditions: the places are there, in a row of the call's own.
-/
import Derived.Test.YtmihmgchbibmoaaOwn
import Derived.Test.YtmihmgchbibmoaaIns
import Derived.Test.YtmihmgchbibmoaaWide
import Derived.Outline
import Derived.Deep.AppendLies
namespace Go.Proofs.Ytmihmgchbibmoaa
open Go.RowKit

/-- A row of the call's own was written to. -/
def Wrote (W w : World) (g len : Nat) (zs : List Int) (v : Value) (e : Ending) (w' : World) : Prop := e = .returned v ∧ Fresh W w' g len zs ∧ w.grownBy w' (some g)
theorem grown_setCell (w : World) (g o : Nat) (v : Value) : w.grownBy (w.setCell ⟨g, o, none⟩ v) (some g) :=
  ⟨rfl, rfl, rfl, by simp [World.setCell], fun i _ hne => Below.heap_setCell w ⟨g, o, none⟩ v i (fun e => hne (by rw [e]))⟩
theorem grown_setCells (g : Nat) : ∀ (vs : List Value) (w : World) (o : Nat), w.grownBy (w.setCells g o vs) (some g)
  | [], w, _ => World.grownBy.refl w _
  | v :: vs, w, o => (grown_setCell w g o v).trans (grown_setCells g vs _ _)

theorem Fresh.lt {W w : World} {g len : Nat} {zs : List Int} (h : Fresh W w g len zs) (h0 : 0 < len) : g < w.heap.size := World.block_lt_of_cell? w _ (h.row 0 h0)
theorem Fresh.alloc {W w : World} {g len : Nat} {zs : List Int} (h : Fresh W w g len zs) (hg : g < w.heap.size) (o : Obj) : Fresh W (w.alloc o) g len zs where
  at_ := h.at_
  row := fun j hj => (World.cell?_alloc_lt _ _ _ hg).trans (h.row j hj)
  free := fun j => by
    have := h.free j
    unfold World.frozen? at this ⊢
    rw [show (w.alloc o).heap[g]? = w.heap[g]? from Below.heap_alloc w o g hg]
    exact this
  below := h.below.alloc h.below.size o

theorem Fresh.set1 {W w : World} {g len : Nat} {zs : List Int} {j : Nat} {v : Int} (h : Fresh W w g len zs) (hz : zs.length = len) (hj : j < len) :
    Fresh W (w.setCell ⟨g, j, none⟩ (.int .u8 v)) g len (putL zs j [v]) := by
  have := h.put (p := j) (vs := [v]) hz (by simp; omega)
  simpa [u8s, World.setCells, Nat.zero_add] using this
theorem store_own (W w : World) (g len p n cap : Nat) (q : Nat) (k : Nat) (x : Int) (zs : List Int) (hf : Fresh W w g len zs) (hz : zs.length = len) (hn : p + n = len) (hq : q + k ≤ n) (hk : sizeB k = true) (hl : len ≤ 100000) :
    Calls Try.prog 23 #[.slice (some ⟨g, p, none⟩) n cap, .int .i64 q, .int .i64 k, .int .u64 x] w (Wrote W w g len (putL zs (p + q) (bsL x k)) (.bool true)) := by
  have ht : thB n q k = true := by
    simp only [thB, hk, Bool.true_and, Bool.and_eq_true, decide_eq_true_eq]; omega
  refine (store_yes g p n cap q k x (zs.drop p) w (by unfold maxLen; omega) ht (fun j hj => ?_) (fun j hj => hf.free _)).mono fun e w' h => ⟨h.1, ?_⟩
  · have := hf.row (p + j) (by omega)
    rw [Nat.zero_add] at this
    rw [this, List.getD_eq_getElem?_getD, List.getD_eq_getElem?_getD, List.getElem?_drop]
  · have := hf.put (p := p + q) (vs := bsL x k) hz (by rw [bsL_length]; omega)
    rw [Nat.zero_add] at this
    rw [← h.2]
    exact ⟨this, grown_setCells g _ w _⟩
theorem putL_putL {zs a b : List Int} {p : Nat} (h : p + a.length ≤ zs.length) : putL (putL zs p a) (p + a.length) b = putL zs p (a ++ b) := by
  have hl : (zs.take p).length = p := by simp; omega
  unfold putL
  rw [List.take_left' (by simp; omega), show p + (a ++ b).length = p + a.length + b.length by simp; omega, List.drop_append, List.drop_eq_nil_of_le (by simp; omega), List.nil_append, List.drop_drop, List.append_assoc]
  simp only [List.append_assoc, List.length_append, hl]
  congr 4
  omega
theorem low_high (d s : Int) (d0 : 0 ≤ d ∧ d ≤ 255) (s0 : 0 ≤ s ∧ s ≤ 255) : bits BinOp.or IntKind.u8 (bits BinOp.and IntKind.u8 d 15) (s * 16 % 256) = d % 16 + 16 * (s % 16) := by
  obtain ⟨d, rfl⟩ := Int.eq_ofNat_of_zero_le d0.1
  obtain ⟨s, rfl⟩ := Int.eq_ofNat_of_zero_le s0.1
  have e1 : bits BinOp.and IntKind.u8 (d : Int) 15 = ((d % 16 : Nat) : Int) := by
    rw [u8_and _ _ (by omega) (by omega) (by omega) (by omega)]
    exact congrArg _ (nat_mask4 d)
  have e2 : ((s : Int) * 16 % 256) = ((2 ^ 4 * (s % 16) : Nat) : Int) := by simp; omega
  rw [e1, e2, u8_or_nat _ _ (by omega) (by omega), Nat.or_comm, ← Nat.two_pow_add_eq_or_of_lt (i := 4) (b := d % 16) (by omega) (s % 16)]
  simp; omega
theorem write_bytes {x : Ins} (hx : x.Fit) {zs : List Int} {p len : Nat} {b u v : Int} (hb : bits BinOp.or IntKind.u8 (bits BinOp.and IntKind.u8 x.dst 15) (x.src * 16 % 256) = b)
    (hu : u = x.off % 18446744073709551616) (hv : v = x.imm % 18446744073709551616) (hz : zs.length = len) (hp : p + 8 ≤ len) :
    putL (putL (putL (putL zs p [x.op]) (p + 1) [b]) (p + 2) (bsL u 2)) (p + 4) (bsL v 4) = putL zs p x.bytes := by
  rw [low_high _ _ hx.dst hx.src] at hb
  have e1 := putL_putL (zs := zs) (a := [x.op]) (b := [b]) (p := p) (by simp; omega)
  have e2 := putL_putL (zs := zs) (a := [x.op] ++ [b]) (b := bsL u 2) (p := p) (by simp; omega)
  have e3 := putL_putL (zs := zs) (a := [x.op] ++ [b] ++ bsL u 2) (b := bsL v 4) (p := p) (by simp [bsL_length]; omega)
  simp only [List.length_append, List.length_singleton, bsL_length, Nat.reduceAdd] at e1 e2 e3
  rw [e1, e2, e3]
  congr 1
  subst hb hu hv
  simp [bsL, Ins.bytes]
  omega

theorem write_one (W w : World) (g len p n cap : Nat) (zs : List Int) (x : Ins) (hx : x.Fit) (hf : Fresh W w g len zs) (hz : zs.length = len) (hn : p + n = len) (hp : 8 ≤ n) (hl : len ≤ 100000) :
    Calls Try.prog 16 #[.slice (some ⟨g, p, none⟩) n cap, x.val] w (Wrote W w g len (putL zs p x.bytes) (.tuple #[])) := by
  have hg := hf.lt (by omega)
  have c0 := hf.row p (by omega)
  have f0 := hf.free p
  have c1 := hf.row (p + 1) (by omega)
  have f1 := hf.free (p + 1)
  rw [Nat.zero_add] at c0 c1
  obtain ⟨b, hb⟩ : ∃ b, bits BinOp.or IntKind.u8 (bits BinOp.and IntKind.u8 x.dst 15) (x.src * 16 % 256) = b := ⟨_, rfl⟩
  obtain ⟨u, hu, u0, u1, hum⟩ := u64_of x.off
  obtain ⟨v, hv, v0, v1, hvm⟩ := u64_of x.imm
  have hwr := write_bytes hx hb hum hvm hz (p := p) (by omega)
  have hl1 : (putL zs p [x.op]).length = len := by rw [putL_length (by simp; omega)]; exact hz
  have hl2 : (putL (putL zs p [x.op]) (p + 1) [b]).length = len := by rw [putL_length (by simp; omega)]; exact hl1
  have hl3 : (putL (putL (putL zs p [x.op]) (p + 1) [b]) (p + 2) (bsL u 2)).length = len := by rw [putL_length (by rw [bsL_length]; omega)]; exact hl2
  have hf2 := ((hf.set1 (j := p) (v := x.op) hz (by omega)).set1 (j := p + 1) (v := b) hl1 (by omega)).alloc (by simpa using hg) (.cells #[.int .u8 x.op, .int .u8 x.dst, .int .u8 x.src, .int .i16 x.off, .int .i32 x.imm] 36)
  have hgr : w.grownBy (((w.setCell ⟨g, p, none⟩ (.int .u8 x.op)).setCell ⟨g, p + 1, none⟩ (.int .u8 b)).alloc (.cells #[.int .u8 x.op, .int .u8 x.dst, .int .u8 x.src, .int .i16 x.off, .int .i32 x.imm] 36)) (some g) :=
    ((grown_setCell w g p _).trans (grown_setCell _ g (p + 1) _)).trans (World.grownBy_alloc _ _ _)
  have HU := Lib.hid hum
  have HV := Lib.hid hvm
  have HN := Lib.hid hn
  have HW := Lib.hid hwr
  have HL2 := Lib.hid hl2
  have HL3 := Lib.hid hl3
  have HG := Lib.hid hgr
  clear hum hvm hz hn hwr hl1 hl2 hl3 hgr
  unfold Ins.val
  go_enter Try.func16, Try.ntmps16
  go_wp2_with fail
  refine (store_own W _ g len p n cap 2 2 u _ hf2 HL2.out HN.out (by omega) rfl hl).mono ?_
  rintro e w2 ⟨rfl, hf3, hg3⟩
  have hm : w2.cell? ⟨w.heap.size, 4, none⟩ = some (.int .i32 x.imm) := by
    rw [hg3.cell_far ⟨w.heap.size, 4, none⟩ (by simp) (by simp; omega)]
    simp [go_sem]
  have HG3 := Lib.hid hg3
  clear hg3
  go_wp2_with fail
  refine (store_own W _ g len p n cap 4 4 v _ hf3 HL3.out HN.out (by omega) rfl hl).mono ?_
  rintro e w3 ⟨rfl, hf4, hg4⟩
  rw [HW.out] at hf4
  have HG4 := Lib.hid hg4
  clear hg4
  go_wp2
  go_end0
  exact ⟨rfl, hf4, (HG.out.trans HG3.out).trans HG4.out⟩
end Go.Proofs.Ytmihmgchbibmoaa
