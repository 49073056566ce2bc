/-
  Proved here: the document's example of maps by keys comes out. Conditions: the contracts.
-/
import Derived.Test.YtcociipcimdjjaaHacts
import Derived.Lib.SlBytesConst
namespace Go.Proofs.Ytcociipcimdjjaa
open Go.RowKit

theorem lit_key (W : World) (a : Array Value) (f : Nat × Nat) (kz : List Int) (ha : a = (u8s kz).toArray) : KeyAt (W.alloc (.cells a 5 f)) (.slice (some ⟨W.heap.size, 0, none⟩) kz.length kz.length) kz := by
  subst ha
  have hn : (W.alloc (.cells (u8s kz).toArray 5 f)).heap[W.heap.size]? = some (.cells (u8s kz).toArray 5 f) := heap_alloc_new W _
  refine .row _ _ _ _ _ rfl (fun j hj => ?_) (fun _ => by simp)
  rw [Nat.zero_add]
  unfold World.cell?
  simp only [hn]
  simp [u8s, hj]
theorem KeyAt.stay {w w' : World} {v : Value} {kz : List Int} (h : KeyAt w v kz) (hb : Below w.heap.size w w') : KeyAt w' v kz := h.below hb
theorem put_lit {PS : MapMem} {key s n L : Nat} (A : Acts PS key s n L) {W : World} {D : Nat → Prop} {h : Nat} {ks : List ByteArray} {zs : List Int} (hp : PS W D h ks zs) (kz vz : List Int) (a b : Array Value) (fa fb : Nat × Nat) (ha : a = (u8s kz).toArray) (hb : b = (u8s vz).toArray) (l1 l2 : Nat) (h1 : kz.length = l1) (h2 : vz.length = l2) :
    Calls Try.prog 18 #[.pointer (some ⟨h, 0, none⟩), .slice (some ⟨W.heap.size, 0, none⟩) l1 l1, .slice (some ⟨W.heap.size + 1, 0, none⟩) l2 l2, .int .u64 0] ((W.alloc (.cells a 5 fa)).alloc (.cells b 5 fb)) (PutP PS D h (putR ks zs key s kz vz 0) ((W.alloc (.cells a 5 fa)).alloc (.cells b 5 fb))) := by
  subst h1 h2
  have hb1 : Below W.heap.size W (W.alloc (.cells a 5 fa)) := (Below.refl _ _).alloc (Nat.le_refl _) _
  have hz : (W.alloc (.cells a 5 fa)).heap.size = W.heap.size + 1 := by simp
  have hb2 : Below (W.alloc (.cells a 5 fa)).heap.size (W.alloc (.cells a 5 fa)) ((W.alloc (.cells a 5 fa)).alloc (.cells b 5 fb)) := (Below.refl _ _).alloc (Nat.le_refl _) _
  have hall : Below W.heap.size W ((W.alloc (.cells a 5 fa)).alloc (.cells b 5 fb)) := hb1.trans (hb2.mono hb1.size)
  have hk := (lit_key W a fa kz ha).stay hb2
  have hv := lit_key (W.alloc (.cells a 5 fa)) b fb vz hb
  rw [hz] at hv
  refine A.put (A.kept hp (fun b' hb' => hall.block b' (A.lt hp b' hb'))) hk hv ?_ ?_ (by omega) (by omega)
  · intro x len c e h0 hd
    injection e with e _ _
    injection e with e
    subst e
    have := A.lt hp _ hd
    simp only at this
    omega
  · intro x len c e h0 hd
    injection e with e _ _
    injection e with e
    subst e
    have := A.lt hp _ hd
    simp only at this
    omega
theorem drop_lit {PS : MapMem} {key s n L : Nat} (A : Acts PS key s n L) {W : World} {D : Nat → Prop} {h : Nat} {ks : List ByteArray} {zs : List Int} (hp : PS W D h ks zs) (kz : List Int) (a : Array Value) (fa : Nat × Nat) (ha : a = (u8s kz).toArray) (l1 : Nat) (h1 : kz.length = l1) (hm : l1 ≤ maxLen) :
    Calls Try.prog 14 #[.pointer (some ⟨h, 0, none⟩), .slice (some ⟨W.heap.size, 0, none⟩) l1 l1] (W.alloc (.cells a 5 fa)) (DropP PS D h key ks zs kz (W.alloc (.cells a 5 fa))) := by
  subst h1
  have hb1 : Below W.heap.size W (W.alloc (.cells a 5 fa)) := (Below.refl _ _).alloc (Nat.le_refl _) _
  exact A.drop (A.kept hp (fun b' hb' => hb1.block b' (A.lt hp b' hb'))) rfl hm (lit_key W a fa kz ha)
def sAB : ByteArray := ⟨#[97, 98]⟩
def sCD : ByteArray := ⟨#[99, 100]⟩
theorem ex1 : putR (noKeys 1) (zeros 1) 2 1 [97, 98] [120] 0 = (0, 0, [sAB], [120]) := by decide +kernel
theorem ex2 : putR [sAB] [120] 2 1 [99, 100] [121] 0 = (0, 28, [sAB], [120]) := by decide +kernel
theorem ex3 : dropE [sAB] 2 [97, 98] = 0 := by decide +kernel
theorem ex4 : dropK [sAB] 2 [97, 98] = [⟨#[]⟩] := by decide +kernel
theorem ex5 : putR [⟨#[]⟩] [120] 2 1 [99, 100] [121] 0 = (0, 0, [sCD], [121]) := by decide +kernel
theorem ex6 : (listK [sCD]).length = 1 := by decide +kernel
/-- What is known of the example's map. -/
structure Ex (PS : MapMem) (w W : World) (D : Nat → Prop) (h : Nat) (ks : List ByteArray) (zs : List Int) : Prop where
  p : PS W D h ks zs
  b : Below w.heap.size w W
  d : ∀ b, D b → w.heap.size ≤ b
theorem Ex.next {PS : MapMem} {key s n L : Nat} {w W W1 W2 : World} {D D2 : Nat → Prop} {h : Nat} {ks ks2 : List ByteArray} {zs zs2 : List Int} (hx : Ex PS w W D h ks zs) (_A : Acts PS key s n L) (hb : Below W.heap.size W W1) (ht : Turned D W1 W2) (hp : PS W2 D2 h ks2 zs2) (hD : ∀ b, D2 b → D b ∨ W1.heap.size ≤ b) : Ex PS w W2 D2 h ks2 zs2 := by
  have h1 := hx.b.trans (hb.mono hx.b.size)
  refine ⟨hp, ht.below h1 hx.d, fun b hb' => ?_⟩
  rcases hD b hb' with h2 | h2
  · exact hx.d b h2
  · exact Nat.le_trans h1.size h2
theorem below_one (W : World) (o : Obj) : Below W.heap.size W (W.alloc o) := (Below.refl _ _).alloc (Nat.le_refl _) _
theorem below_two (W : World) (a b : Obj) : Below W.heap.size W ((W.alloc a).alloc b) := (below_one W a).trans ((below_one _ b).mono (below_one W a).size)
theorem conv_two (w : World) (o : Obj) (C : Array Value) (n c : Nat) : (convert 31 31 (.slice (some ⟨w.heap.size + 1, 0, none⟩) n c)).run Try.prog ((w.alloc o).alloc (.cells C 5)) = .ok (.slice (some ⟨w.heap.size + 1, 0, none⟩) n c) ((w.alloc o).alloc (.cells C 5 (C.size, C.size + 1))) := by
  have h := Lib.run_convert_bytes_const (P := Try.prog) (w.alloc o) 31 5 C n c Try.underlying31 Try.underlying5
  have hz : (w.alloc o).heap.size = w.heap.size + 1 := by simp
  rwa [hz] at h
theorem alive11 (w : World) : Calls Try.prog 5 #[] w (fun e w' => e = .returned (.bool true) ∧ Below w.heap.size w w') := by
  have A := Lib.hid (hm_acts 2 1 1 1 ⟨by omega, by omega, by omega, by omega, rfl⟩ (by omega) (by omega))
  obtain ⟨PS, hPS⟩ : ∃ PS, PM 2 1 1 1 = PS := ⟨_, rfl⟩
  rw [hPS] at A
  clear hPS
  have kc := fun (w : World) (C : Array Value) (n c : Nat) => Lib.run_convert_bytes_const (P := Try.prog) w 31 5 C n c Try.underlying31 Try.underlying5
  have kc2 := conv_two
  go_enter Try.func5, Try.ntmps5
  go_wp2_with (first
    | (go_at_call 6; refine (A.out.new _).mono ?_; rintro e w1 ⟨h, D1, rfl, hp1, hb1, hd1⟩; have X1 := Lib.hid (Ex.mk hp1 hb1 hd1); clear hp1 hb1 hd1)
    | (go_at_call 18; refine (put_lit A.out X1.out.p [97, 98] [120] _ _ _ _ rfl rfl 2 1 rfl rfl).mono ?_; rintro e w2 ⟨D2, he, hp2, ht2, hd2⟩; rw [ex1] at he hp2; subst he; have X2 := Lib.hid (X1.out.next A.out (below_two _ _ _) ht2 hp2 hd2); clear hp2 ht2 hd2 X1)
    | (go_at_call 18; refine (put_lit A.out X2.out.p [99, 100] [121] _ _ _ _ rfl rfl 2 1 rfl rfl).mono ?_; rintro e w3 ⟨D3, he, hp3, ht3, hd3⟩; rw [ex2] at he hp3; subst he; have X3 := Lib.hid (X2.out.next A.out (below_two _ _ _) ht3 hp3 hd3); clear hp3 ht3 hd3 X2)
    | (go_at_call 14; refine (drop_lit A.out X3.out.p [97, 98] _ _ rfl 2 rfl (by unfold maxLen; omega)).mono ?_; rintro e w4 ⟨D4, he, hp4, ht4, hd4⟩; rw [ex3] at he; rw [ex4] at hp4; subst he; have X4 := Lib.hid (X3.out.next A.out (below_one _ _) ht4 hp4 hd4); clear hp4 ht4 hd4 X3)
    | (go_at_call 18; refine (put_lit A.out X4.out.p [99, 100] [121] _ _ _ _ rfl rfl 2 1 rfl rfl).mono ?_; rintro e w5 ⟨D5, he, hp5, ht5, hd5⟩; rw [ex5] at he hp5; subst he; have X5 := Lib.hid (X4.out.next A.out (below_two _ _ _) ht5 hp5 hd5); clear hp5 ht5 hd5 X4)
    | (go_at_call 11; refine (((A.out.tells D5).len X5.out.p)).mono ?_; rintro e w6 ⟨he, hb6⟩; rw [ex6] at he; subst he; have B6 := Lib.hid hb6; clear hb6))
  go_ret
  exact ⟨rfl, X5.out.b.trans (B6.out.mono X5.out.b.size)⟩
end Go.Proofs.Ytcociipcimdjjaa
