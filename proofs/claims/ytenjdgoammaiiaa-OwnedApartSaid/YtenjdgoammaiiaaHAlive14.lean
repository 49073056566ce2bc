/-
  Proved here: the document's example of a program's maps comes out. Conditions: the contracts.
-/
import Derived.Test.YtenjdgoammaiiaaHActs14
import Derived.Lib.SlBytesConst
namespace Go.Proofs.Ytenjdgoammaiiaa
open Go.RowKit
set_option maxRecDepth 100000

theorem lit_key (W : World) (a : Array Value) (f : Nat × Nat) (kz : List Int) (ha : a = (u8s kz).toArray) : KeyAt (W.alloc (.cells a 5 f)) (.slice (some ⟨W.heap.size, 0, none⟩) kz.length kz.length) kz := by
  subst ha
  have hn : (W.alloc (.cells (u8s kz).toArray 5 f)).heap[W.heap.size]? = some (.cells (u8s kz).toArray 5 f) := heap_alloc_new W _
  refine .row _ _ _ _ _ rfl (fun j hj => ?_) (fun _ => by simp)
  rw [Nat.zero_add]
  unfold World.cell?
  simp only [hn]
  simp [u8s, hj]
theorem off_lit {W : World} {D : Nat → Prop} {g l c : Nat} (hD : ∀ b, D b → b < W.heap.size) (hg : W.heap.size ≤ g) : Off D (.slice (some ⟨g, 0, none⟩) l c) := by
  intro a len c' e h0 hd
  injection e with e _ _
  injection e with e
  subst e
  have := hD _ hd
  simp only at this
  omega
theorem bytes_lit {kz : List Int} (h : ∀ x ∈ kz, 0 ≤ x ∧ x ≤ 255) : IsBytes kz := by
  intro j
  rw [List.getD_eq_getElem?_getD]
  by_cases hj : j < kz.length
  · rw [List.getElem?_eq_getElem hj]
    exact h _ (List.getElem_mem hj)
  · rw [List.getElem?_eq_none (by omega)]
    exact ⟨by simp, by simp⟩
theorem conv_two (w : World) (o : Obj) (C : Array Value) (n c : Nat) : (convert 32 32 (.slice (some ⟨w.heap.size + 1, 0, none⟩) n c)).run Try.prog ((w.alloc o).alloc (.cells C 5)) = .ok (.slice (some ⟨w.heap.size + 1, 0, none⟩) n c) ((w.alloc o).alloc (.cells C 5 (C.size, C.size + 1))) := by
  have h := Lib.run_convert_bytes_const (P := Try.prog) (w.alloc o) 32 5 C n c Try.underlying32 Try.underlying5
  have hz : (w.alloc o).heap.size = w.heap.size + 1 := by simp
  rwa [hz] at h
def exD : List Df := [⟨1, 4, 1, 2⟩]
theorem ex_may : mayL exD = true := by decide +kernel
theorem ex_upd : opR 22 (updM [1, 0, 0, 0] [120] 0) (exD.map newM) 0 = (0, [.arr 1 2 [0, 120]]) := by rfl
theorem ex_yes : lookR [.arr 1 2 [0, 120]] 0 [1, 0, 0, 0] = 1 := by decide +kernel
theorem ex_no : lookR [.arr 1 2 [0, 120]] 0 [2, 0, 0, 0] = -1 := by decide +kernel
theorem ex_dfs (W : World) : DfsIn (W.alloc (.cells #[.int .i64 1, .int .i64 4, .int .i64 1, .int .i64 2] 47)) (some ⟨W.heap.size, 0, none⟩) exD := by
  intro j hj
  have h0 : j = 0 := by simp [exD] at hj; omega
  subst h0
  refine ⟨W.heap.size, 0, rfl, by simp, ?_, ?_, ?_, ?_⟩ <;> simp [go_sem, exD]
theorem upd_lit {PS : OwMem} (A : Acts14 PS) {W : World} {D : Nat → Prop} {h : Nat} {st : List MSt} (hp : PS W D h st) (m : Int) (kz vz : List Int) (a b : Array Value) (fa fb : Nat × Nat) (ha : a = (u8s kz).toArray) (hb : b = (u8s vz).toArray) (l1 l2 : Nat) (h1 : kz.length = l1) (h2 : vz.length = l2) (hl1 : l1 ≤ 100) (hl2 : l2 ≤ 100) (hby : ∀ x ∈ kz, 0 ≤ x ∧ x ≤ 255) :
    Calls Try.prog 14 #[ptrV h, .int .i64 m, .slice (some ⟨W.heap.size, 0, none⟩) l1 l1, .slice (some ⟨W.heap.size + 1, 0, none⟩) l2 l2, .int .u64 0] ((W.alloc (.cells a 5 fa)).alloc (.cells b 5 fb)) (ProgQ PS D h (.int .i64 (opR 22 (updM kz vz 0) st m).1) (opR 22 (updM kz vz 0) st m).2 ((W.alloc (.cells a 5 fa)).alloc (.cells b 5 fb))) := by
  subst h1 h2
  have hb1 : Below W.heap.size W (W.alloc (.cells a 5 fa)) := box_below W _
  have hz : (W.alloc (.cells a 5 fa)).heap.size = W.heap.size + 1 := by simp
  have hb2 := box_below (W.alloc (.cells a 5 fa)) (.cells b 5 fb)
  have hall : Below W.heap.size W ((W.alloc (.cells a 5 fa)).alloc (.cells b 5 fb)) := hb1.trans (hb2.mono hb1.size)
  have hk := (lit_key W a fa kz ha).stay rfl hb2
  have hv := lit_key (W.alloc (.cells a 5 fa)) b fb vz hb
  rw [hz] at hv
  exact A.update (A.stay hp hall) hk (bytes_lit hby) hv (off_lit (A.lt hp) (Nat.le_refl _)) (off_lit (A.lt hp) (by omega)) hl1 hl2
theorem look_lit {PS : OwMem} (A : Acts14 PS) {W : World} {D : Nat → Prop} {h : Nat} {st : List MSt} (hp : PS W D h st) (m : Int) (kz : List Int) (a : Array Value) (ha : a = (u8s kz).toArray) (l1 : Nat) (h1 : kz.length = l1) (hl1 : l1 ≤ 100) (hby : ∀ x ∈ kz, 0 ≤ x ∧ x ≤ 255) :
    Calls Try.prog 15 #[ptrV h, .int .i64 m, .slice (some ⟨W.heap.size, 0, none⟩) l1 l1] (W.alloc (.cells a 5)) (fun e w' => e = .returned (.tuple #[.int .i64 (if lookR st m kz < 0 then 0 else lookR st m kz), .bool (decide (0 ≤ lookR st m kz))]) ∧ Below (W.alloc (.cells a 5)).heap.size (W.alloc (.cells a 5)) w') := by
  subst h1
  exact A.lookup (A.stay hp (box_below W _)) (lit_key W a (0, 0) kz ha) (bytes_lit hby) hl1
/-- What is known of the example's maps. -/
structure Ex14 (PS : OwMem) (w W : World) (D : Nat → Prop) (h : Nat) (st : List MSt) : Prop where
  p : PS W D h st
  b : Below w.heap.size w W
  d : ∀ b, D b → w.heap.size ≤ b
theorem Ex14.stay {PS : OwMem} {w W W1 : World} {D : Nat → Prop} {h : Nat} {st : List MSt} (hx : Ex14 PS w W D h st) (A : Acts14 PS) (hb : Below W.heap.size W W1) : Ex14 PS w W1 D h st := ⟨A.stay hx.p hb, hx.b.trans (hb.mono hx.b.size), hx.d⟩
theorem Ex14.next {PS : OwMem} {w W W1 W2 : World} {D D2 : Nat → Prop} {h : Nat} {st st2 : List MSt} (hx : Ex14 PS w W D h st) (hb : Below W.heap.size W W1) (ht : Turned D W1 W2) (hp : PS W2 D2 h st2) (hD : ∀ b, D2 b → D b ∨ W1.heap.size ≤ b) : Ex14 PS w W2 D2 h st2 := by
  have h1 := hx.b.trans (hb.mono hx.b.size)
  refine ⟨hp, ht.belowN h1 hx.d, fun b hb' => ?_⟩
  rcases hD b hb' with h2 | h2
  · exact hx.d b h2
  · exact Nat.le_trans h1.size h2
set_option maxHeartbeats 1000000 in
theorem alive14 {PS : OwMem} (A0 : Acts14 PS) (w : World) : Calls Try.prog 5 #[] w (fun e w' => e = .returned (.bool true) ∧ Below w.heap.size w w') := by
  have A := Lib.hid A0
  clear A0
  have kc := fun (w : World) (C : Array Value) (n c : Nat) => Lib.run_convert_bytes_const (P := Try.prog) w 32 5 C n c Try.underlying32 Try.underlying5
  have kc2 := conv_two
  go_enter Try.func5, Try.ntmps5
  go_wp2_with (first
    | (go_at_call 7; refine (A.out.new (ex_dfs w) ex_may).mono ?_; rintro e w1 ⟨h, D, rfl, hp1, hb1, hd1⟩; have he1 : Ex14 PS w w1 D h (exD.map newM) := ⟨hp1, (box_below w _).trans (hb1.mono (box_below w _).size), fun b hb => Nat.le_trans (box_below w _).size (hd1 b hb)⟩; have HE1 := Lib.hid he1; clear hp1 hb1 hd1 he1; unfold ptrV)
    | (go_at_call 14; refine (upd_lit A.out HE1.out.p 0 [1, 0, 0, 0] [120] _ _ _ _ rfl rfl 4 1 rfl rfl (by omega) (by omega) (by decide)).mono ?_; rintro e w2 ⟨D2, he, hp2, ht2, hd2⟩; rw [ex_upd] at he hp2; subst he; have HE2 := Lib.hid (HE1.out.next ((box_below w1 _).trans ((box_below _ _).mono (box_below w1 _).size)) ht2 hp2 hd2); clear hp2 ht2 hd2)
    | (go_at_call 15; refine (look_lit A.out HE3.out.p 0 [2, 0, 0, 0] _ rfl 4 rfl (by omega) (by decide)).mono ?_; rintro e w4 ⟨he, hb4⟩; rw [ex_no, if_pos (by decide)] at he; subst he; have HE4 := Lib.hid ((HE3.out.stay A.out (box_below w3 _)).stay A.out hb4); clear hb4)
    | (go_at_call 15; refine (look_lit A.out HE2.out.p 0 [1, 0, 0, 0] _ rfl 4 rfl (by omega) (by decide)).mono ?_; rintro e w3 ⟨he, hb3⟩; rw [ex_yes, if_neg (by decide)] at he; subst he; have HE3 := Lib.hid ((HE2.out.stay A.out (box_below w2 _)).stay A.out hb3); clear hb3))
  go_ret
  exact ⟨rfl, HE4.out.b⟩
end Go.Proofs.Ytenjdgoammaiiaa
