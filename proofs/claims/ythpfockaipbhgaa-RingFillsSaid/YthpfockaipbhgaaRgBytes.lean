/-
  Proved here: Bytes of the document's rings. Conditions: as each says.
-/
import Derived.Test.YthpfockaipbhgaaRgReserve
namespace Go.Proofs.Ythpfockaipbhgaa
open Go.RowKit

def bytesN (i : Nat) (r : Rc) : List Int := if r.gone = true then [] else [(i : Int) % 256, r.own % 256, r.st % 256, (r.b.length : Int)] ++ r.b
def bytesT (rs : List Rc) : Nat → List Int
  | 0 => []
  | k + 1 => bytesT rs k ++ bytesN k (rget rs k)
def bytesR (rs : List Rc) : List Int := bytesT rs rs.length
theorem bytesT_len {rs : List Rc} (h : ∀ i, i < rs.length → (rget rs i).b.length ≤ 32) : ∀ k, k ≤ rs.length → (bytesT rs k).length ≤ k * 40
  | 0, _ => by simp [bytesT]
  | k + 1, hk => by
    have h1 := bytesT_len h k (by omega)
    have h2 := h k (by omega)
    show (bytesT rs k ++ bytesN k (rget rs k)).length ≤ _
    unfold bytesN
    rw [List.length_append]
    split
    · simp; omega
    · simp; omega
/-- How far it has come. -/
structure Hb (W wr : World) (v : Value) (xs : List Int) : Prop where
  own : wr.ownsRow W.heap.size 5 1 v xs.length (u8s xs)
  b : Below W.heap.size W wr
/-- A slice of bytes to be looked at, its block in E. -/
def RowSl (w : World) (E : Nat → Prop) (a : Option Addr) (c : Nat) (zs : List Int) : Prop := (a = none ∧ zs = [] ∧ c = 0) ∨ ∃ g off, a = some ⟨g, off, none⟩ ∧ E g ∧ g < w.heap.size ∧ RowAt w g off zs.length zs
theorem RowSl.kept {w w' : World} {E : Nat → Prop} {a : Option Addr} {c : Nat} {zs : List Int} (h : RowSl w E a c zs) (hz : w.heap.size ≤ w'.heap.size) (e : ∀ b, E b → b < w.heap.size → w'.heap[b]? = w.heap[b]?) : RowSl w' E a c zs := by
  rcases h with h | ⟨g, off, e1, e2, e3, hr⟩
  · exact .inl h
  · exact .inr ⟨g, off, e1, e2, Nat.lt_of_lt_of_le e3 hz, fun j hj => (World.cell?_of_block (w := w) (a := ⟨g, off + j, none⟩) (e g e2 e3)).trans (hr j hj)⟩
theorem RowSl.below {w w' : World} {E : Nat → Prop} {a : Option Addr} {c : Nat} {zs : List Int} (h : RowSl w E a c zs) (hb : Below w.heap.size w w') : RowSl w' E a c zs := h.kept hb.size (fun b _ hl => hb.block b hl)
theorem RowSl.str {w : World} {E : Nat → Prop} {a : Option Addr} {c : Nat} {zs : List Int} (h : RowSl w E a c zs) : (convert 36 9 (.slice a zs.length c)).run Try.prog w = .ok (.string (strOfNums zs)) w := by
  rcases h with ⟨rfl, rfl, rfl⟩ | ⟨g, off, rfl, -, -, hr⟩
  · simp [go_sem]; rfl
  · exact str_of rfl hr
def BytesP (zs : List Int) (W : World) (e : Ending) (w : World) : Prop := ∃ a c, e = .returned (.slice a zs.length c) ∧ RowSl w (fun b => W.heap.size ≤ b) a c zs ∧ Below W.heap.size W w
theorem Hb.gave {W wr : World} {v : Value} {xs : List Int} (h : Hb W wr v xs) : BytesP xs W (.returned v) wr := by
  rcases h.own.2 with ⟨rfl, h0⟩ | ⟨g, cap, cur, hv, hg, hh, -⟩
  · obtain rfl : xs = [] := List.eq_nil_of_length_eq_zero h0
    exact ⟨none, 0, rfl, .inl ⟨rfl, rfl, rfl⟩, h.b⟩
  · have ho := h.own
    subst hv
    refine ⟨_, cap, rfl, .inr ⟨g, 0, rfl, hg, (Array.getElem?_eq_some_iff.1 hh).1, fun j hj => ?_⟩, h.b⟩
    rw [Nat.zero_add, ho.cellAt j (by omega), u8s, List.getElem?_map, List.getElem?_eq_getElem hj, List.getD_eq_getElem?_getD, List.getElem?_eq_getElem hj]
    rfl
theorem row_cells {w : World} {g len : Nat} {zs : List Int} (hz : zs.length = len) (h : RowAt w g 0 len zs) : ∀ j u, (u8s zs)[j]? = some u → w.cell? ((⟨g, 0, none⟩ : Addr).add j) = some u := by
  intro j u hu
  rw [add_lit]
  exact u8s_cells hz h j u hu
theorem Hb.more0 {W wr w' : World} {v v' : Value} {xs ys : List Int} (h : Hb W wr v xs) (n : Nat) (hown : w'.ownsRow W.heap.size 5 1 v' (xs.length + n) (u8s xs ++ u8s ys)) (hg : wr.grownBy w' v.ownBlock) (hn : ys.length = n) : Hb W w' v' (xs ++ ys) := by
  subst hn
  refine ⟨?_, h.b.grown hg h.b.size (fun k hk => (h.own.lt k hk).1)⟩
  rw [List.length_append]
  simpa [u8s] using hown
theorem Hb.box {W wr w' : World} {v : Value} {xs : List Int} {o o' : Obj} (h : Hb W wr v xs) (hg : ((wr.alloc o).alloc o').grownBy w' v.ownBlock) : w'.heap[wr.heap.size]? = some o := by
  rw [hg.block wr.heap.size (by simp; omega) (fun e => by have := (h.own.lt _ e.symm).2; omega), Below.heap_alloc (wr.alloc o) o' _ (by simp)]
  exact heap_alloc_new wr o
theorem lit_two (w : World) (o : Obj) (zs : List Int) (f : Nat × Nat) : ∀ j u, (u8s zs)[j]? = some u → ((w.alloc o).alloc (.cells (u8s zs).toArray 5 f)).cell? ((⟨w.heap.size + 1, 0, none⟩ : Addr).add j) = some u := by
  intro j u hu
  have hz : (w.alloc o).heap.size = w.heap.size + 1 := by simp
  have hn : ((w.alloc o).alloc (.cells (u8s zs).toArray 5 f)).heap[w.heap.size + 1]? = some (.cells (u8s zs).toArray 5 f) := by
    rw [← hz]; exact heap_alloc_new _ _
  rw [add_lit, Nat.zero_add]
  unfold World.cell?
  simp only [hn]
  simpa using hu
theorem Hb.more {W wr w' : World} {v v' : Value} {xs ys : List Int} {o o' : Obj} (h : Hb W wr v xs) (n : Nat) (hown : w'.ownsRow W.heap.size 5 1 v' (xs.length + n) (u8s xs ++ u8s ys)) (hg : ((wr.alloc o).alloc o').grownBy w' v.ownBlock) (hn : ys.length = n) : Hb W w' v' (xs ++ ys) := by
  subst hn
  have h1 := h.b.size
  refine ⟨?_, ((h.b.alloc h.b.size _).alloc (by simp; omega) _).grown hg (by simp; omega) (fun k hk => (h.own.lt k hk).1)⟩
  rw [List.length_append]
  simpa [u8s] using hown
set_option maxRecDepth 100000 in
set_option maxHeartbeats 1000000 in
theorem rg_bytes {w : World} {H : Nat} {room drops : Int} {kv : Value} {gs : Nat → Nat} {rs : List Rc} (h : Rg w H room drops kv gs rs) :
    Calls Try.prog 33 #[.pointer (some ⟨H, 0, none⟩)] w (BytesP (bytesR rs) w) := by
  obtain ⟨a, c, rfl, -⟩ := h.shape
  have hle := h.le
  obtain ⟨m, hm⟩ : ∃ m, rs.length = m := ⟨_, rfl⟩
  have HG := Lib.hid h
  have HBL := Lib.hid (bytesT_len (fun i hi => (h.len i hi).2))
  rw [hm] at hle HG
  have HM := Lib.hid hm
  obtain ⟨i0, hi0, hz0, hz1, hz2⟩ := info_parts u8_info
  have HI := Lib.hid (And.intro hi0 (And.intro hz0 (And.intro hz1 hz2)))
  clear h hm hi0 hz0 hz1 hz2
  go_enter Try.func33, Try.ntmps33
  go_wp2
  go_loopw [3, 4] (fun s v wr => ∃ k : Nat, k ≤ m ∧ v = .int .i64 k ∧ Hb w wr s (bytesT rs k)) (fun _ v _ => 1001 - (intOf v).toNat)
  case atStart => exact ⟨0, by omega, rfl, ⟨World.ownsRow_nil _ _ _ _, Below.refl _ _⟩⟩
  case round =>
    obtain ⟨k, hk, rfl, hhm⟩ := hrel
    have HHM := Lib.hid hhm
    have HGW := Lib.hid (HG.out.stay hhm.b)
    have c2 := HGW.out.h2
    clear hhm
    by_cases hlt : k < m
    · obtain ⟨a', c', he, hrow⟩ := HGW.out.shape
      injection he with he _ _
      subst he
      obtain ⟨g, rfl, -, -, hcs⟩ := hrow.at_ (by rw [HM.out]; omega)
      obtain ⟨d0, d1, d2, d3⟩ := hcs k (by rw [HM.out]; omega)
      have hdata := HGW.out.data k (by rw [HM.out]; omega)
      have hln := HBL.out k (by rw [HM.out]; omega)
      have hl := HGW.out.len k (by rw [HM.out]; omega)
      obtain ⟨r, hr⟩ : ∃ r, rget rs k = r := ⟨_, rfl⟩
      rw [hr] at d0 d1 d2 d3 hdata hl
      obtain ⟨n, hn⟩ : ∃ n, r.b.length = n := ⟨_, rfl⟩
      rw [hn] at d2 hdata hl
      have hgl : gs k < wr.heap.size := cell_block_lt (hdata 0 (by omega))
      have HDT := Lib.hid hdata
      have HRK := Lib.hid hr
      have HN := Lib.hid hn
      have hfar : ∀ wx, Below w.heap.size w wx → RowAt wx (gs k) 0 n r.b := fun wx hb => by
        have := (HG.out.stay hb).data k (by rw [HM.out]; omega)
        rwa [hr, hn] at this
      have HFAR := Lib.hid hfar
      clear hcs hrow hdata hr hn hfar
      cases hg : r.gone
      · rw [hg] at d3
        have HG3 := Lib.hid hg
        clear hg
        have hsn : bytesT rs (k + 1) = bytesT rs k ++ ([(k : Int) % 256, r.own % 256, r.st % 256, (n : Int)] ++ r.b) := by
          show bytesT rs k ++ bytesN k (rget rs k) = _
          rw [HRK.out, bytesN, HG3.out, HN.out]; rfl
        have HS := Lib.hid hsn
        clear hsn
        go_wp2_with (first
          | (at_builtin; have hr1 := HHM.out.b.size; refine wpList_append_own_at _ rfl _ _ 36 rfl w.heap.size 5 i0 _ 1 1 Try.underlying36 HI.out.1 HI.out.2.1 HI.out.2.2.1 HI.out.2.2.2 rfl (by omega) _ _ _ rfl ((HHM.out.own.alloc _).alloc _) ⟨wr.heap.size + 1, 0, none⟩ 4 4 (u8s [(k : Int) % 256, r.own % 256, r.st % 256, (n : Int)]) rfl rfl (lit_two _ _ _ _) u8s_one (by unfold maxLen; omega) (by omega) (by simp; omega) ?_; intro v1 w2 hown hgr _ _; have hbox := HHM.out.box hgr; have q2 : w2.cell? ⟨wr.heap.size, 2, none⟩ = some (.slice (some ⟨gs k, 0, none⟩) n n) := (by unfold World.cell?; simp only [hbox]; rfl); clear hbox; have H1 := Lib.hid (HHM.out.more 4 hown hgr rfl); clear hown hgr)
          | (at_builtin; have hr1 := H1.out.b.size; refine wpList_append_own_at _ rfl _ _ 36 rfl w.heap.size 5 i0 _ 1 1 Try.underlying36 HI.out.1 HI.out.2.1 HI.out.2.2.1 HI.out.2.2.2 rfl (by omega) _ _ _ rfl H1.out.own ⟨gs k, 0, none⟩ n n (u8s r.b) rfl (by rw [u8s_length, HN.out, Nat.mul_one]) (row_cells HN.out (HFAR.out _ H1.out.b)) u8s_one (by rw [List.length_append]; simp; unfold maxLen; omega) (by rw [List.length_append]; simp; omega) (by omega) ?_; intro v2 w3 hown hgr _ _; have H2 := Lib.hid (H1.out.more0 n hown hgr HN.out); clear hown hgr))
        go_roundw
        case rel => exact ⟨k + 1, by omega, by go_num, by rw [HS.out, ← List.append_assoc]; exact H2.out⟩
        case measure => simp [intOf]; omega
      · rw [hg] at d3
        have HG3 := Lib.hid hg
        clear hg
        have hsn : bytesT rs (k + 1) = bytesT rs k := by
          show bytesT rs k ++ bytesN k (rget rs k) = _
          rw [HRK.out, bytesN, HG3.out]; simp
        have HS := Lib.hid hsn
        clear hsn
        go_wp2
        go_roundw
        case rel => exact ⟨k + 1, by omega, by go_num, by rw [HS.out]; exact ⟨HHM.out.own.alloc _, HHM.out.b.alloc HHM.out.b.size _⟩⟩
        case measure => simp [intOf]; omega
    · obtain rfl : k = m := by omega
      go_wp2
      go_ret
      rw [bytesR, HM.out]
      exact HHM.out.gave
end Go.Proofs.Ythpfockaipbhgaa
