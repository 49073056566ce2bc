/-
  Proved here: what Bytes of the document's maps tells. Conditions: as each lemma says.
-/
import Derived.Test.YtenjdgoammaiiaaHOwQ
import Derived.Lib.AppendStr
namespace Go.Proofs.Ytenjdgoammaiiaa
open Go.RowKit
set_option maxRecDepth 100000

def strB (y : ByteArray) : List Int := y.data.toList.map fun b => (b.toNat : Int)
theorem strB_cells (y : ByteArray) : u8s (strB y) = Lib.strCells y := by simp [u8s, strB, Lib.strCells]
theorem strB_length (y : ByteArray) : (strB y).length = y.size := by
  have := Lib.strCells_length y
  rw [← strB_cells, u8s_length] at this
  exact this
theorem u8s_append (a b : List Int) : u8s (a ++ b) = u8s a ++ u8s b := by simp [u8s]
/-- The keys that are there, each behind its slot's number: of the first k slots. -/
def keysB (ks : List ByteArray) : Nat → List Int
  | 0 => []
  | k + 1 => keysB ks k ++ if ks.getD k .empty = ⟨#[]⟩ then [] else (k : Int) :: strB (ks.getD k .empty)
/-- The objects' numbers and generations. -/
def obsB (os : List Ob) : List Int := os.flatMap fun o => [o.1 % 256, o.2 % 256]
def k1M : MSt → List Int
  | .hash _ _ n ks _ => keysB ks n
  | _ => []
def k2M : MSt → List Int
  | .loc _ _ _ os _ => obsB os
  | _ => []
/-- What stands ahead of a map's slots. -/
def headM (x : MSt) : List Int := ((x.kind : Int) % 256) :: (k1M x ++ k2M x)
def bytesS (st : List MSt) : List Int := st.flatMap fun x => headM x ++ x.zs
/-- Keys aren't long. -/
def okM : MSt → Prop
  | .hash _ _ _ ks _ => ∀ k, (ks.getD k .empty).size ≤ 8
  | _ => True
theorem keysB_len {ks : List ByteArray} (h : ∀ k, (ks.getD k .empty).size ≤ 8) : ∀ k, (keysB ks k).length ≤ k * 9
  | 0 => Nat.le_refl _
  | k + 1 => by
    have h1 := keysB_len h k
    have h2 := h k
    unfold keysB
    rw [List.length_append]
    split
    · simp; omega
    · rw [List.length_cons, strB_length]; omega
theorem obsB_len (os : List Ob) : (obsB os).length = os.length * 2 := by
  induction os with
  | nil => rfl
  | cons a r ih => rw [obsB, List.flatMap_cons, List.length_append, ← obsB, ih]; simp; omega
theorem DM.len {w : World} {Sm : Nat → Prop} {av hv lv : Value} {x : MSt} (h : DM w Sm av hv lv x) (ho : okM x) : (headM x).length ≤ 150 ∧ x.zs.length ≤ 512 := by
  unfold headM
  rw [List.length_cons, List.length_append]
  cases h with
  | arr hd h hS => exact ⟨by simp [k1M, k2M], by have := h.len; have := hd.le; simp only [MSt.zs]; omega⟩
  | hash hd hk hk8 h hS =>
    have h1 := keysB_len ho
    refine ⟨?_, by have := h.rf.len; have := hd.le; simp only [MSt.zs]; omega⟩
    simp only [k1M, k2M, List.length_nil]
    exact Nat.le_trans (Nat.add_le_add_right (Nat.add_le_add_right (Nat.le_trans (h1 _) (Nat.mul_le_mul_right 9 hd.n1)) _) _) (by omega)
  | loc hd hk h hS =>
    refine ⟨?_, by have := h.rf.len; have := hd.le; simp only [MSt.zs]; omega⟩
    simp only [k1M, k2M, List.length_nil, obsB_len]
    have := h.le
    have := hd.n1
    omega
  | ring hS => exact ⟨by simp [k1M, k2M], by simp [MSt.zs]⟩
theorem bytesS_len {st : List MSt} (h : ∀ m, m < st.length → (headM (st.getD m .ring)).length ≤ 150 ∧ (st.getD m .ring).zs.length ≤ 512) : ∀ m, m ≤ st.length → (bytesS (st.take m)).length ≤ m * 662
  | 0, _ => by simp [bytesS]
  | m + 1, hm => by
    have h1 := bytesS_len h m (by omega)
    have h2 := h m (by omega)
    rw [List.getD_eq_getElem?_getD, List.getElem?_eq_getElem (by omega)] at h2
    simp only [Option.getD_some] at h2
    rw [List.take_succ_eq_append_getElem (by omega), bytesS, List.flatMap_append, List.length_append, ← bytesS]
    simp only [List.flatMap_cons, List.flatMap_nil, List.append_nil, List.length_append]
    omega
/-- Bytes under way, and the box of a map. -/
structure Acc (W wr : World) (v : Value) (acc : List Int) (bx : Nat) (cs : Array Value) : Prop where
  own : wr.ownsRow W.heap.size 5 1 v acc.length (u8s acc)
  b : Below W.heap.size W wr
  box : wr.heap[bx]? = some (.cells cs 65 (0, 0))
  nb : W.heap.size ≤ bx
theorem Acc.lt {W wr : World} {v : Value} {acc : List Int} {bx : Nat} {cs : Array Value} (h : Acc W wr v acc bx cs) : bx < wr.heap.size := (Array.getElem?_eq_some_iff.1 h.box).1
theorem Acc.cell {W wr : World} {v : Value} {acc : List Int} {bx : Nat} {cs : Array Value} (h : Acc W wr v acc bx cs) (j : Nat) : wr.cell? ⟨bx, j, none⟩ = cs[j]? := by
  simp [World.cell?, h.box]
theorem own5_lt {w : World} {base n : Nat} {v : Value} {xs : List Value} (h : w.ownsRow base 5 1 v n xs) : ∀ b, some b = v.ownBlock → base ≤ b ∧ b < w.heap.size := by
  intro b hb
  rcases h.2 with ⟨rfl, -⟩ | ⟨g, cap, cur, rfl, hg, hh, -⟩
  · cases hb
  · injection hb with hb
    subst hb
    exact ⟨hg, (Array.getElem?_eq_some_iff.1 hh).1⟩
theorem own5_below {w w' : World} {base n : Nat} {v : Value} {xs : List Value} (h : w.ownsRow base 5 1 v n xs) (hb : Below w.heap.size w w') : w'.ownsRow base 5 1 v n xs := by
  refine ⟨h.1, ?_⟩
  rcases h.2 with h2 | ⟨g, cap, cur, rfl, hg, hh, r⟩
  · exact .inl h2
  · exact .inr ⟨g, cap, cur, rfl, hg, by rw [hb.block g (Array.getElem?_eq_some_iff.1 hh).1]; exact hh, r⟩
theorem Acc.stay {W wr wy : World} {v : Value} {acc : List Int} {bx : Nat} {cs : Array Value} (h : Acc W wr v acc bx cs) (hb : Below wr.heap.size wr wy) : Acc W wy v acc bx cs :=
  ⟨own5_below h.own hb, h.b.trans (hb.mono h.b.size), (hb.block bx h.lt).trans h.box, h.nb⟩
/-- More bytes. -/
theorem Acc.grow {W wr w1 : World} {v v1 : Value} {acc nw : List Int} {m bx : Nat} {cs : Array Value} (h : Acc W wr v acc bx cs) (hm : nw.length = m) (hown : w1.ownsRow W.heap.size 5 1 v1 (acc.length + m) (u8s acc ++ u8s nw)) (hg : wr.grownBy w1 v.ownBlock) : Acc W w1 v1 (acc ++ nw) bx cs := by
  refine ⟨by rw [List.length_append, hm, u8s_append]; exact hown, h.b.grown hg h.b.size (fun k hk => (own5_lt h.own k hk.symm).1), ?_, h.nb⟩
  rw [hg.block bx h.lt (own_other h.own h.box (by decide))]
  exact h.box
attribute [local go_sem ↓] append_veil
theorem two_append {W wx : World} {v : Value} {acc : List Int} {bx : Nat} {cs : Array Value} (h : Acc W wx v acc bx cs) (hl : acc.length ≤ 4000) (y z : Int) :
    ∃ v3 w3, (appendV #[32, 32] 32 #[v, .slice (some ⟨wx.heap.size, 0, none⟩) 2 2]).run Try.prog (wx.alloc (.cells #[.int .u8 y, .int .u8 z] 5)).drew = .ok v3 w3 ∧ Acc W w3 v3 (acc ++ [y, z]) bx cs := by
  obtain ⟨i0, hi0, hz0, hz1, hz2⟩ := info_parts u8_info
  have h1 := (h.stay (box_below wx (.cells #[.int .u8 y, .int .u8 z] 5))).stay ((Below.refl _ _).drew)
  have hn : (wx.alloc (.cells #[.int .u8 y, .int .u8 z] 5)).heap[wx.heap.size]? = some (.cells #[.int .u8 y, .int .u8 z] 5 (0, 0)) := heap_alloc_new wx _
  obtain ⟨v3, w3, hrun, hown, hgr, -, -⟩ := run_append_own_at (P := Try.prog) (wx.alloc (.cells #[.int .u8 y, .int .u8 z] 5)).drew W.heap.size 32 32 5 i0 _ 1 1 Try.underlying32 hi0 hz0 hz1 hz2 rfl (by omega) v acc.length (u8s acc) h1.own
    ⟨wx.heap.size, 0, none⟩ 2 2 (u8s [y, z]) rfl (fun j u hu => by
      rw [add_lit, Nat.zero_add]
      show (wx.alloc (.cells #[.int .u8 y, .int .u8 z] 5)).cell? ⟨wx.heap.size, j, none⟩ = some u
      unfold World.cell?
      simp only [hn]
      simpa [u8s] using hu) u8s_one (by unfold maxLen; omega) (by omega) h1.b.size
  exact ⟨v3, w3, hrun, h1.grow rfl hown hgr⟩
section
variable {w w' : World} {O : Nat} {a : Option Addr} {c : Nat} {pv : Nat → Value × Value × Value} {Ss : Nat → Nat → Prop} {st : List MSt} {S : Nat → Prop}
theorem one_cell (W : World) (y : Int) {G : Nat} (hG : G = W.heap.size) : ∀ j u, (u8s [y])[j]? = some u → (W.alloc (.cells #[.int .u8 y] 5)).cell? ((⟨G, 0, none⟩ : Addr).add j) = some u := by
  intro j u hu
  subst hG
  rw [add_lit, Nat.zero_add]
  have hn : (W.alloc (.cells #[.int .u8 y] 5)).heap[W.heap.size]? = some (.cells #[.int .u8 y] 5 (0, 0)) := heap_alloc_new W _
  unfold World.cell?
  simp only [hn]
  simpa [u8s] using hu
theorem DM.ptrs {av hv lv : Value} {x : MSt} {Sm : Nat → Prop} (h : DM w Sm av hv lv x) : ∃ q1 q2 q3 : Option Addr, av = .pointer q1 ∧ hv = .pointer q2 ∧ lv = .pointer q3 := by
  cases h <;> exact ⟨_, _, _, rfl, rfl, rfl⟩
def mapCells (x : MSt) (p : P3) : Array Value := #[.int .i64 x.kind, .int .i64 x.key, .int .i64 x.val, .int .i64 x.max, p.1, p.2.1, p.2.2]
set_option maxHeartbeats 4000000 in
theorem ow_bytes (h : Ow w O a c pv Ss st) (hl : st.length ≤ 4) (hok : ∀ m, m < st.length → okM (st.getD m .ring)) : Calls Try.prog 12 #[ptrV O] w (fun e w' => ∃ v, e = .returned v ∧ w'.ownsRow w.heap.size 5 1 v (bytesS st).length (u8s (bytesS st)) ∧ Below w.heap.size w w') := by
  obtain ⟨i0, hi0, hz0, hz1, hz2⟩ := info_parts u8_info
  have HH := Lib.hid h
  have hlen := bytesS_len (st := st) (fun m hm => (h.dm m hm).len (hok m hm))
  have HLEN := Lib.hid hlen
  have HOK := Lib.hid hok
  obtain ⟨n, hn⟩ : ∃ n, st.length = n := ⟨_, rfl⟩
  have HN := Lib.hid hn
  have c0 := h.c0
  have hOl := cell_block_lt c0
  rw [hn] at c0 hl
  clear h hn hlen hok
  unfold ptrV
  go_enter Try.func12, Try.ntmps12
  go_wp2
  go_loopw [3, 4] (fun v i wr => ∃ m : Nat, m ≤ n ∧ i = .int .i64 m ∧ wr.ownsRow w.heap.size 5 1 v (bytesS (st.take m)).length (u8s (bytesS (st.take m))) ∧ Below w.heap.size w wr) (fun _ i _ => n - (intOf i).toNat)
  case atStart => exact ⟨0, by omega, rfl, World.ownsRow_nil _ _ _ _, Below.refl _ _⟩
  case round =>
    obtain ⟨m, hm, rfl, hown, hb⟩ := hrel
    have HO := Lib.hid hown
    have HB := Lib.hid hb
    have d0 := (hb.cell (p := ⟨O, 0, none⟩) hOl).trans c0
    by_cases hlt : m < n
    · have hw := HH.out.stay hb
      obtain ⟨g, rfl, k0, k1, k2, k3, k4, k5, k6⟩ := hw.row m (by rw [HN.out]; exact hlt)
      obtain ⟨x, hx⟩ : ∃ x, st.getD m .ring = x := ⟨_, rfl⟩
      obtain ⟨p, hp⟩ : ∃ p, pv m = p := ⟨_, rfl⟩
      rw [hx] at k0 k1 k2 k3
      rw [hp] at k4 k5 k6
      obtain ⟨p1, p2, p3⟩ := p
      simp only at k4 k5 k6
      have hdm := HH.out.dm m (by rw [HN.out]; exact hlt)
      rw [hx, hp] at hdm
      have hokx := HOK.out m (by rw [HN.out]; exact hlt)
      rw [hx] at hokx
      have HOX := Lib.hid hokx
      clear hokx
      obtain ⟨q1, q2, q3, e1, e2, e3⟩ := hdm.ptrs
      simp only at e1 e2 e3
      subst e1 e2 e3
      have HDM := Lib.hid hdm
      clear hdm
      have HW := Lib.hid hw
      have HX := Lib.hid hx
      have HP := Lib.hid hp
      obtain ⟨acc, hacc⟩ : ∃ acc, bytesS (st.take m) = acc := ⟨_, rfl⟩
      rw [hacc] at hown
      have HACC := Lib.hid hacc
      have hal : acc.length ≤ 3000 := by have := HLEN.out m (by rw [HN.out]; omega); rw [hacc] at this; omega
      have hA0 : Acc w (wr.alloc (.cells #[.int .i64 x.kind, .int .i64 x.key, .int .i64 x.val, .int .i64 x.max, .pointer q1, .pointer q2, .pointer q3] 65)) u3 acc wr.heap.size #[.int .i64 x.kind, .int .i64 x.key, .int .i64 x.val, .int .i64 x.max, .pointer q1, .pointer q2, .pointer q3] :=
        ⟨own5_below hown (box_below wr _), hb.trans ((box_below wr _).mono hb.size), heap_alloc_new wr _, hb.size⟩
      have hA1 := hA0.stay (box_below _ (.cells #[.int .u8 ((x.kind : Int) % 256)] 5))
      have HA := Lib.hid hA1
      have hbs : w.heap.size ≤ ((wr.alloc (.cells #[.int .i64 x.kind, .int .i64 x.key, .int .i64 x.val, .int .i64 x.max, .pointer q1, .pointer q2, .pointer q3] 65)).alloc (.cells #[.int .u8 ((x.kind : Int) % 256)] 5)).heap.size := hA1.b.size
      have HBS := Lib.hid hbs
      clear hw hx hp hown hb hacc hA0 hA1 hbs HO
      go_upto_if 36 with (at_builtin; refine wpList_append_own_at _ rfl _ _ 32 rfl w.heap.size 5 i0 _ 1 1 Try.underlying32 hi0 hz0 hz1 hz2 rfl (by omega) _ acc.length _ rfl HA.out.own ⟨_, 0, none⟩ 1 1 (u8s [(x.kind : Int) % 256]) rfl rfl (one_cell _ _ (by simp)) u8s_one (by unfold maxLen; omega) (by omega) HBS.out ?_; intro v1 w1 hown hgr _ _; have hac := HA.out.grow (nw := [(x.kind : Int) % 256]) rfl hown hgr; have HAC := Lib.hid hac; have y0 : w1.cell? ⟨wr.heap.size, 0, none⟩ = some (.int .i64 x.kind) := hac.cell 0; clear hown hgr hac)
      obtain ⟨bx, hbx⟩ : ∃ bx, wr.heap.size = bx := ⟨_, rfl⟩
      rw [hbx] at HAC y0 ⊢
      clear hbx HA HBS d0 k0 k1 k2 k3 k4 k5 k6 HB
      go_cut [3] (fun v wx => Acc w wx v (acc ++ [(x.kind : Int) % 256] ++ k1M x) bx #[.int .i64 x.kind, .int .i64 x.key, .int .i64 x.val, .int .i64 x.max, .pointer q1, .pointer q2, .pointer q3])
      case first =>
        as_aux_lemma =>
        by_cases hh : x.kind = 2
        · have hdm := HDM.out
          have hox := HOX.out
          cases hdm with
          | arr hd h hS => cases hh
          | loc hd hk h hS => have h9 : _ = 2 := hh; simp only [MSt.kind] at h9; omega
          | ring hS => cases hh
          | @hash H K R B cap key s n' gs ks zs hd hk hk8 hf hS =>
            have e2 : (((MSt.hash key s n' ks zs).kind : Int) == 2) = true := rfl
            have H1 := hf.h1
            have hHl := cell_block_lt H1
            have hKl : K < w.heap.size := cell_block_lt (hf.keys 0 hd.n0)
            have HKS := Lib.hid hf.keys
            have hn16 := hd.n1
            obtain ⟨cs, hcs⟩ : ∃ cs : Array Value, #[.int .i64 (MSt.hash key s n' ks zs).kind, .int .i64 (MSt.hash key s n' ks zs).key, .int .i64 (MSt.hash key s n' ks zs).val, .int .i64 (MSt.hash key s n' ks zs).max, .pointer none, .pointer (some ⟨H, 0, none⟩), .pointer none] = cs := ⟨_, rfl⟩
            have hc5 : cs[5]? = some (.pointer (some ⟨H, 0, none⟩)) := by rw [← hcs]; rfl
            rw [hcs] at HAC
            have HCS := Lib.hid hcs
            obtain ⟨ac2, hac2⟩ : ∃ ac2, acc ++ [((MSt.hash key s n' ks zs).kind : Int) % 256] = ac2 := ⟨_, rfl⟩
            have hal2 : ac2.length ≤ 3001 := by rw [← hac2]; simp; omega
            rw [hac2] at HAC
            have HAC2 := Lib.hid hac2
            have HC5 := Lib.hid hc5
            have HSZ := Lib.hid hox
            have hkl2 := keysB_len hox
            have HKL := Lib.hid hkl2
            have HDM2 := HDM
            clear hh hf hk hk8 hS hd hox hkl2 hac2 hcs hc5 HX HDM HDM2 HOX
            go_wp2
            go_loopw [3, 6] (fun v i wx => ∃ k : Nat, k ≤ n' ∧ i = .int .i64 k ∧ Acc w wx v (ac2 ++ keysB ks k) bx cs) (fun _ i _ => n' - (intOf i).toNat)
            case atStart => exact ⟨0, by omega, rfl, by rw [show keysB ks 0 = [] from rfl, List.append_nil]; exact HAC.out⟩
            case round =>
              obtain ⟨k, hk, rfl, hac⟩ := hrel
              clear HAC y0
              have HAC := Lib.hid hac
              have z5 := (hac.cell 5).trans HC5.out
              have z1 := (hac.b.cell (p := ⟨H, 1, none⟩) hHl).trans H1
              by_cases hlt2 : k < n'
              · have z2 := (hac.b.cell (p := ⟨K, k, none⟩) hKl).trans (HKS.out k hlt2)
                obtain ⟨y, hy⟩ : ∃ y, ks.getD k .empty = y := ⟨_, rfl⟩
                have hsz := HSZ.out k
                rw [hy] at z2 hsz
                have hnext : keysB ks (k + 1) = keysB ks k ++ if y = ⟨#[]⟩ then [] else (k : Int) :: strB y := by
                  rw [← hy]; rfl
                have hkv := HKS.out k hlt2
                rw [hy] at hkv
                have HNEXT := Lib.hid (And.intro hnext hkv)
                clear hac hy hnext hkv
                by_cases he : y = ⟨#[]⟩
                · have hd := ba_empty he
                  have HE := Lib.hid he
                  clear he
                  go_wp2
                  go_roundw
                  case rel => exact ⟨k + 1, by omega, by go_num, by rw [HNEXT.out.1, if_pos HE.out, List.append_nil]; exact HAC.out⟩
                  case measure => simp [intOf]; omega
                · have hd := ba_full he
                  have HE := Lib.hid he
                  obtain ⟨ac3, hac3⟩ : ∃ ac3, ac2 ++ keysB ks k = ac3 := ⟨_, rfl⟩
                  have hal3 : ac3.length ≤ 3200 := by rw [← hac3, List.length_append]; have := HKL.out k; omega
                  have HAC3 := Lib.hid hac3
                  rw [hac3] at HAC
                  have hA1 := HAC.out.stay (box_below _ (.cells #[.int .u8 (k : Int)] 5))
                  have HA1 := Lib.hid hA1
                  have HBS := Lib.hid hA1.b.size
                  clear he hac3 hA1
                  go_wp2_with (first
                    | (at_builtin; refine wpList_append_own_at _ rfl _ _ 32 rfl w.heap.size 5 i0 _ 1 1 Try.underlying32 hi0 hz0 hz1 hz2 rfl (by omega) _ ac3.length _ rfl HA1.out.own ⟨_, 0, none⟩ 1 1 (u8s [(k : Int)]) rfl rfl (one_cell _ _ (by simp)) u8s_one (by unfold maxLen; omega) (by omega) HBS.out ?_; intro v2 w2 hown hgr _ _; have hac := HA1.out.grow (nw := [(k : Int)]) rfl hown hgr; have HA2 := Lib.hid hac; have x5 := (hac.cell 5).trans HC5.out; have x1 := (hac.b.cell (p := ⟨H, 1, none⟩) hHl).trans H1; have x2 := (hac.b.cell (p := ⟨K, k, none⟩) hKl).trans (HNEXT.out.2); have HBS2 := Lib.hid hac.b.size; have hal4 : (ac3 ++ [(k : Int)]).length ≤ 3201 := by { simp; omega }; clear hown hgr hac)
                    | (at_builtin; refine Lib.wpList_append_own_string _ rfl _ _ 32 9 rfl w.heap.size 5 i0 Try.underlying32 Try.underlying9 hi0 hz0 hz1 hz2 _ (ac3 ++ [(k : Int)]).length _ rfl HA2.out.own y rfl (by unfold maxLen; omega) (by omega) HBS2.out ?_; intro v3 w3 hown hgr _; rw [← strB_cells] at hown; have HA3 := Lib.hid (HA2.out.grow (nw := strB y) (strB_length y) hown hgr); clear hown hgr))
                  go_roundw
                  case rel => exact ⟨k + 1, by omega, by go_num, by rw [HNEXT.out.1, if_neg HE.out, ← List.append_assoc, HAC3.out]; have := HA3.out; rwa [List.append_assoc] at this⟩
                  case measure => simp [intOf]; omega
              · obtain rfl : k = n' := by omega
                clear hac
                go_wp2
                go_meet
                case rel => rw [HAC2.out, HCS.out]; exact HAC.out
        · have hk2 : ((x.kind : Int) == 2) = false := by simp; omega
          have e : k1M x = [] := by
            cases x with
            | hash => exact absurd rfl hh
            | _ => rfl
          have HE := Lib.hid e
          clear e hh
          go_wp2_with fail
          go_meet
          case rel => rw [HE.out, List.append_nil]; exact HAC.out
      case rest =>
        have HAC2 := Lib.hid hcut
        have y0 := hcut.cell 0
        rw [show (#[.int .i64 x.kind, .int .i64 x.key, .int .i64 x.val, .int .i64 x.max, .pointer q1, .pointer q2, .pointer q3] : Array Value)[0]? = some (.int .i64 x.kind) from rfl] at y0
        clear hcut HAC
        obtain ⟨B34, hB34⟩ : ∃ B34, decide (x.kind = 3 ∨ x.kind = 4) = B34 := ⟨_, rfl⟩
        go_upto_region 14 with fail
        go_cut [80] (fun z wx => z = .bool B34 ∧ wx = wc)
        case first =>
          as_aux_lemma =>
          subst hB34
          by_cases h3 : (x.kind : Int) = 3
          · have e3 : ((x.kind : Int) == 3) = true := by simpa using h3
            have eD : decide (x.kind = 3 ∨ x.kind = 4) = true := by simp; omega
            have HD := Lib.hid eD
            clear h3 eD
            go_wp2_with fail
            go_meet
            case rel => exact ⟨by rw [HD.out], rfl⟩
          · have e3 : ((x.kind : Int) == 3) = false := by simpa using h3
            by_cases h4 : (x.kind : Int) = 4
            · have e4 : ((x.kind : Int) == 4) = true := by simpa using h4
              have eD : decide (x.kind = 3 ∨ x.kind = 4) = true := by simp; omega
              have HD := Lib.hid eD
              clear h3 h4 eD
              go_wp2_with fail
              go_meet
              case rel => exact ⟨by rw [HD.out], rfl⟩
            · have e4 : ((x.kind : Int) == 4) = false := by simpa using h4
              have eD : decide (x.kind = 3 ∨ x.kind = 4) = false := by simp; omega
              have HD := Lib.hid eD
              clear h3 h4 eD
              go_wp2_with fail
              go_meet
              case rel => exact ⟨by rw [HD.out], rfl⟩
        case rest =>
          obtain ⟨rfl, rfl⟩ := hcut
          clear y0
          have HB34 := Lib.hid hB34
          clear hB34
          go_upto_if 80 with fail
          go_cut [3] (fun v wx => Acc w wx v (acc ++ headM x) bx #[.int .i64 x.kind, .int .i64 x.key, .int .i64 x.val, .int .i64 x.max, .pointer q1, .pointer q2, .pointer q3])
          case first =>
            as_aux_lemma =>
            by_cases hh : x.kind = 3 ∨ x.kind = 4
            · have hB := HB34.out
              rw [decide_eq_true hh] at hB
              subst hB
              have hdm := HDM.out
              cases hdm with
              | arr hd h hS => rcases hh with h9 | h9 <;> cases h9
              | hash hd hk hk8 h hS => rcases hh with h9 | h9 <;> cases h9
              | ring hS => rcases hh with h9 | h9 <;> cases h9
              | @loc H R B cap kd s n' kv gs os zs hd hk lf hS =>
                have H0 := lf.h0
                have hHl := cell_block_lt H0
                obtain ⟨ak, ck, rfl, hobs⟩ := lf.ks.shape
                have HOBS := Lib.hid hobs
                have ho16 : os.length ≤ 16 := Nat.le_trans lf.le hd.n1
                obtain ⟨cs, hcs⟩ : ∃ cs : Array Value, #[.int .i64 (MSt.loc kd s n' os zs).kind, .int .i64 (MSt.loc kd s n' os zs).key, .int .i64 (MSt.loc kd s n' os zs).val, .int .i64 (MSt.loc kd s n' os zs).max, .pointer none, .pointer none, .pointer (some ⟨H, 0, none⟩)] = cs := ⟨_, rfl⟩
                have hc6 : cs[6]? = some (.pointer (some ⟨H, 0, none⟩)) := by rw [← hcs]; rfl
                rw [hcs] at HAC2
                have HCS := Lib.hid hcs
                obtain ⟨ac2, hac2⟩ : ∃ ac2, acc ++ [((MSt.loc kd s n' os zs).kind : Int) % 256] ++ k1M (MSt.loc kd s n' os zs) = ac2 := ⟨_, rfl⟩
                have hal2 : ac2.length ≤ 3001 := by rw [← hac2]; simp [k1M]; omega
                rw [hac2] at HAC2
                have HEA := Lib.hid hac2
                have HC6 := Lib.hid hc6
                obtain ⟨no, hno⟩ : ∃ no, os.length = no := ⟨_, rfl⟩
                rw [hno] at H0 ho16
                have HNO := Lib.hid hno
                clear hh lf hk hS hd hac2 hcs hc6 hno HX HDM HOX hobs HB34
                go_wp2
                go_loopw [3, 7] (fun v i wx => ∃ k : Nat, k ≤ no ∧ i = .int .i64 k ∧ Acc w wx v (ac2 ++ obsB (os.take k)) bx cs) (fun _ i _ => no - (intOf i).toNat)
                case atStart => exact ⟨0, by omega, rfl, by rw [List.take_zero, show obsB [] = [] from rfl, List.append_nil]; exact HAC2.out⟩
                case round =>
                  obtain ⟨k, hk, rfl, hac⟩ := hrel
                  clear HAC2
                  have HAC := Lib.hid hac
                  have z6 := (hac.cell 6).trans HC6.out
                  have z0 := (hac.b.cell (p := ⟨H, 0, none⟩) hHl).trans H0
                  by_cases hlt2 : k < no
                  · obtain ⟨gk, rfl, hgk, hob⟩ := HOBS.out (by rw [HNO.out]; omega)
                    obtain ⟨b1, b2⟩ := hob k (by rw [HNO.out]; exact hlt2)
                    have z1 := (hac.b.cell (p := ⟨gk, k * 2, none⟩) hgk).trans b1
                    have z2 := (hac.b.cell (p := ⟨gk, k * 2 + 1, none⟩) hgk).trans b2
                    obtain ⟨o, ho⟩ : ∃ o, os.getD k (0, 0) = o := ⟨_, rfl⟩
                    obtain ⟨ox, oy⟩ := o
                    rw [ho] at z1 z2
                    have hnext : obsB (os.take (k + 1)) = obsB (os.take k) ++ [ox % 256, oy % 256] := by
                      rw [List.take_succ_eq_append_getElem (by rw [HNO.out]; exact hlt2), obsB, List.flatMap_append, ← obsB]
                      rw [List.getD_eq_getElem?_getD, List.getElem?_eq_getElem (by rw [HNO.out]; exact hlt2)] at ho
                      simp only [Option.getD_some] at ho
                      rw [ho]
                      rfl
                    have HNEXT := Lib.hid hnext
                    have hal3 : (ac2 ++ obsB (os.take k)).length ≤ 4000 := by rw [List.length_append, obsB_len, List.length_take]; omega
                    have hb1 := box_below wr (.cells #[.int .u8 (ox % 256), .int .u8 (oy % 256)] 5)
                    obtain ⟨v3, w3, hrun, ha3⟩ := two_append hac hal3 (ox % 256) (oy % 256)
                    have HA3 := Lib.hid ha3
                    simp only at z1 z2
                    clear hac hob b1 b2 ho hnext hb1 ha3
                    go_wp2
                    go_region
                    go_wp2
                    go_roundw
                    case rel => exact ⟨k + 1, by omega, by go_num, by rw [HNEXT.out, ← List.append_assoc]; exact HA3.out⟩
                    case measure => simp [intOf]; omega
                  · obtain rfl : k = no := by omega
                    clear hac
                    go_wp2
                    go_meet
                    case rel =>
                      have h9 := HAC.out
                      rw [List.take_of_length_le (by rw [HNO.out]; exact Nat.le_refl _)] at h9
                      rw [HCS.out]
                      rw [← HEA.out] at h9
                      simpa [headM, k1M, k2M] using h9
            · have hB := HB34.out
              rw [decide_eq_false hh] at hB
              subst hB
              have e : k2M x = [] := by
                have hdm := HDM.out
                cases hdm with
                | loc hd hk h hS => exact absurd hk hh
                | _ => rfl
              have HE := Lib.hid e
              clear e hh
              go_wp2_with fail
              go_meet
              case rel =>
                have h9 := HAC2.out
                unfold headM
                rw [HE.out, List.append_nil]
                simpa using h9
          case rest =>
            have hac3 := hcut
            clear hcut HAC2
            have hmn : m < st.length := by rw [HN.out]; exact hlt
            have hwc := HH.out.stay (w' := wc) ⟨hac3.b.os, hac3.b.tape, hac3.b.output, hac3.b.size, hac3.b.block⟩
            have HSL := Lib.hid (ow_slots_in hwc hmn)
            rw [HX.out, HP.out] at HSL
            have hltS : ∀ b, Ss m b → b < w.heap.size := fun b hb => HH.out.lt b (.inr (.inr ⟨m, hmn, hb⟩))
            have HLTS := Lib.hid hltS
            have hnext : bytesS (st.take (m + 1)) = acc ++ headM x ++ x.zs := by
              have hx := HX.out
              rw [List.getD_eq_getElem?_getD, List.getElem?_eq_getElem hmn] at hx
              simp only [Option.getD_some] at hx
              rw [List.take_succ_eq_append_getElem hmn, bytesS, List.flatMap_append, ← bytesS, HACC.out, hx]
              simp
            have HNEXT := Lib.hid hnext
            have hlen2 := (HH.out.dm m hmn).len (HOK.out m hmn)
            rw [HX.out] at hlen2
            obtain ⟨ac5, hac5⟩ : ∃ ac5, acc ++ headM x = ac5 := ⟨_, rfl⟩
            rw [hac5] at hac3
            have hal5 : ac5.length ≤ 3200 := by rw [← hac5, List.length_append]; omega
            have hz512 := hlen2.2
            have HAC5 := Lib.hid hac5
            have HAC3 := Lib.hid hac3
            unfold ptrV at HSL
            clear hac3 hwc hltS hnext hlen2 hac5
            by_cases hr : x = .ring
            · have HR := Lib.hid hr
              clear hr
              go_wp2_with (go_at_call 33; refine HSL.out.mono ?_; rintro e w4 ⟨v4, rfl, rfl, hs4⟩; obtain rfl := hs4.1 HR.out; clear hs4)
              go_loopw [3, 9] (fun v i wx => i = .int .i64 0 ∧ Acc w wx v ac5 bx #[.int .i64 x.kind, .int .i64 x.key, .int .i64 x.val, .int .i64 x.max, .pointer q1, .pointer q2, .pointer q3]) (fun _ i _ => 0)
              case atStart => exact ⟨rfl, HAC3.out⟩
              case round =>
                obtain ⟨rfl, hac⟩ := hrel
                have HAC := Lib.hid hac
                clear hac
                go_wp2
                go_roundw
                case rel =>
                  refine ⟨m + 1, by omega, by go_num, ?_, HAC.out.b⟩
                  have h9 := HAC.out.own
                  rw [HNEXT.out, HAC5.out, HR.out]
                  simpa [MSt.zs] using h9
                case measure => simp [intOf]; omega
            · have HR := Lib.hid hr
              clear hr
              obtain ⟨s, hs0⟩ : ∃ s, x.val = s := ⟨_, rfl⟩
              obtain ⟨nn, hn0⟩ : ∃ nn, x.max = nn := ⟨_, rfl⟩
              have HSV := Lib.hid hs0
              have HNV := Lib.hid hn0
              clear hs0 hn0
              go_wp2_with (go_at_call 33; refine HSL.out.mono ?_; rintro e w4 ⟨v4, rfl, rfl, hs4⟩; obtain ⟨B, cap, gs, css, rfl, hd4, hv4, hB4, hg4, -⟩ := hs4.2 HR.out; rw [HNV.out]; rw [HSV.out, HNV.out] at hd4 hv4; rw [HNV.out] at hg4; have HD4 := Lib.hid hd4; have HV4 := Lib.hid hv4; have HB4 := Lib.hid (And.intro hB4 hg4); clear hs4 hd4 hv4 hB4 hg4)
              have hn16 := HD4.out.n1
              go_loopw [3, 9] (fun v i wx => ∃ k : Nat, k ≤ nn ∧ i = .int .i64 k ∧ Acc w wx v (ac5 ++ x.zs.take (k * s)) bx #[.int .i64 x.kind, .int .i64 x.key, .int .i64 x.val, .int .i64 x.max, .pointer q1, .pointer q2, .pointer q3]) (fun _ i _ => nn - (intOf i).toNat)
              case atStart => exact ⟨0, by omega, rfl, by rw [Nat.zero_mul, List.take_zero, List.append_nil]; exact HAC3.out⟩
              case round =>
                obtain ⟨k, hk, rfl, hac⟩ := hrel
                have HAC := Lib.hid hac
                have hzl : x.zs.length = s * nn := HV4.out.len
                by_cases hlt2 : k < nn
                · have hBl := HLTS.out B HB4.out.1
                  have hgl := HLTS.out _ (HB4.out.2 k hlt2)
                  have hps := HD4.out.at hlt2
                  have z1 := (hac.b.cell (p := ⟨B, k, none⟩) hBl).trans ((HAC3.out.b.cell (p := ⟨B, k, none⟩) hBl).symm.trans (HV4.out.rows k hlt2))
                  have hrow : RowAt wr (gs k) 0 s (slotL x.zs s k) := fun j hj => by
                    rw [slotL_get hj, Nat.zero_add]
                    exact (hac.b.cell (p := ⟨gs k, j, none⟩) hgl).trans ((HAC3.out.b.cell (p := ⟨gs k, j, none⟩) hgl).symm.trans (HV4.out.row k j hlt2 hj))
                  have hsl : (slotL x.zs s k).length = s := slotL_length hzl hps
                  have hs32 := HD4.out.s1
                  have hsn := slotL_snoc x.zs s k
                  obtain ⟨gk, hgk⟩ : ∃ gk, gs k = gk := ⟨_, rfl⟩
                  rw [hgk] at z1 hrow
                  obtain ⟨ac6, hac6⟩ : ∃ ac6, ac5 ++ x.zs.take (k * s) = ac6 := ⟨_, rfl⟩
                  have hal6 : ac6.length ≤ 3800 := by rw [← hac6, List.length_append, List.length_take]; omega
                  rw [hac6] at HAC
                  have HROW := Lib.hid hrow
                  have HSL2 := Lib.hid hsl
                  have HAC6 := Lib.hid hac6
                  have HSN := Lib.hid hsn
                  have HBS := Lib.hid HAC.out.b.size
                  clear hac hrow hsl hac6 hsn hgk hgl hBl hps hzl
                  go_wp2_with (at_builtin; refine wpList_append_own_at _ rfl _ _ 32 rfl w.heap.size 5 i0 _ 1 1 Try.underlying32 hi0 hz0 hz1 hz2 rfl (by omega) _ ac6.length _ rfl HAC.out.own ⟨gk, 0, none⟩ s (css k) (u8s (slotL x.zs s k)) rfl (by rw [u8s_length, HSL2.out]; omega) (fun j u hu => by rw [add_lit]; exact u8s_cells HSL2.out HROW.out j u hu) u8s_one (by unfold maxLen; omega) (by omega) HBS.out ?_; intro v5 w5 hown hgr _ _; have HA5 := Lib.hid (HAC.out.grow (nw := slotL x.zs s k) HSL2.out hown hgr); clear hown hgr)
                  go_roundw
                  case rel =>
                    refine ⟨k + 1, by omega, by go_num, ?_⟩
                    have h9 := HA5.out
                    rw [← HAC6.out, List.append_assoc] at h9
                    have e9 : x.zs.take (k * s) ++ slotL x.zs s k = x.zs.take ((k + 1) * s) := by
                      rw [Nat.add_mul, Nat.one_mul, slotL, List.take_add]
                    rw [e9] at h9
                    exact h9
                  case measure => simp [intOf]; omega
                · obtain rfl : k = nn := by omega
                  clear hac
                  go_wp2
                  go_roundw
                  case rel =>
                    refine ⟨m + 1, by omega, by go_num, ?_, HAC.out.b⟩
                    have h9 := HAC.out.own
                    have e9 : k * s = s * k := Nat.mul_comm _ _
                    rw [e9, List.take_of_length_le (by rw [hzl]; exact Nat.le_refl _)] at h9
                    rw [HNEXT.out, HAC5.out]
                    exact h9
                  case measure => simp [intOf]; omega
    · obtain rfl : m = n := by omega
      rw [List.take_of_length_le (by rw [HN.out]; exact Nat.le_refl _)] at hown
      have HO := Lib.hid hown
      clear hown hb
      go_wp2
      go_ret
      exact ⟨_, rfl, HO.out, HB.out⟩
end
end Go.Proofs.Ytenjdgoammaiiaa
