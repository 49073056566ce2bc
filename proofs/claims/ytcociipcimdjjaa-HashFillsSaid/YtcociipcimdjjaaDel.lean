/-
  Proved here: slices.IndexFunc and slices.DeleteFunc over a row of slices of bytes, where those that are nil are struck. Conditions: as each says.
-/
import Derived.Test.YtcociipcimdjjaaHf
import Derived.Laws.IdiomCopy
import Derived.LoopTactic
import Derived.Lib.SliceRun
namespace Go.Proofs.Ytcociipcimdjjaa
open Go.RowKit

abbrev SV := Option Addr × Nat × Nat
def sv (t : SV) : Value := .slice t.1 t.2.1 t.2.2
def svD : SV := (none, 0, 0)
def live (t : SV) : Bool := t.1.isSome
/-- A row of slices. -/
structure RowS (w : World) (B n : Nat) (ts : List SV) : Prop where
  len : ts.length = n
  at_ : ∀ j, j < n → w.cell? ⟨B, j, none⟩ = some (sv (ts.getD j svD))
  free : ∀ j, w.frozen? ⟨B, j, none⟩ = false
theorem sv_getD_set {ts : List SV} {i k : Nat} {x : SV} (hi : i < ts.length) : (ts.set i x).getD k svD = if i = k then x else ts.getD k svD := by
  rw [List.getD_eq_getElem?_getD, List.getD_eq_getElem?_getD, List.getElem?_set]
  by_cases e : i = k
  · subst e; simp [hi]
  · simp [e]
theorem RowS.set {w : World} {B n i : Nat} {ts : List SV} {t : SV} (h : RowS w B n ts) (hi : i < n) : RowS (w.setCell ⟨B, i, none⟩ (sv t)) B n (ts.set i t) := by
  refine ⟨by rw [List.length_set]; exact h.len, fun j hj => ?_, fun j => by rw [World.frozen?_setCell]; exact h.free j⟩
  rw [cell_set (h.at_ j hj), sv_getD_set (by rw [h.len]; exact hi)]
  by_cases e : i = j <;> simp [e]
theorem keys_nil (a : Option Addr) (n c : Nat) (w : World) : Calls Try.prog 43 #[.slice a n c] w (Ret (.bool a.isNone) w) := by
  have q := fun (w : World) (a : Option Addr) (n c n' c' : Nat) => Lib.run_eql_slice_nil (P := Try.prog) w 31 5 a n c n' c' Try.underlying31
  unfold Ret
  go_enter Try.func43, Try.ntmps43
  go_wp2
  go_ret
  exact ⟨rfl, rfl⟩
/-- The first one that is nil. -/
def idxN (ts : List SV) : Int := match ts.findIdx? (fun t => !live t) with
  | some i => (i : Int)
  | none => -1
theorem index_nil (B n c : Nat) (ts : List SV) (w : World) (h : RowS w B n ts) (hn : n ≤ 1000) :
    Calls Try.prog 44 #[.slice (some ⟨B, 0, none⟩) n c, .func (.func 43) #[] #[]] w (Ret (.int .i64 (idxN ts)) w) := by
  have HR := Lib.hid h
  clear h
  unfold Ret
  go_enter Try.func44, Try.ntmps44
  go_wp2
  go_loopw [8] (fun v wr => ∃ k : Nat, k ≤ n ∧ v = .int .i64 k ∧ wr = w ∧ ∀ j, j < k → live (ts.getD j svD) = true) (fun v _ => n - (intOf v).toNat)
  case atStart => exact ⟨0, by omega, rfl, rfl, fun j hj => by omega⟩
  case round =>
    obtain ⟨k, hk, rfl, rfl, hl⟩ := hrel
    have HL := Lib.hid hl
    clear hl
    by_cases hlt : k < n
    · have hc := HR.out.at_ k hlt
      obtain ⟨t, ht⟩ : ∃ t, ts.getD k svD = t := ⟨_, rfl⟩
      rw [ht] at hc
      obtain ⟨a, ln, cp⟩ := t
      unfold sv at hc
      simp only at hc
      have HT := Lib.hid ht
      clear ht
      cases a with
      | none =>
        go_wp2_with (go_at_call 43; refine (keys_nil _ _ _ _).mono ?_; rintro e w' ⟨rfl, rfl⟩)
        go_ret
        refine ⟨?_, rfl⟩
        have e : ts.findIdx? (fun t => !live t) = some k := by
          rw [List.findIdx?_eq_some_iff_getElem]
          have hkl : k < ts.length := by rw [HR.out.len]; exact hlt
          refine ⟨hkl, ?_, fun j hj => ?_⟩
          · have h1 := HT.out
            rw [List.getD_eq_getElem?_getD, List.getElem?_eq_getElem hkl] at h1
            simp only [Option.getD_some] at h1
            rw [h1]; rfl
          · have h1 := HL.out j hj
            rw [List.getD_eq_getElem?_getD, List.getElem?_eq_getElem (by omega)] at h1
            simp only [Option.getD_some] at h1
            simp [h1]
        unfold idxN
        rw [e]
        rfl
      | some a =>
        go_wp2_with (go_at_call 43; refine (keys_nil _ _ _ _).mono ?_; rintro e w' ⟨rfl, rfl⟩)
        go_roundw
        case rel =>
          refine ⟨k + 1, by omega, by go_num, by first | rfl | trivial, fun j hj => ?_⟩
          by_cases e : j = k
          · rw [e, HT.out]; rfl
          · exact HL.out j (by omega)
        case measure => simp [intOf]; omega
    · obtain rfl : k = n := by omega
      go_wp2
      go_ret
      refine ⟨?_, rfl⟩
      have e : ts.findIdx? (fun t => !live t) = none := by
        rw [List.findIdx?_eq_none_iff]
        intro x hx
        obtain ⟨j, hj, rfl⟩ := List.mem_iff_getElem.1 hx
        have h1 := HL.out j (by rw [← HR.out.len]; exact hj)
        rw [List.getD_eq_getElem?_getD, List.getElem?_eq_getElem hj] at h1
        simp only [Option.getD_some] at h1
        simp [h1]
      unfold idxN
      rw [e]
      rfl
theorem take_live {ts : List SV} {j : Nat} (hj : j < ts.length) : (ts.take (j + 1)).filter live = (ts.take j).filter live ++ if live (ts.getD j svD) then [ts.getD j svD] else [] := by
  rw [List.take_succ_eq_append_getElem hj, List.filter_append, List.getD_eq_getElem?_getD, List.getElem?_eq_getElem hj]
  congr 1
  simp only [Option.getD_some]
  cases h : live ts[j] <;> simp [h]
theorem live_le (ts : List SV) (j : Nat) : ((ts.take j).filter live).length ≤ j := Nat.le_trans (List.length_filter_le _ _) (by simp; omega)
/-- How far the striking has come: i are kept of the first j. -/
structure Kept (ts cur : List SV) (n i j : Nat) : Prop where
  cnt : i = ((ts.take j).filter live).length
  lt : i < j
  le : j ≤ n
  len : cur.length = n
  lo : ∀ k, k < i → cur.getD k svD = ((ts.take j).filter live).getD k svD
  hi : ∀ k, j ≤ k → cur.getD k svD = ts.getD k svD
theorem Kept.skip {ts cur : List SV} {n i j : Nat} (h : Kept ts cur n i j) (hn : ts.length = n) (hj : j < n) (hd : live (ts.getD j svD) = false) : Kept ts cur n i (j + 1) := by
  have e := take_live (ts := ts) (j := j) (by omega)
  rw [hd] at e
  simp only [Bool.false_eq_true, if_false, List.append_nil] at e
  exact ⟨by rw [e]; exact h.cnt, by have := h.lt; omega, hj, h.len, fun k hk => by rw [e]; exact h.lo k hk, fun k hk => h.hi k (by omega)⟩
theorem Kept.keep {ts cur : List SV} {n i j : Nat} (h : Kept ts cur n i j) (hn : ts.length = n) (hj : j < n) (hd : live (ts.getD j svD) = true) : Kept ts (cur.set i (ts.getD j svD)) n (i + 1) (j + 1) := by
  have e := take_live (ts := ts) (j := j) (by omega)
  rw [hd] at e
  simp only [if_true] at e
  have hlt := h.lt
  have hi := h.cnt
  have hil : i < cur.length := by rw [h.len]; omega
  refine ⟨by rw [e, List.length_append]; simp; exact hi, by omega, hj, by rw [List.length_set]; exact h.len, fun k hk => ?_, fun k hk => ?_⟩
  · rw [e, sv_getD_set hil]
    by_cases e2 : i = k
    · rw [if_pos e2, ← e2]
      generalize ts.getD j svD = x
      rw [List.getD_eq_getElem?_getD, List.getElem?_append_right (by omega), ← hi]
      simp
    · rw [if_neg e2, h.lo k (by omega), List.getD_eq_getElem?_getD, List.getD_eq_getElem?_getD, List.getElem?_append_left (by omega)]
  · rw [sv_getD_set hil, if_neg (by omega)]
    exact h.hi k (by omega)
/-- What DeleteFunc gives. -/
def Struck (B n : Nat) (ts : List SV) (W : World) (e : Ending) (w : World) : Prop :=
  e = .returned (.slice (some ⟨B, 0, none⟩) (ts.filter live).length n) ∧ Turned (fun b => b = B) W w ∧ ∀ j, j < (ts.filter live).length → w.cell? ⟨B, j, none⟩ = some (sv ((ts.filter live).getD j svD))
theorem zeroSl (w : World) : (zeroValue 31).run Try.prog w = .ok (.slice none 0 0) w := by kernel_rfl
set_option maxHeartbeats 1000000 in
theorem delete_nils (B n : Nat) (ts : List SV) (w : World) (h : RowS w B n ts) (hn : n ≤ 1000) :
    Calls Try.prog 42 #[.slice (some ⟨B, 0, none⟩) n n, .func (.func 43) #[] #[]] w (Struck B n ts w) := by
  have HR := Lib.hid h
  have hlen := h.len
  clear h
  cases hf : ts.findIdx? (fun t => !live t) with
  | none =>
    have hi : idxN ts = -1 := by unfold idxN; rw [hf]
    have e : ts.filter live = ts := by
      rw [List.filter_eq_self]
      intro t ht
      have := List.findIdx?_eq_none_iff.1 hf t ht
      simpa using this
    have HI := Lib.hid hi
    have HE := Lib.hid e
    clear hi e hf
    go_enter Try.func42, Try.ntmps42
    go_wp2_with (go_at_call 44; refine (index_nil _ _ _ ts _ HR.out hn).mono ?_; rintro e w' ⟨he, rfl⟩; rw [HI.out] at he; subst he)
    go_ret
    refine ⟨by rw [HE.out, hlen]; rfl, Turned.refl _ _, fun j hj => ?_⟩
    rw [HE.out] at hj ⊢
    exact HR.out.at_ j (by omega)
  | some i0 =>
    have hi : idxN ts = (i0 : Int) := by unfold idxN; rw [hf]
    obtain ⟨hi0, hd0, hb0⟩ := List.findIdx?_eq_some_iff_getElem.1 hf
    have hk0 : Kept ts ts n i0 (i0 + 1) := by
      have e0 : (ts.take i0).filter live = ts.take i0 := by
        rw [List.filter_eq_self]
        intro t ht
        obtain ⟨k, hk, rfl⟩ := List.mem_iff_getElem.1 ht
        rw [List.length_take] at hk
        rw [List.getElem_take]
        have := hb0 k (by omega)
        simpa using this
      have e1 : (ts.take (i0 + 1)).filter live = ts.take i0 := by
        rw [take_live hi0, e0]
        rw [List.getD_eq_getElem?_getD, List.getElem?_eq_getElem hi0]
        have : live ts[i0] = false := by simpa using hd0
        simp [this]
      refine ⟨by rw [e1, List.length_take]; omega, by omega, by omega, hlen, fun k hk => ?_, fun k hk => rfl⟩
      rw [e1, List.getD_eq_getElem?_getD, List.getD_eq_getElem?_getD, List.getElem?_take, if_pos hk]
    have hneg : ((i0 : Int) == -1) = false := beq_eq_false_iff_ne.2 (by omega)
    have HI := Lib.hid hi
    have HK0 := Lib.hid hk0
    have hi0n : i0 < n := by omega
    clear hi hf hd0 hb0 hk0 hi0
    go_enter Try.func42, Try.ntmps42
    go_wp2_with (go_at_call 44; refine (index_nil _ _ _ ts _ HR.out hn).mono ?_; rintro e w' ⟨he, rfl⟩; rw [HI.out] at he; subst he)
    go_loopw [5, 6, 7] (fun a b _ wr => ∃ (i j : Nat) (cur : List SV), a = .int .i64 i ∧ b = .int .i64 j ∧ Kept ts cur n i j ∧ RowS wr B n cur ∧ Turned (fun b => b = B) w wr) (fun _ b _ _ => n - (intOf b).toNat)
    case atStart => exact ⟨i0, i0 + 1, ts, rfl, by go_num, HK0.out, HR.out, Turned.refl _ _⟩
    case round =>
      obtain ⟨i, j, cur, rfl, rfl, hk, hr, ht⟩ := hrel
      have hle := hk.le
      have hlt0 := hk.lt
      have HK := Lib.hid hk
      have HRR := Lib.hid hr
      have HT := Lib.hid ht
      clear hk hr ht HK0
      by_cases hlt : j < n
      · have hc := HRR.out.at_ j hlt
        have hci := HRR.out.at_ i (by omega)
        have hfi := HRR.out.free i
        rw [HK.out.hi j (Nat.le_refl _)] at hc
        obtain ⟨t, ht⟩ : ∃ t, ts.getD j svD = t := ⟨_, rfl⟩
        obtain ⟨u, hu⟩ : ∃ u, sv (cur.getD i svD) = u := ⟨_, rfl⟩
        rw [ht] at hc
        rw [hu] at hci
        have HT1 := Lib.hid ht
        clear ht hu
        obtain ⟨a, ln, cp⟩ := t
        have hc2 : wr.cell? ⟨B, j, none⟩ = some (.slice a ln cp) := hc
        clear hc
        cases a with
        | none =>
          go_wp2_with (go_at_call 43; refine (keys_nil _ _ _ _).mono ?_; rintro e w' ⟨rfl, rfl⟩)
          go_roundw
          case rel => exact ⟨i, j + 1, cur, rfl, by go_num, HK.out.skip hlen hlt (by rw [HT1.out]; rfl), HRR.out, HT.out⟩
          case measure => simp [intOf]; omega
        | some a =>
          have hset := HRR.out.set (i := i) (t := (some a, ln, cp)) (by omega)
          have HSET := Lib.hid hset
          clear hset
          go_wp2_with (go_at_call 43; refine (keys_nil _ _ _ _).mono ?_; rintro e w' ⟨rfl, rfl⟩)
          go_roundw
          case rel =>
            refine ⟨i + 1, j + 1, cur.set i (some a, ln, cp), by go_num, by go_num, ?_, HSET.out, HT.out.set (a := ⟨B, i, none⟩) rfl _⟩
            have := HK.out.keep hlen hlt (by rw [HT1.out]; rfl)
            rw [HT1.out] at this
            exact this
          case measure => simp [intOf]; omega
      · obtain rfl : j = n := by omega
        have hcl : ∀ ty, (Builtin.clear_ #[72] ty #[.slice (some ⟨B, i, none⟩) (j - i) (j - i)]).run Try.prog wr = .ok (.tuple #[]) (wr.setCells B i (List.replicate (j - i) (.slice none 0 0))) :=
          fun ty => Lib.run_clear_slice wr 72 31 ty (.slice none 0 0) Try.underlying72 zeroSl rfl rfl B i (j - i) (j - i) (by omega) (fun k hk => by rw [HRR.out.at_ (i + k) (by omega)]; rfl) (fun k hk => HRR.out.free _)
        go_wp2_with (simp only [hcl])
        go_ret
        have e : ts.take j = ts := List.take_of_length_le (by omega)
        have hi := HK.out.cnt
        rw [e] at hi
        refine ⟨by rw [← hi]; rfl, turned_setCells (S := fun b => b = B) B rfl _ _ HT.out, fun k hk => ?_⟩
        rw [World.cell?_setCells_out B _ _ _ _ (fun _ _ => .inl (show k < i by omega)), HRR.out.at_ k (by omega), HK.out.lo k (by omega), e]
end Go.Proofs.Ytcociipcimdjjaa
