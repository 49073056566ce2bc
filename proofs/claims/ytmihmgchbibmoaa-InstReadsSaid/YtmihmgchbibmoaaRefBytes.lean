/-
  Proved here: Bytes of the document's answers returns a new row with the instructions' bytes, or nil. Conditions: at most 200 instructions.
-/
import Derived.Test.YtmihmgchbibmoaaAlive
import Derived.Deep.DeepCutAuto
namespace Go.Proofs.Ytmihmgchbibmoaa
open Go.RowKit

/-- What is answered: no bytes, or a new row of them. -/
def GaveOwn (W : World) (n : Nat) (zs : List Int) (e : Ending) (w : World) : Prop :=
  ∃ A cap, e = .returned (.slice A n cap) ∧ (n = 0 ∨ ∃ g, A = some ⟨g, 0, none⟩ ∧ Fresh W w g n zs) ∧ Below W.heap.size W w

theorem owns_drews {w : World} {base e size n : Nat} {v : Value} {xs : List Value} (h : w.ownsRow base e size v n xs) (k : Nat) : (w.drewN k).ownsRow base e size v n xs := h
theorem own_ge {w : World} {base e size n : Nat} {v : Value} {xs : List Value} (h : w.ownsRow base e size v n xs) : ∀ b, v.ownBlock = some b → base ≤ b := by
  intro b hb
  rcases h.2 with ⟨rfl, _⟩ | ⟨g, cap, cur, rfl, hg, -⟩
  · simp [Value.ownBlock] at hb
  · simp [Value.ownBlock] at hb
    omega
theorem u8s_one (zs : List Int) : ∀ u ∈ u8s zs, u.oneCell' = true := by
  intro u hu
  simp only [u8s, List.mem_map] at hu
  obtain ⟨n, _, rfl⟩ := hu
  rfl
theorem cells8 (x : Ins) {F M : Int} (hF : F = x.off % 65536) (hM : M = x.imm % 4294967296) :
    #[Value.int .u8 x.op, .int .u8 (x.dst % 16 + 16 * (x.src % 16)), .int .u8 (F % 256), .int .u8 (F / 256), .int .u8 (M % 256), .int .u8 (M / 256 % 256), .int .u8 (M / 65536 % 256), .int .u8 (M / 16777216)] = (u8s x.bytes).toArray := by
  simp [u8s, Ins.bytes]
  omega
theorem news8 (w : World) {cs : Array Value} {zs : List Int} (h : cs = (u8s zs).toArray) : ∀ j u, (u8s zs)[j]? = some u → (w.alloc (.cells cs 5)).cell? ((⟨w.heap.size, 0, none⟩ : Addr).add j) = some u := by
  intro j u hu
  have e : (w.alloc (.cells cs 5)).heap[w.heap.size]? = some (.cells cs 5) := heap_alloc_new w _
  rw [add_lit]
  simp only [World.cell?, e]
  rw [Nat.zero_add, h]
  simpa using hu
theorem gave_of_own {W w : World} {v : Value} {n : Nat} {zs : List Int} (_ : n < 1000000) (hz : zs.length = n) (h : w.ownsRow W.heap.size 5 1 v n (u8s zs)) (hb : Below W.heap.size W w) : GaveOwn W n zs (.returned v) w := by
  rcases h.2 with ⟨rfl, h0⟩ | ⟨g, cap, cur, hv, hg, hh, -⟩
  · have : n = 0 := by omega
    subst this
    exact ⟨none, 0, rfl, .inl rfl, hb⟩
  · rcases Nat.eq_zero_or_pos n with h0 | h0
    · subst h0
      exact ⟨_, cap, by rw [hv], .inl rfl, hb⟩
    · obtain ⟨g1, cap1, rfl, hf⟩ := fresh_of_own hz h0 h hb
      exact ⟨_, cap1, rfl, .inr ⟨g1, rfl, hf⟩, hb⟩
set_option maxHeartbeats 2000000 in
theorem bytes_ref (w : World) (A : Option Addr) (len cap : Nat) (l : List Ins) (hl : l.length = len) (h200 : len ≤ 200) (hfit : ∀ x ∈ l, x.Fit) (hr : InsAt w A l) :
    Calls Try.prog 9 #[.slice A len cap] w (GaveOwn w (8 * len) (bytesOf l)) := by
  have HL := Lib.hid hl
  clear hl
  go_enter Try.func9, Try.ntmps9
  go_wp2
  go_loopw [3, 4] (fun v i wr => ∃ k : Nat, k ≤ len ∧ i = .int .i64 k ∧ wr.ownsRow w.heap.size 5 1 v (8 * k) (u8s (bytesOf (l.take k))) ∧ Below w.heap.size w wr) (fun _ i _ => len - (intOf i).toNat)
  case atStart => exact ⟨0, by omega, rfl, World.ownsRow_nil _ _ _ _, Below.refl _ _⟩
  case round =>
    obtain ⟨k, hk, rfl, hown, hbel⟩ := hrel
    by_cases hlt : k < len
    · have hll := HL.out
      obtain ⟨g, off, rfl, hg, hrow⟩ : ∃ g off, A = some ⟨g, off, none⟩ ∧ g < w.heap.size ∧ InsRow w g off l := by
        rcases hr with h | h
        · omega
        · exact h
      have hgr : g < wr.heap.size := Nat.lt_of_lt_of_le hg hbel.size
      obtain ⟨c0, c1, c2, c3, c4⟩ := (hrow.below hbel hg) k (by omega)
      have hxf : (l.getD k .zero).Fit := by
        rw [List.getD_eq_getElem?_getD, List.getElem?_eq_getElem (by omega)]
        exact hfit _ (List.getElem_mem _)
      have htk := take_next l k (by omega)
      obtain ⟨x, hx⟩ : ∃ x, l.getD k .zero = x := ⟨_, rfl⟩
      rw [hx] at c0 c1 c2 c3 c4 hxf htk
      have HT := Lib.hid htk
      have HX := Lib.hid hx
      have HA := Lib.hid hrow
      have HO := Lib.hid hown
      have HB := Lib.hid hbel
      have hx0 := hxf.op
      have hx1 := hxf.dst
      have hx2 := hxf.src
      have hx3 := hxf.off
      have hx4 := hxf.imm
      clear hx htk hll hrow hfit hr hown hbel
      go_wp2_with fail
      go_quiet (fail)
      obtain ⟨w1, hw1⟩ : ∃ w1, (wr.alloc (.cells #[.int .u8 x.op, .int .u8 x.dst, .int .u8 x.src, .int .i16 x.off, .int .i32 x.imm] 36)).drewN nq = w1 := ⟨_, rfl⟩
      have b0 : w1.cell? ⟨wr.heap.size, 0, none⟩ = some (.int .u8 x.op) := by rw [← hw1]; simp [go_sem]
      have b1 : w1.cell? ⟨wr.heap.size, 1, none⟩ = some (.int .u8 x.dst) := by rw [← hw1]; simp [go_sem]
      have b2 : w1.cell? ⟨wr.heap.size, 2, none⟩ = some (.int .u8 x.src) := by rw [← hw1]; simp [go_sem]
      have hown1 : w1.ownsRow w.heap.size 5 1 u3 (8 * k) (u8s (bytesOf (l.take k))) := by rw [← hw1]; exact owns_drews (HO.out.alloc _) _
      have hbel1 : Below w.heap.size w w1 := by rw [← hw1]; exact below_drews (HB.out.alloc HB.out.size _) _
      rw [hw1]
      have HO1 := Lib.hid hown1
      have HB1 := Lib.hid hbel1
      clear hw1 hown1 hbel1
      go_upto_if 25 with fail
      go_cut [6] (fun s6 wx => ∃ (F : Int), s6 = .int .i64 F ∧ 0 ≤ F ∧ F ≤ 65535 ∧ Hid (F = x.off % 65536) ∧ wx = w1)
      case first =>
        go_wp2_with fail
        all_goals
          go_meet
          exact ⟨_, rfl, by omega, by omega, by unfold Hid; omega, rfl⟩
      case rest =>
        obtain ⟨F, rfl, F0, F1, HF, rfl⟩ := hcut
        go_upto_if 29 with fail
        go_cut [7] (fun s7 wx => ∃ (M : Int), s7 = .int .i64 M ∧ 0 ≤ M ∧ M ≤ 4294967295 ∧ Hid (M = x.imm % 4294967296) ∧ wx = wc)
        case first =>
          go_wp2_with fail
          all_goals
            go_meet
            exact ⟨_, rfl, by omega, by omega, by unfold Hid; omega, rfl⟩
        case rest =>
          obtain ⟨M, rfl, M0, M1, HM, rfl⟩ := hcut
          have H8 := Lib.hid (cells8 x HF.out HM.out)
          have HN := Lib.hid (news8 wc H8.out)
          obtain ⟨i0, hi0, hz0, hz1, hz2⟩ := info_parts u8_info
          have HI := Lib.hid hi0
          have HI0 := Lib.hid hz0
          have HI1 := Lib.hid hz1
          have HI2 := Lib.hid hz2
          clear hi0 hz0 hz1 hz2
          go_wp2_with (at_builtin; refine wpList_append_own_at _ rfl (.tmp 32) (.tmp 63) 24 rfl w.heap.size 5 i0 _ 1 1 Try.underlying24 HI.out HI0.out HI1.out HI2.out rfl (by omega) u3 (8 * k) _ rfl (HO1.out.alloc _) ⟨wc.heap.size, 0, none⟩ 8 8 (u8s x.bytes) rfl rfl HN.out (u8s_one _) (by unfold maxLen; omega) (by omega) (by have := HB1.out.size; simp; omega) ?_; intro v2 w2 hown2 hgr2 _ hat2; have HO2 := Lib.hid hown2; have HB2 := Lib.hid ((HB1.out.alloc HB1.out.size _).grown hgr2 (by have := HB1.out.size; simp; omega) (own_ge HO1.out)); clear hown2 hgr2 hat2)
          go_roundw
          case rel =>
            refine ⟨k + 1, by omega, by go_num, ?_, HB2.out⟩
            have := HO2.out
            rw [HT.out, bytesOf_snoc]
            unfold u8s at this ⊢
            rw [List.map_append]
            exact this
          case measure => simp [intOf]; omega
    · obtain rfl : k = len := by omega
      have htk : l.take k = l := List.take_of_length_le (by rw [HL.out]; exact Nat.le_refl _)
      rw [htk] at hown
      have hlb := bytesOf_length l
      rw [HL.out] at hlb
      have hg := gave_of_own (by omega) hlb hown hbel
      have HG := Lib.hid hg
      clear hown hbel hr htk hlb hg
      go_wp2
      go_ret
      exact HG.out
end Go.Proofs.Ytmihmgchbibmoaa
