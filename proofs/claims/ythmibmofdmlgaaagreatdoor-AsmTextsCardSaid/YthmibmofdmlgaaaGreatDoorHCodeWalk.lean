import Derived.Test.YthmibmofdmlgaaaGreatDoorHCodeRel
import Derived.Maps.AppendAt
/-
  Proved here: codeOf of package asm gives the instructions of a text's lines. Conditions: the lines are a code's, at most 100; the library's variables.
-/
namespace Go.Proofs.YthmibmofdmlgaaaGreatDoor
open Go.RowKit
set_option linter.unusedVariables false

/-- Gives a row of instructions. -/
def RowV (l : List Ins) (w : World) (e : Ending) (w' : World) : Prop := ∃ v, e = .returned v ∧ w'.ownsRow w.heap.size 35 5 v l.length (cellsOf l) ∧ Below w.heap.size w w'
theorem code_start {w w1 : World} {b n : Nat} {C : List Chunk} (hb : Below w.heap.size w w1) (hS : StartsIn w1 b n) : Coding w (w1.alloc (.cells (linesA C) 9)) b n w1.heap.size C 0 (.slice none 0 0) :=
  ⟨by simp only [List.take_zero]; exact World.ownsRow_nil _ _ _ _, hb.alloc hb.size _, hS.on (below_box _ _), (MapKept.heap_alloc w1 _).1⟩
set_option maxRecDepth 100000 in
set_option maxHeartbeats 4000000 in
theorem code_walk (w : World) (c : Chunk) (C0 : List Chunk) (hC : ∀ d ∈ c :: C0, GoodC d) (h100 : (c :: C0).length ≤ 100) (s : List UInt8) (hs : Lib.trimSuffix s [10] = Lib.join ((c :: C0).map Prod.fst) [10]) (hsl : s.length ≤ 100000) (he : Env w) :
    Calls Tryz.prog 16 #[.string (S s)] w (RowV (chunkI (c :: C0)) w) := by
  have hlen : (Lib.join ((c :: C0).map Prod.fst) [10]).length ≤ 100000 := by
    have := Lib.trimSuffix_le s [10]
    rw [hs] at this
    omega
  have hsp := fun W (hb : Below w.heap.size w W) => split_lines c C0 hC W (he.on hb) hlen
  obtain ⟨C, hCC⟩ : ∃ C, c :: C0 = C := ⟨_, rfl⟩
  rw [hCC] at hsp hs hC h100 hlen ⊢
  obtain ⟨N, hN⟩ : ∃ N, C.length = N := ⟨_, rfl⟩
  rw [hN] at hsp h100
  obtain ⟨J, hJ⟩ : ∃ J, Lib.join (C.map Prod.fst) [10] = J := ⟨_, rfl⟩
  rw [hJ] at hsp hs
  have htr := fun W => trim_call s J hs hsl W
  have HN := Lib.hid hN
  have HE := Lib.hid he
  have HC := Lib.hid hC
  have z0 : ({ data := #[10] } : ByteArray) = S [10] := rfl
  obtain ⟨T, hT⟩ : ∃ T, S s = T := ⟨_, rfl⟩
  rw [hT] at htr ⊢
  obtain ⟨U, hU⟩ : ∃ U, S J = U := ⟨_, rfl⟩
  rw [hU] at htr hsp
  clear hlen hs hJ hT hU hN hC hCC he
  obtain ⟨i0, hi0, hz0, hz1, hz2⟩ := info_parts ins_info
  have HI0 := Lib.hid hi0
  have HI1 := Lib.hid hz0
  have HI2 := Lib.hid hz1
  have HI3 := Lib.hid hz2
  clear hi0 hz0 hz1 hz2
  go_enter Tryz.func16, Tryz.ntmps16
  go_wp2_with (first
    | (go_at_call 32; refine (by_texts _).mono ?_; rintro e w1 ⟨b, n, rfl, hS, hb⟩; have HS1 := Lib.hid hS; have HB1 := Lib.hid hb; clear hS hb)
    | (go_at_call 34; refine (htr _).mono ?_; rintro e w2 ⟨rfl, rfl⟩)
    | (go_at_call 33; refine (hsp _ HB1.out).mono ?_; rintro e w3 ⟨rfl, rfl⟩))
  have HR := Lib.hid (code_start (C := C) HB1.out HS1.out)
  obtain ⟨g, hg⟩ : ∃ g, w1.heap.size = g := ⟨_, rfl⟩
  obtain ⟨W0, hW0⟩ : ∃ W, w1.alloc (.cells (linesA C) 9) = W := ⟨_, rfl⟩
  rw [hg, hW0] at HR
  rw [hg, hW0]
  clear htr hsp HS1 HB1 hg hW0 z0
  go_loopw [4, 12] (fun v i wr => ∃ k : Nat, k ≤ N ∧ i = .int .i64 k ∧ Coding w wr b n g C k v) (fun _ i _ => N - (intOf i).toNat)
  case atStart => exact ⟨0, by omega, rfl, HR.out⟩
  case round =>
    obtain ⟨k, hk, rfl, hR⟩ := hrel
    have HR' := Lib.hid hR
    clear hR HR
    by_cases hlt : k < N
    · have hkC : k < C.length := by rw [HN.out]; exact hlt
      have hgood := good_getD HC.out hkC
      have hline := HR'.out.line hkC
      have hcnt := take_count C HC.out k (by omega)
      have h2 := good_two hgood
      obtain ⟨d, hd⟩ : ∃ d, C.getD k ([], []) = d := ⟨_, rfl⟩
      rw [hd] at hgood hline h2
      have HD := Lib.hid hd
      have HG := Lib.hid hgood
      have HK := Lib.hid hkC
      obtain ⟨t, ht⟩ : ∃ t, S d.1 = t := ⟨_, rfl⟩
      have hrd := fun W (hb : Below wr.heap.size wr W) => read_chunk hgood W b n (HR'.out.on hb).starts (HE.out.on (HR'.out.on hb).below)
      have hin := fun W => insts_chunk hgood W
      obtain ⟨L, hL⟩ : ∃ L, chunkV d = L := ⟨_, rfl⟩
      rw [ht] at hrd hline
      rw [hL] at hrd hin
      clear hd hgood hkC ht hL
      go_wp2_with (first
        | (go_at_call 35; refine (hrd _ (Below.refl _ _)).mono ?_; rintro e w2 ⟨rfl, hb2⟩; have HR2 := Lib.hid (HR'.out.on hb2); clear hb2 hrd)
        | (go_at_call 36; refine (hin _).mono ?_; rintro e w3 ⟨gg, cap, rfl, hrow, hge, hlt3, hb3⟩; have HR3 := Lib.hid (HR2.out.on hb3); have HN3 := Lib.hid (row_news hrow); clear hrow hge hlt3 hb3 hin)
        | (at_builtin; refine wpList_append_own_at _ rfl (.tmp 16) (.tmp 20) 22 rfl w.heap.size 35 i0 _ 5 12 Tryz.underlying22 HI0.out HI1.out HI2.out HI3.out rfl (by omega) u4 _ _ rfl HR3.out.row ⟨gg, 0, none⟩ d.2.length cap (cellsOf d.2) rfl (cellsOf_length _) HN3.out (cellsOf_one _) (by unfold maxLen; omega) (by omega) HR3.out.below.size ?_; intro v' w4 hown hgr _ _; have HR4 := Lib.hid (HR3.out.app (v' := v') HK.out (by rw [HD.out]; exact hown) hgr); clear hown hgr))
      go_roundw
      case rel => exact ⟨k + 1, by omega, by go_num, HR4.out⟩
      case measure => simp [intOf]; omega
    · obtain rfl : k = N := by omega
      have hall : C.take k = C := by rw [← HN.out]; exact List.take_length
      have HRow := Lib.hid (show wr.ownsRow w.heap.size 35 5 u4 (chunkI C).length (cellsOf (chunkI C)) by have := HR'.out.row; rw [hall] at this; exact this)
      clear hall
      go_wp2
      go_ret
      exact ⟨_, rfl, HRow.out, HR'.out.below⟩
end Go.Proofs.YthmibmofdmlgaaaGreatDoor
