/-
  Proved here: what Two of the document's answers returns, of kind 3. Conditions: none.
-/
import Derived.Test.YtogadmlnmcojpaaTwoRel
namespace Go.Proofs.Ytogadmlnmcojpaa
open Go.RowKit
attribute [local go_sem] make64

set_option maxRecDepth 100000 in
set_option maxHeartbeats 16000000 in
theorem two_ref3 (va ma vb mb : B64) (w : World) : Calls Try.prog 43 #[.int .i64 3, tnV va ma, tnV vb mb] w (Gives (tnV (twoV 3 va ma vb mb) (twoM 3 va ma vb mb)) w) := by
  rw [← two_val va ma vb mb 3 (by decide), ← two_mask va ma vb mb 3 (by decide)]
  obtain ⟨Z, hZ⟩ : ∃ Z, (fun i => (totAt 3 va ma vb mb i).z) = Z := ⟨_, rfl⟩
  obtain ⟨O, hO⟩ : ∃ O, (fun i => (totAt 3 va ma vb mb i).o) = O := ⟨_, rfl⟩
  rw [hZ, hO]
  have HZ := Lib.hid hZ
  have HO := Lib.hid hO
  clear hZ hO
  unfold Gives tnV
  go_enter Try.func43, Try.ntmps43
  go_wp2
  go_cut [7, 8] (fun a b W => ∃ g q : Nat, a = .slice (some ⟨g, 0, none⟩) 64 64 ∧ b = .slice (some ⟨q, 0, none⟩) 64 64 ∧ Rows3 w va ma vb mb g q (fun _ => false) (fun _ => false) W)
  case first =>
    go_region
    all_goals
      go_wp2
      go_meet
      first | exact ⟨_, _, rfl, rfl, rows3_new w va ma vb mb false⟩ | exact ⟨_, _, rfl, rfl, rows3_new w va ma vb mb true⟩
  case rest =>
    obtain ⟨g, q, rfl, rfl, hR0⟩ := hcut
    have HR := Lib.hid (rows3_congr hR0 (fun i _ => rowF_zero Z i) (fun i _ => rowF_zero O i))
    clear hR0
    go_wp2
    have hD := duo_new wc true false
    obtain ⟨W0, hW0⟩ : ∃ W, wc.alloc (Obj.cells #[Value.bool true, Value.bool false] 84) = W := ⟨_, rfl⟩
    have HT := Lib.hid (show TwoRel w 3 va ma vb mb g q wc.heap.size (.int .i64 0) W0 from by
      rw [← hW0]
      have hlt := (blk_facts HR.out.2.2.2.1.2.2.1).2.2.2.2
      have h1 := row_lt HR.out.2.2.2.2.1
      have h2 := row_lt HR.out.2.2.2.2.2
      rw [TwoRel, HZ.out, HO.out]
      exact ⟨0, by omega, rfl, hlt, Nat.ne_of_gt h1, Nat.ne_of_gt h2, rows3_keep HR.out (below_box _ _), hD⟩)
    obtain ⟨C, hC⟩ : ∃ C, wc.heap.size = C := ⟨_, rfl⟩
    rw [hC] at HT ⊢
    rw [hW0]
    clear hD hW0 hC
    go_loopw [10] (fun a W => TwoRel w 3 va ma vb mb g q C a W) (fun a _ => 64 - (intOf a).toNat)
    case atStart => exact HT.out
    case round =>
    obtain ⟨k, hk, rfl, hCl, nCg, nCq, hR, hD⟩ := hrel
    rw [HZ.out, HO.out] at hR
    have HR' := Lib.hid hR
    have HD := Lib.hid hD
    clear hR hD HR HT
    by_cases hlt : k < 64
    · have HS0 := Lib.hid (st_new HR'.out HD.out nCg nCq)
      obtain ⟨⟨c0, c1, c2, c3⟩, -⟩ := st_facts HS0.out
      go_wp2_with (first
        | (go_at_call_of 46 (Value.agg #[Value.int .u64 (u va), Value.int .u64 (u ma)]); refine (bit_ref va ma k (by omega) _).mono ?_; rintro e w1 ⟨rfl, hb⟩; have HS1 := Lib.hid (st_keep HS0.out hb); have HS1' := Lib.hid (st_x HS1.out (bz va ma k) (bo va ma k)); clear c0 c1 c2 c3; obtain ⟨⟨c0, c1, c2, c3⟩, ⟨x0, x1, x2, x3⟩, -, m1, m2, m3, m4⟩ := st_facts HS1.out; clear hb)
        | (go_at_call_of 46 (Value.agg #[Value.int .u64 (u vb), Value.int .u64 (u mb)]); refine (bit_ref vb mb k (by omega) _).mono ?_; rintro e w2 ⟨rfl, hb⟩; have HS2 := Lib.hid (st_keep HS1'.out hb); have HS2' := Lib.hid (st_y HS2.out (bz vb mb k) (bo vb mb k)); obtain ⟨-, -, ⟨y0, y1, y2, y3⟩, -⟩ := st_facts HS2.out; clear hb))
      have hin := st_inner (kind := 3) HS2'.out
      have hsz : ((w2.setCell ⟨wr.heap.size + 1, 0, none⟩ (Value.bool (bz vb mb k))).setCell ⟨wr.heap.size + 1, 1, none⟩ (Value.bool (bo vb mb k))).heap.size = w2.heap.size := by simp
      rw [hsz] at hin
      obtain ⟨W3, hW3⟩ : ∃ W, ((w2.setCell ⟨wr.heap.size + 1, 0, none⟩ (Value.bool (bz vb mb k))).setCell ⟨wr.heap.size + 1, 1, none⟩ (Value.bool (bo vb mb k))).alloc (Obj.cells #[Value.bool false, Value.bool false] 84) = W := ⟨_, rfl⟩
      rw [hW3] at hin ⊢
      clear hsz hW3 y0 y1 y2 y3 x0 x1 x2 x3 m1 m2 m3 m4 c0 c1 c2 c3 HS0 HS1 HS1' HS2 HS2' HR' HD
      obtain ⟨N, hN⟩ : ∃ N, w2.heap.size = N := ⟨_, rfl⟩
      obtain ⟨X, hX⟩ : ∃ X, wr.heap.size = X := ⟨_, rfl⟩
      rw [hX] at hin ⊢
      rw [hN] at hin ⊢
      clear hX hN
      obtain ⟨Y, hY⟩ : ∃ Y, X + 1 = Y := ⟨_, rfl⟩
      rw [hY] at hin ⊢
      clear hY
      have HE0 := Lib.hid (show ∀ W, InnerAt w 3 va ma vb mb g q X Y C N k Z O (bz va ma k, bo va ma k) (bz vb mb k, bo vb mb k) (crs 3 va ma vb mb k) 8 W → Duo W N ((totAt 3 va ma vb mb k).n0, (totAt 3 va ma vb mb k).n1) ∧ Duo W C (crs 3 va ma vb mb k) ∧ ¬ C = N ∧ ¬ N = C ∧ TwoRel w 3 va ma vb mb g q C (.int .i64 ((k : Int) + 1)) ((W.setCell ⟨C, 0, none⟩ (.bool (totAt 3 va ma vb mb k).n0)).setCell ⟨C, 1, none⟩ (.bool (totAt 3 va ma vb mb k).n1)) from
        fun W h => ⟨h.2.2.2.2.1, h.2.2.2.1, Ne.symm h.2.2.2.2.2.1.2.2.1, h.2.2.2.2.2.1.2.2.1, by rw [← HZ.out, ← HO.out] at h; exact inner_end hlt h hCl⟩)
      have HC := Lib.hid (choices (w0 := w) (kind := 3) (va := va) (ma := ma) (vb := vb) (mb := mb) (g := g) (q := q) (X := X) (Y := Y) (C := C) (N := N) (Z := Z) (O := O) (x := (bz va ma k, bo va ma k)) (y := (bz vb mb k, bo vb mb k)) (c := crs 3 va ma vb mb k) hlt)
      obtain ⟨IA, hIA⟩ : ∃ IA, InnerAt w 3 va ma vb mb g q X Y C N k Z O (bz va ma k, bo va ma k) (bz vb mb k, bo vb mb k) (crs 3 va ma vb mb k) = IA := ⟨_, rfl⟩
      rw [hIA] at hin HC HE0
      clear hIA
      obtain ⟨t0, ht0⟩ : ∃ b, (totAt 3 va ma vb mb k).n0 = b := ⟨_, rfl⟩
      obtain ⟨t1, ht1⟩ : ∃ b, (totAt 3 va ma vb mb k).n1 = b := ⟨_, rfl⟩
      rw [ht0, ht1] at HE0
      clear ht0 ht1
      obtain ⟨e0, he0⟩ : ∃ b, (crs 3 va ma vb mb k).1 = b := ⟨_, rfl⟩
      obtain ⟨e1, he1⟩ : ∃ b, (crs 3 va ma vb mb k).2 = b := ⟨_, rfl⟩
      rw [he0, he1] at HC
      clear he0 he1
      dsimp only at HC
      obtain ⟨a0, ha0⟩ : ∃ b, bz va ma k = b := ⟨_, rfl⟩
      obtain ⟨a1, ha1⟩ : ∃ b, bo va ma k = b := ⟨_, rfl⟩
      obtain ⟨b0, hb0⟩ : ∃ b, bz vb mb k = b := ⟨_, rfl⟩
      obtain ⟨b1, hb1⟩ : ∃ b, bo vb mb k = b := ⟨_, rfl⟩
      rw [ha0, ha1, hb0, hb1] at HC ⊢
      clear ha0 ha1 hb0 hb1
      have HI := Lib.hid hin
      clear hin
      go_loopw [14] (fun a W => L3 IA 0 4 a W) (fun a _ => 2 - (intOf a).toNat)
      case atStart => exact Or.inl ⟨rfl, HI.out⟩
      case round =>
      obtain ⟨rfl, hI⟩ | ⟨rfl, hI⟩ | ⟨rfl, hI⟩ := hrel
      · have HI10 := Lib.hid hI
        clear hI
        go_wp2
        go_loopw [15] (fun a W => L3 IA 0 2 a W) (fun a _ => 2 - (intOf a).toNat)
        case atStart => exact Or.inl ⟨rfl, HI10.out⟩
        case round =>
        obtain ⟨rfl, hI⟩ | ⟨rfl, hI⟩ | ⟨rfl, hI⟩ := hrel
        · have HI100 := Lib.hid hI
          clear hI
          go_wp2
          go_loopw [16] (fun a W => L3 IA 0 1 a W) (fun a _ => 2 - (intOf a).toNat)
          case atStart => exact Or.inl ⟨rfl, HI100.out⟩
          case round =>
          obtain ⟨rfl, hI⟩ | ⟨rfl, hI⟩ | ⟨rfl, hI⟩ := hrel
          · have HJ := Lib.hid hI
            obtain ⟨⟨cx0, cx1, cy0, cy1, cc0, cc1⟩, ⟨n0, n1, z, o, k1, k2, k3, k4, k5, k6, k7, k8⟩, m1, m2, m3, m4⟩ := HC.out.facts _ _ hI
            clear hI
            rcases Bool.eq_false_or_eq_true a0 with hx | hx
            · rw [hx] at cx0
              have HX := Lib.hid hx
              clear hx
              rcases Bool.eq_false_or_eq_true b0 with hy | hy
              · rw [hy] at cy0
                have HY := Lib.hid hy
                clear hy
                rcases Bool.eq_false_or_eq_true e0 with he | he
                · rw [he] at cc0
                  have HE := Lib.hid he
                  clear he
                  go_wp2
                  go_roundw
                  case rel => exact Or.inr (Or.inl ⟨rfl, HC.out.yes 0 _ false false (act_4 HX.out HY.out HE.out) rfl HJ.out⟩)
                  case measure => simp [intOf]
                · rw [he] at cc0
                  have HE := Lib.hid he
                  clear he
                  go_wp2
                  go_roundw
                  case rel => exact Or.inr (Or.inl ⟨rfl, HC.out.no 0 _ (act_3 HE.out) HJ.out⟩)
                  case measure => simp [intOf]
              · rw [hy] at cy0
                have HY := Lib.hid hy
                clear hy
                go_wp2
                go_roundw
                case rel => exact Or.inr (Or.inl ⟨rfl, HC.out.no 0 _ (act_2 HY.out) HJ.out⟩)
                case measure => simp [intOf]
            · rw [hx] at cx0
              have HX := Lib.hid hx
              clear hx
              go_wp2
              go_roundw
              case rel => exact Or.inr (Or.inl ⟨rfl, HC.out.no 0 _ (act_1 HX.out) HJ.out⟩)
              case measure => simp [intOf]
          · have HJ := Lib.hid hI
            obtain ⟨⟨cx0, cx1, cy0, cy1, cc0, cc1⟩, ⟨n0, n1, z, o, k1, k2, k3, k4, k5, k6, k7, k8⟩, m1, m2, m3, m4⟩ := HC.out.facts _ _ hI
            clear hI
            rcases Bool.eq_false_or_eq_true a0 with hx | hx
            · rw [hx] at cx0
              have HX := Lib.hid hx
              clear hx
              rcases Bool.eq_false_or_eq_true b0 with hy | hy
              · rw [hy] at cy0
                have HY := Lib.hid hy
                clear hy
                rcases Bool.eq_false_or_eq_true e1 with he | he
                · rw [he] at cc1
                  have HE := Lib.hid he
                  clear he
                  go_wp2
                  go_roundw
                  case rel => exact Or.inr (Or.inr ⟨rfl, HC.out.yes 1 _ false false (act_4 HX.out HY.out HE.out) rfl HJ.out⟩)
                  case measure => simp [intOf]
                · rw [he] at cc1
                  have HE := Lib.hid he
                  clear he
                  go_wp2
                  go_roundw
                  case rel => exact Or.inr (Or.inr ⟨rfl, HC.out.no 1 _ (act_3 HE.out) HJ.out⟩)
                  case measure => simp [intOf]
              · rw [hy] at cy0
                have HY := Lib.hid hy
                clear hy
                go_wp2
                go_roundw
                case rel => exact Or.inr (Or.inr ⟨rfl, HC.out.no 1 _ (act_2 HY.out) HJ.out⟩)
                case measure => simp [intOf]
            · rw [hx] at cx0
              have HX := Lib.hid hx
              clear hx
              go_wp2
              go_roundw
              case rel => exact Or.inr (Or.inr ⟨rfl, HC.out.no 1 _ (act_1 HX.out) HJ.out⟩)
              case measure => simp [intOf]
          · have HI200 := Lib.hid hI
            clear hI
            go_wp2
            go_roundw
            case rel => exact Or.inr (Or.inl ⟨rfl, HI200.out⟩)
            case measure => simp [intOf]
        · have HI101 := Lib.hid hI
          clear hI
          go_wp2
          go_loopw [16] (fun a W => L3 IA 2 1 a W) (fun a _ => 2 - (intOf a).toNat)
          case atStart => exact Or.inl ⟨rfl, HI101.out⟩
          case round =>
          obtain ⟨rfl, hI⟩ | ⟨rfl, hI⟩ | ⟨rfl, hI⟩ := hrel
          · have HJ := Lib.hid hI
            obtain ⟨⟨cx0, cx1, cy0, cy1, cc0, cc1⟩, ⟨n0, n1, z, o, k1, k2, k3, k4, k5, k6, k7, k8⟩, m1, m2, m3, m4⟩ := HC.out.facts _ _ hI
            clear hI
            rcases Bool.eq_false_or_eq_true a0 with hx | hx
            · rw [hx] at cx0
              have HX := Lib.hid hx
              clear hx
              rcases Bool.eq_false_or_eq_true b1 with hy | hy
              · rw [hy] at cy1
                have HY := Lib.hid hy
                clear hy
                rcases Bool.eq_false_or_eq_true e0 with he | he
                · rw [he] at cc0
                  have HE := Lib.hid he
                  clear he
                  go_wp2
                  go_roundw
                  case rel => exact Or.inr (Or.inl ⟨rfl, HC.out.yes 2 _ false true (act_4 HX.out HY.out HE.out) rfl HJ.out⟩)
                  case measure => simp [intOf]
                · rw [he] at cc0
                  have HE := Lib.hid he
                  clear he
                  go_wp2
                  go_roundw
                  case rel => exact Or.inr (Or.inl ⟨rfl, HC.out.no 2 _ (act_3 HE.out) HJ.out⟩)
                  case measure => simp [intOf]
              · rw [hy] at cy1
                have HY := Lib.hid hy
                clear hy
                go_wp2
                go_roundw
                case rel => exact Or.inr (Or.inl ⟨rfl, HC.out.no 2 _ (act_2 HY.out) HJ.out⟩)
                case measure => simp [intOf]
            · rw [hx] at cx0
              have HX := Lib.hid hx
              clear hx
              go_wp2
              go_roundw
              case rel => exact Or.inr (Or.inl ⟨rfl, HC.out.no 2 _ (act_1 HX.out) HJ.out⟩)
              case measure => simp [intOf]
          · have HJ := Lib.hid hI
            obtain ⟨⟨cx0, cx1, cy0, cy1, cc0, cc1⟩, ⟨n0, n1, z, o, k1, k2, k3, k4, k5, k6, k7, k8⟩, m1, m2, m3, m4⟩ := HC.out.facts _ _ hI
            clear hI
            rcases Bool.eq_false_or_eq_true a0 with hx | hx
            · rw [hx] at cx0
              have HX := Lib.hid hx
              clear hx
              rcases Bool.eq_false_or_eq_true b1 with hy | hy
              · rw [hy] at cy1
                have HY := Lib.hid hy
                clear hy
                rcases Bool.eq_false_or_eq_true e1 with he | he
                · rw [he] at cc1
                  have HE := Lib.hid he
                  clear he
                  go_wp2
                  go_roundw
                  case rel => exact Or.inr (Or.inr ⟨rfl, HC.out.yes 3 _ false true (act_4 HX.out HY.out HE.out) rfl HJ.out⟩)
                  case measure => simp [intOf]
                · rw [he] at cc1
                  have HE := Lib.hid he
                  clear he
                  go_wp2
                  go_roundw
                  case rel => exact Or.inr (Or.inr ⟨rfl, HC.out.no 3 _ (act_3 HE.out) HJ.out⟩)
                  case measure => simp [intOf]
              · rw [hy] at cy1
                have HY := Lib.hid hy
                clear hy
                go_wp2
                go_roundw
                case rel => exact Or.inr (Or.inr ⟨rfl, HC.out.no 3 _ (act_2 HY.out) HJ.out⟩)
                case measure => simp [intOf]
            · rw [hx] at cx0
              have HX := Lib.hid hx
              clear hx
              go_wp2
              go_roundw
              case rel => exact Or.inr (Or.inr ⟨rfl, HC.out.no 3 _ (act_1 HX.out) HJ.out⟩)
              case measure => simp [intOf]
          · have HI201 := Lib.hid hI
            clear hI
            go_wp2
            go_roundw
            case rel => exact Or.inr (Or.inr ⟨rfl, HI201.out⟩)
            case measure => simp [intOf]
        · have HI20 := Lib.hid hI
          clear hI
          go_wp2
          go_roundw
          case rel => exact Or.inr (Or.inl ⟨rfl, HI20.out⟩)
          case measure => simp [intOf]
      · have HI11 := Lib.hid hI
        clear hI
        go_wp2
        go_loopw [15] (fun a W => L3 IA 4 2 a W) (fun a _ => 2 - (intOf a).toNat)
        case atStart => exact Or.inl ⟨rfl, HI11.out⟩
        case round =>
        obtain ⟨rfl, hI⟩ | ⟨rfl, hI⟩ | ⟨rfl, hI⟩ := hrel
        · have HI110 := Lib.hid hI
          clear hI
          go_wp2
          go_loopw [16] (fun a W => L3 IA 4 1 a W) (fun a _ => 2 - (intOf a).toNat)
          case atStart => exact Or.inl ⟨rfl, HI110.out⟩
          case round =>
          obtain ⟨rfl, hI⟩ | ⟨rfl, hI⟩ | ⟨rfl, hI⟩ := hrel
          · have HJ := Lib.hid hI
            obtain ⟨⟨cx0, cx1, cy0, cy1, cc0, cc1⟩, ⟨n0, n1, z, o, k1, k2, k3, k4, k5, k6, k7, k8⟩, m1, m2, m3, m4⟩ := HC.out.facts _ _ hI
            clear hI
            rcases Bool.eq_false_or_eq_true a1 with hx | hx
            · rw [hx] at cx1
              have HX := Lib.hid hx
              clear hx
              rcases Bool.eq_false_or_eq_true b0 with hy | hy
              · rw [hy] at cy0
                have HY := Lib.hid hy
                clear hy
                rcases Bool.eq_false_or_eq_true e0 with he | he
                · rw [he] at cc0
                  have HE := Lib.hid he
                  clear he
                  go_wp2
                  go_roundw
                  case rel => exact Or.inr (Or.inl ⟨rfl, HC.out.yes 4 _ false true (act_4 HX.out HY.out HE.out) rfl HJ.out⟩)
                  case measure => simp [intOf]
                · rw [he] at cc0
                  have HE := Lib.hid he
                  clear he
                  go_wp2
                  go_roundw
                  case rel => exact Or.inr (Or.inl ⟨rfl, HC.out.no 4 _ (act_3 HE.out) HJ.out⟩)
                  case measure => simp [intOf]
              · rw [hy] at cy0
                have HY := Lib.hid hy
                clear hy
                go_wp2
                go_roundw
                case rel => exact Or.inr (Or.inl ⟨rfl, HC.out.no 4 _ (act_2 HY.out) HJ.out⟩)
                case measure => simp [intOf]
            · rw [hx] at cx1
              have HX := Lib.hid hx
              clear hx
              go_wp2
              go_roundw
              case rel => exact Or.inr (Or.inl ⟨rfl, HC.out.no 4 _ (act_1 HX.out) HJ.out⟩)
              case measure => simp [intOf]
          · have HJ := Lib.hid hI
            obtain ⟨⟨cx0, cx1, cy0, cy1, cc0, cc1⟩, ⟨n0, n1, z, o, k1, k2, k3, k4, k5, k6, k7, k8⟩, m1, m2, m3, m4⟩ := HC.out.facts _ _ hI
            clear hI
            rcases Bool.eq_false_or_eq_true a1 with hx | hx
            · rw [hx] at cx1
              have HX := Lib.hid hx
              clear hx
              rcases Bool.eq_false_or_eq_true b0 with hy | hy
              · rw [hy] at cy0
                have HY := Lib.hid hy
                clear hy
                rcases Bool.eq_false_or_eq_true e1 with he | he
                · rw [he] at cc1
                  have HE := Lib.hid he
                  clear he
                  go_wp2
                  go_roundw
                  case rel => exact Or.inr (Or.inr ⟨rfl, HC.out.yes 5 _ false true (act_4 HX.out HY.out HE.out) rfl HJ.out⟩)
                  case measure => simp [intOf]
                · rw [he] at cc1
                  have HE := Lib.hid he
                  clear he
                  go_wp2
                  go_roundw
                  case rel => exact Or.inr (Or.inr ⟨rfl, HC.out.no 5 _ (act_3 HE.out) HJ.out⟩)
                  case measure => simp [intOf]
              · rw [hy] at cy0
                have HY := Lib.hid hy
                clear hy
                go_wp2
                go_roundw
                case rel => exact Or.inr (Or.inr ⟨rfl, HC.out.no 5 _ (act_2 HY.out) HJ.out⟩)
                case measure => simp [intOf]
            · rw [hx] at cx1
              have HX := Lib.hid hx
              clear hx
              go_wp2
              go_roundw
              case rel => exact Or.inr (Or.inr ⟨rfl, HC.out.no 5 _ (act_1 HX.out) HJ.out⟩)
              case measure => simp [intOf]
          · have HI210 := Lib.hid hI
            clear hI
            go_wp2
            go_roundw
            case rel => exact Or.inr (Or.inl ⟨rfl, HI210.out⟩)
            case measure => simp [intOf]
        · have HI111 := Lib.hid hI
          clear hI
          go_wp2
          go_loopw [16] (fun a W => L3 IA 6 1 a W) (fun a _ => 2 - (intOf a).toNat)
          case atStart => exact Or.inl ⟨rfl, HI111.out⟩
          case round =>
          obtain ⟨rfl, hI⟩ | ⟨rfl, hI⟩ | ⟨rfl, hI⟩ := hrel
          · have HJ := Lib.hid hI
            obtain ⟨⟨cx0, cx1, cy0, cy1, cc0, cc1⟩, ⟨n0, n1, z, o, k1, k2, k3, k4, k5, k6, k7, k8⟩, m1, m2, m3, m4⟩ := HC.out.facts _ _ hI
            clear hI
            rcases Bool.eq_false_or_eq_true a1 with hx | hx
            · rw [hx] at cx1
              have HX := Lib.hid hx
              clear hx
              rcases Bool.eq_false_or_eq_true b1 with hy | hy
              · rw [hy] at cy1
                have HY := Lib.hid hy
                clear hy
                rcases Bool.eq_false_or_eq_true e0 with he | he
                · rw [he] at cc0
                  have HE := Lib.hid he
                  clear he
                  go_wp2
                  go_roundw
                  case rel => exact Or.inr (Or.inl ⟨rfl, HC.out.yes 6 _ false true (act_4 HX.out HY.out HE.out) rfl HJ.out⟩)
                  case measure => simp [intOf]
                · rw [he] at cc0
                  have HE := Lib.hid he
                  clear he
                  go_wp2
                  go_roundw
                  case rel => exact Or.inr (Or.inl ⟨rfl, HC.out.no 6 _ (act_3 HE.out) HJ.out⟩)
                  case measure => simp [intOf]
              · rw [hy] at cy1
                have HY := Lib.hid hy
                clear hy
                go_wp2
                go_roundw
                case rel => exact Or.inr (Or.inl ⟨rfl, HC.out.no 6 _ (act_2 HY.out) HJ.out⟩)
                case measure => simp [intOf]
            · rw [hx] at cx1
              have HX := Lib.hid hx
              clear hx
              go_wp2
              go_roundw
              case rel => exact Or.inr (Or.inl ⟨rfl, HC.out.no 6 _ (act_1 HX.out) HJ.out⟩)
              case measure => simp [intOf]
          · have HJ := Lib.hid hI
            obtain ⟨⟨cx0, cx1, cy0, cy1, cc0, cc1⟩, ⟨n0, n1, z, o, k1, k2, k3, k4, k5, k6, k7, k8⟩, m1, m2, m3, m4⟩ := HC.out.facts _ _ hI
            clear hI
            rcases Bool.eq_false_or_eq_true a1 with hx | hx
            · rw [hx] at cx1
              have HX := Lib.hid hx
              clear hx
              rcases Bool.eq_false_or_eq_true b1 with hy | hy
              · rw [hy] at cy1
                have HY := Lib.hid hy
                clear hy
                rcases Bool.eq_false_or_eq_true e1 with he | he
                · rw [he] at cc1
                  have HE := Lib.hid he
                  clear he
                  go_wp2
                  go_roundw
                  case rel => exact Or.inr (Or.inr ⟨rfl, HC.out.yes 7 _ false true (act_4 HX.out HY.out HE.out) rfl HJ.out⟩)
                  case measure => simp [intOf]
                · rw [he] at cc1
                  have HE := Lib.hid he
                  clear he
                  go_wp2
                  go_roundw
                  case rel => exact Or.inr (Or.inr ⟨rfl, HC.out.no 7 _ (act_3 HE.out) HJ.out⟩)
                  case measure => simp [intOf]
              · rw [hy] at cy1
                have HY := Lib.hid hy
                clear hy
                go_wp2
                go_roundw
                case rel => exact Or.inr (Or.inr ⟨rfl, HC.out.no 7 _ (act_2 HY.out) HJ.out⟩)
                case measure => simp [intOf]
            · rw [hx] at cx1
              have HX := Lib.hid hx
              clear hx
              go_wp2
              go_roundw
              case rel => exact Or.inr (Or.inr ⟨rfl, HC.out.no 7 _ (act_1 HX.out) HJ.out⟩)
              case measure => simp [intOf]
          · have HI211 := Lib.hid hI
            clear hI
            go_wp2
            go_roundw
            case rel => exact Or.inr (Or.inr ⟨rfl, HI211.out⟩)
            case measure => simp [intOf]
        · have HI21 := Lib.hid hI
          clear hI
          go_wp2
          go_roundw
          case rel => exact Or.inr (Or.inr ⟨rfl, HI21.out⟩)
          case measure => simp [intOf]
      · have HI8 := Lib.hid hI
        clear hI
        obtain ⟨hN8, hC8, q1, q2, hT8⟩ := HE0.out _ HI8.out
        have HT8 := Lib.hid hT8
        obtain ⟨v0, v1, -⟩ := duo_facts hN8
        obtain ⟨v2, v3, v4, v5, -⟩ := duo_facts hC8
        clear hN8 hC8 hT8
        go_wp2
        go_roundw
        case rel => exact HT8.out
        case measure => simp [intOf]; omega
    · obtain rfl : k = 64 := by omega
      have HR2 := Lib.hid (rows3_congr HR'.out (fun i hi => rowF_all _ i hi) (fun i hi => rowF_all _ i hi))
      go_wp2_with (go_at_call 68; refine (of_ref g q _ _ _ (row_bools HR2.out.2.2.2.2.1) (row_bools HR2.out.2.2.2.2.2) (row_lt HR2.out.2.2.2.2.1) (row_lt HR2.out.2.2.2.2.2)).mono ?_; rintro e w1 ⟨rfl, hb⟩; unfold tnV; have HT1 := Lib.hid (three_keep HR2.out.2.2.2.1 hb); obtain ⟨d0, d1, e0, e1, _⟩ := blk_facts HT1.out.2.2.1; clear hb)
      refine bodyPost_ret (v := .agg #[.int .u64 (u (valB Z O)), .int .u64 (u (maskB Z O))]) (by simp [results, Try.results43, go_sem, d0, d1]) rfl ⟨rfl, ?_⟩
      exact three_put HT1.out
end Go.Proofs.Ytogadmlnmcojpaa
