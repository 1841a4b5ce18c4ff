/-
  The document's own page: Of, of bytes that lie anywhere.
-/
import Derived.Test.YtdnegfjddpdmhaaDoorMD
import Derived.Deep.AppendLies
namespace Go.Proofs.YtdnegfjddpdmhaaDoor
open Go.RowKit Go.Lib

/-- 256 cells from an address on hold bytes of which the first tells how many marks there are -/
structure PAd (w : World) (B : Nat) (ad : Addr) (c : Nat) (p : List Int) (n : Nat) : Prop where
  rd : Rd w B (some ad) 256 (cells p)
  cap : 256 ≤ c
  top : c ≤ maxLen
  len : p.length = 256
  byt : IsBytes p
  head : p[0]? = some (n : Int)
section
variable {w w' : World} {B c n : Nat} {ad : Addr} {p : List Int}
theorem PAd.n_le (h : PAd w B ad c p n) : n ≤ 255 := by
  have := h.byt _ (List.mem_of_getElem? h.head)
  omega
theorem PAd.cell (h : PAd w B ad c p n) {k : Nat} (hk : k < 256) : w.cell? (ad.add k) = some (.int .u8 (p[k]'(by rw [h.len]; exact hk))) := by
  obtain ⟨ad', u, e, _, hu, hc⟩ := h.rd.at_ hk
  obtain rfl := Option.some.inj e
  rw [cells_at (by rw [h.len]; exact hk)] at hu
  rw [hc, ← Option.some.inj hu]
theorem PAd.first (h : PAd w B ad c p n) : w.cell? (ad.add 0) = some (.int .u8 (n : Int)) := by
  have h1 := h.cell (k := 0) (by omega)
  have h2 : p[0]'(by rw [h.len]; omega) = (n : Int) := (List.getElem?_eq_some_iff.1 h.head).2
  rw [h2] at h1
  exact h1
theorem PAd.below (h : PAd w B ad c p n) {C : Nat} (hb : Below C w w') (hC : B ≤ C) : PAd w' B ad c p n := { h with rd := h.rd.below hb hC }
end

set_option maxRecDepth 100000 in
set_option maxHeartbeats 12800000 in
theorem of_ad (w : World) (ad : Addr) (c N : Nat) (l : List Int) (h : PAd w w.heap.size ad c l N) : Calls Tryd.prog 44 #[.slice (some ad) 256 c] w (OfRet l w) := by
  obtain ⟨i0, hi, hz0, hz1, hz2⟩ := info_parts Tryd.dkinfo22
  have hN := h.n_le
  have hc := h.cap
  have hct := h.top
  unfold maxLen at hct
  have H := Lib.hid h
  obtain ⟨w2, hw2⟩ : ∃ w2, w2 = (w.alloc (.cells #[.slice none 0 0] 70)).alloc (.cells #[.slice none 0 0] 70) := ⟨_, rfl⟩
  have hs2 : w2.heap.size = w.heap.size + 2 := by rw [hw2]; simp
  have hb2 : Below w.heap.size w w2 := by rw [hw2]; exact ((Below.refl _ _).alloc (Nat.le_refl _) _).alloc (by simp) _
  have hk1 : Blk w2 w.heap.size 70 #[.slice none 0 0] := by rw [hw2]; exact (Blk.new w _ _).alloc _
  have hk2 : Blk w2 (w.heap.size + 1) 70 #[.slice none 0 0] := by
    have h1 := Blk.new (w.alloc (.cells #[.slice none 0 0] 70)) 70 #[.slice none 0 0]
    rw [hw2]
    have e : (w.alloc (.cells #[.slice none 0 0] 70)).heap.size = w.heap.size + 1 := by simp
    rw [e] at h1
    exact h1
  have HS2 := Lib.hid hs2
  have HST := Lib.hid (show OfSt w w2 l [] 256 0 none 0 w2 from ⟨hk1, hk2, World.ownsRow_nil _ _ _ _, fun y hy => (by cases hy), rfl, by simp [slotsOf, wt_nil], fun s _ => by simp [slotsOf], hb2, Nat.le_refl _⟩)
  have HW2 := Lib.hid hw2
  clear hw2 hs2 hb2 hk1 hk2 h
  go_enter Tryd.func44, Tryd.ntmps44
  go_wp2_with fail
  rw [← HW2.out]
  go_loopw [5, 6] (fun e i wr => OfRel w w2 l N e i wr) (fun _ i _ => N - (intOf i).toNat)
  case atStart => exact ⟨[], 256, 0, none, 0, by omega, rfl, rfl, HST.out⟩
  case round =>
    obtain ⟨ys, e, k, A', c', hk, rfl, rfl, hst⟩ := hrel
    have HO := Lib.hid hst
    have hk0 : (0 : Int) ≤ (k : Int) := Int.natCast_nonneg _
    have he0 : (0 : Int) ≤ (e : Int) := Int.natCast_nonneg _
    have he256 : e ≤ 256 := by have := hst.wt; omega
    have hp := H.out.below hst.low (Nat.le_refl _)
    have hfirst := hp.first
    have hfirst2 : wr.cell? ad = some (.int .u8 (N : Int)) := by have h1 := hp.first; rwa [show ad.add 0 = ad from rfl] at h1
    have hcb2 : wr.cell? ⟨w.heap.size + 1, 0, none⟩ = some (.slice A' ys.length c') := by rw [hst.b2.cell]; rfl
    have hfb2 := hst.b2.frozen 0
    have hcb1 : wr.cell? ⟨w.heap.size, 0, none⟩ = some (.slice none 0 0) := by rw [hst.b1.cell]; rfl
    have hfb1 := hst.b1.frozen 0
    have hyl : ys.length ≤ 255 := by rw [hst.len]; omega
    by_cases hlt : k < N
    · have hlt1 : (k : Int) < (N : Int) := by omega
      have hcell := hp.cell (k := 1 + k) (by omega)
      have hbyte := H.out.byt _ (List.getElem_mem (show 1 + k < l.length by rw [H.out.len]; omega))
      obtain ⟨m, hm⟩ : ∃ m, m = l[1 + k]'(by rw [H.out.len]; omega) := ⟨_, rfl⟩
      rw [← hm] at hcell hbyte
      have HMK := Lib.hid (show ∀ s, IsPg l s → ∃ o, s[k]? = some o ∧ mkS o = m from fun s hs => by
        have hN2 : N = s.length := by
          have e1 := hs.head
          rw [H.out.head] at e1
          have := Option.some.inj e1
          omega
        have hks : k < s.length := by omega
        refine ⟨_, List.getElem?_eq_getElem hks, ?_⟩
        have h1 := hs.mark (List.getElem?_eq_getElem hks)
        rw [List.getElem?_eq_getElem (show 1 + k < l.length by rw [H.out.len]; omega)] at h1
        rw [hm]
        exact (Option.some.inj h1).symm)
      have HP := Lib.hid hp
      clear hm hp hst
      by_cases hm0 : m = 0
      · subst hm0
        go_wp2_with (at_builtin; refine wpList_append_own _ rfl (.tmp 38) (.tmp 39) 38 rfl w2.heap.size 33 i0 (.slice none 0 0) 1 24 Tryd.underlying38 hi hz0 hz1 hz2 rfl (by decide) _ _ _ rfl (HO.out.own.alloc _) ⟨wr.heap.size, 0, none⟩ 1 1 [.slice none 0 0] rfl rfl (cell_one_new _ _ _) ?c2 ?c3 ?c4 ?c5 ?_)
        case c2 => intro u hu; simp at hu; subst hu; rfl
        case c3 => first | (unfold maxLen; omega) | (simp [maxLen]; omega)
        case c4 => first | omega | (simp; omega)
        case c5 => have h := HO.out.sz; first | omega | (simp; omega)
        intro v5 w5 hown5 hgr5 _
        obtain ⟨A5, c5, rfl, _, _⟩ := own_shape hown5
        have hba : Below wr.heap.size wr (wr.alloc (.cells #[.slice none 0 0] 33)) := (Below.refl _ _).alloc (Nat.le_refl _) _
        have hb5 : Below w2.heap.size wr w5 := ((Below.refl _ _).alloc HO.out.sz _).trans (below_own (HO.out.own.alloc _) hgr5 (by have h := HO.out.sz; first | omega | (simp; omega)))
        have hbk1 := HO.out.b1.below hb5 (by have := HS2.out; omega)
        have hbk2 := HO.out.b2.below hb5 (by have := HS2.out; omega)
        have hcl5 : w5.cell? ⟨w.heap.size + 1, 0, none⟩ = some (.slice A' ys.length c') := by rw [hbk2.cell]; rfl
        have hfz5 := hbk2.frozen 0
        have hst8 : Stay8 wr w5 := (Stay8.below hba).trans (Stay8.grown (HO.out.own.alloc _) (by decide) hgr5)
        have HF := Lib.hid (show OfRel w w2 l N (.int .i64 (e : Int)) (.int .i64 ((k : Int) + 1)) (w5.setCell ⟨w.heap.size + 1, 0, none⟩ (.slice A5 (ys.length + 1) c5)) from
          ⟨_, e, k + 1, A5, c5, by omega, by simp, rfl, HO.out.grow (y := frS) HS2.out hown5 hbk1 hbk2 hst8 rfl (hb5.mono (by have := HS2.out; omega)) (by have := HO.out.wt; show _ + 0 + _ = _; omega) (fun s hs => by
            obtain ⟨o, ho, hmo⟩ := HMK.out s hs
            rw [ho, mkS_zero.1 hmo]
            rfl)⟩)
        clear hown5 hgr5 hb5 hbk1 hbk2 hst8 hba
        go_wp2
        go_roundw
        case rel => exact HF.out
        case measure => simp [intOf]; omega
      · obtain ⟨q, rfl⟩ : ∃ q : Nat, m = (q : Int) + 1 := ⟨(m - 1).toNat, by omega⟩
        have hq0 : (0 : Int) ≤ (q : Int) := Int.natCast_nonneg _
        have hq255 : q ≤ 255 := by omega
        have hmq : (q : Int) + 1 - 1 = (q : Int) := by omega
        by_cases h200 : 200 < q
        · have HN := Lib.hid (show ofP l = none from by
            cases ho : ofP l with
            | none => rfl
            | some s =>
              exfalso
              obtain ⟨o, ho1, hmo⟩ := HMK.out s (ofP_some ho)
              have h1 := (ofP_some ho).fit.len o (List.mem_of_getElem? ho1)
              have h2 := mkS_bs o
              omega)
          have HBF := Lib.hid (HO.out.low.setCell (p := ⟨w.heap.size, 0, none⟩) (Nat.le_refl _) (.slice none 0 0))
          go_wp2
          refine bodyPost_ret (by rw [results_cell_tmp rfl]; go_simp; exact rfl) rfl ?_
          exact of_no HN.out HBF.out
        by_cases hqe : e < q
        · have HN := Lib.hid (show ofP l = none from by
            cases ho : ofP l with
            | none => rfl
            | some s =>
              exfalso
              obtain ⟨o, ho1, hmo⟩ := HMK.out s (ofP_some ho)
              have h1 := wt_take_le' ho1
              have h2 := mkS_bs o
              have h3 := (ofP_some ho).slots
              have h4 := HO.out.wt
              rw [HO.out.pg s (ofP_some ho)] at h4
              omega)
          have HBF := Lib.hid (HO.out.low.setCell (p := ⟨w.heap.size, 0, none⟩) (Nat.le_refl _) (.slice none 0 0))
          have hqei : (e : Int) < (q : Int) := by omega
          go_wp2
          refine bodyPost_ret (by rw [results_cell_tmp rfl]; go_simp; exact rfl) rfl ?_
          exact of_no HN.out HBF.out
        have hqei : ¬ ((e : Int) < (q : Int)) := by omega
        have hqeb : decide ((e : Int) < (q : Int)) = false := by simp; omega
        obtain ⟨e', he'⟩ : ∃ e', e' = e - q := ⟨_, rfl⟩
        have hei : (e : Int) - (q : Int) = (e' : Int) := by omega
        have hei2 : (e' : Int) + (q : Int) = (e : Int) := by omega
        have he'0 : (0 : Int) ≤ (e' : Int) := Int.natCast_nonneg _
        have he'e : e' ≤ e := by omega
        have heq : e - e' = q := by omega
        have HE := Lib.hid he'
        have hmk : ∀ w : World, (Instr.makeSlice 33 (.int .i64 (q : Int)) (.int .i64 (q : Int))).run Tryd.prog w = .ok (.slice (some ⟨w.heap.size, 0, none⟩) q q) (w.alloc (.cells (cells (List.replicate q 0)).toArray 5)) := fun w => make_zeros w q _ rfl (by omega)
        obtain ⟨b, hb⟩ : ∃ b, b = (l.drop e').take q := ⟨_, rfl⟩
        have hbl : b.length = q := by rw [hb, List.length_take, List.length_drop, H.out.len]; omega
        have hbb : IsBytes b := by rw [hb]; exact (H.out.byt.drop e').take q
        have hsrc : ∀ j v, (cells b)[j]? = some v → (wr.alloc (.cells (cells (List.replicate q 0)).toArray 5)).cell? ((ad.add e').add j) = some v := fun j v hv => by
          have hj : j < q := by have := (List.getElem?_eq_some_iff.1 hv).1; rw [cells_len, hbl] at this; exact this
          have h1 := HP.out.cell (k := e' + j) (by omega)
          have h2 := (Below.refl wr.heap.size wr).alloc (Nat.le_refl _) (.cells (cells (List.replicate q 0)).toArray 5)
          rw [addr_add, h2.cell (p := ad.add (e' + j)) (World.block_lt_of_cell? _ _ h1), h1]
          rw [hb] at hv
          simp only [cells, List.getElem?_map, List.getElem?_take, if_pos hj, List.getElem?_drop, List.getElem?_eq_getElem (show e' + j < l.length by rw [H.out.len]; omega), Option.map_some] at hv
          exact hv
        have HSRC := Lib.hid hsrc
        have HBI := Lib.hid (And.intro hbl hbb)
        have HBE := Lib.hid hb
        have hg3 := Blk.new wr 5 (cells (List.replicate q 0)).toArray
        have HG3 := Lib.hid hg3
        have HB3 := Lib.hid ((Below.refl wr.heap.size wr).alloc (Nat.le_refl _) (.cells (cells (List.replicate q 0)).toArray 5))
        clear hsrc hbl hbb hb hg3 he' hbyte
        by_cases hce : c = e'
        · obtain rfl : e' = 256 := by omega
          obtain rfl : c = 256 := by omega
          have hq00 := Lib.hid (show q = 0 by omega)
          have hE256 : (e : Int) ≤ 256 := by omega
          have hE2 : (256 : Int) ≤ (e : Int) := by omega
          have hei3 : (e : Int) - (q : Int) = 256 := by omega
          have hei4 : (256 : Int) + (q : Int) = (e : Int) := by omega
          go_wp2_with (refine wpList_copy_splice rfl (.tmp 55) (.tmp 61) 33 33 rfl 5 Tryd.underlying33 Tryd.dksize5 _ _ _ _ _ _ rfl rfl wr.heap.size 0 (cells (List.replicate q 0)) 5 HG3.out (cells b) ?k1 ?k2 ?k3 (cells_one _) wr.heap.size wr HB3.out (Nat.le_refl _) ?_)
          case k1 => rw [cells_len, HBI.out.1]
          case k2 => intro h0; exact absurd h0 (by rw [cells_len, HBI.out.1]; have := hq00.out; omega)
          case k3 => rw [cells_len, cells_len, List.length_replicate, HBI.out.1]; omega
          intro w4 hg4 hb4
          have hg4' : Blk w4 wr.heap.size 5 (cells b).toArray := by
            have h := hg4.out
            rw [splice_whole _ _ (by rw [cells_len, cells_len, List.length_replicate, HBI.out.1])] at h
            exact h
          have hown4 := own_below HO.out.own hb4 (Nat.le_refl _)
          have hbk14 := HO.out.b1.below hb4 HO.out.b1.lt
          have hbk24 := HO.out.b2.below hb4 HO.out.b2.lt
          have hcl4 : w4.cell? ⟨w.heap.size + 1, 0, none⟩ = some (.slice A' ys.length c') := by rw [hbk24.cell]; rfl
          have hfz4 := hbk24.frozen 0
          have hsz4 : w2.heap.size ≤ w4.heap.size := Nat.le_trans HO.out.sz hb4.size
          have H4 := Lib.hid (And.intro hg4' (And.intro hown4 (And.intro hbk14 (And.intro hbk24 (And.intro hb4 hsz4)))))
          clear hg4 hg4' hbk14 hbk24 hb4 hcb2 hfb2
          go_wp2_with (at_builtin; refine wpList_append_own _ rfl (.tmp 64) (.tmp 66) 38 rfl w2.heap.size 33 i0 (.slice none 0 0) 1 24 Tryd.underlying38 hi hz0 hz1 hz2 rfl (by decide) _ _ _ rfl (hown4.alloc _) ⟨w4.heap.size, 0, none⟩ 1 1 [.slice (some ⟨wr.heap.size, 0, none⟩) q q] rfl rfl (cell_one_new _ _ _) ?d2 ?d3 ?d4 ?d5 ?_)
          case d2 => intro u hu; simp at hu; subst hu; rfl
          case d3 => first | (unfold maxLen; omega) | (simp [maxLen]; omega)
          case d4 => first | omega | (simp; omega)
          case d5 => first | omega | (simp; omega)
          intro v5 w5 hown5 hgr5 _
          obtain ⟨A5, c5, rfl, _, _⟩ := own_shape hown5
          have hba : Below w4.heap.size w4 (w4.alloc (.cells #[.slice (some ⟨wr.heap.size, 0, none⟩) q q] 33)) := (Below.refl _ _).alloc (Nat.le_refl _) _
          have hb5 : Below w2.heap.size w4 w5 := ((Below.refl _ _).alloc H4.out.2.2.2.2.2 _).trans (below_own (H4.out.2.1.alloc _) hgr5 (by have h := H4.out.2.2.2.2.2; first | omega | (simp; omega)))
          have hbk1 := H4.out.2.2.1.below hb5 (by have := HS2.out; omega)
          have hbk2 := H4.out.2.2.2.1.below hb5 (by have := HS2.out; omega)
          have hcl5 : w5.cell? ⟨w.heap.size + 1, 0, none⟩ = some (.slice A' ys.length c') := by rw [hbk2.cell]; rfl
          have hfz5 := hbk2.frozen 0
          have hst45 : Stay8 w4 w5 := (Stay8.below hba).trans (Stay8.grown (H4.out.2.1.alloc _) (by decide) hgr5)
          have HF := Lib.hid (show OfRel w w2 l N (.int .i64 (256 : Int)) (.int .i64 ((k : Int) + 1)) (w5.setCell ⟨w.heap.size + 1, 0, none⟩ (.slice A5 (ys.length + 1) c5)) from
            ⟨_, 256, k + 1, A5, c5, by omega, by simp, rfl, HO.out.grow (y := ⟨some ⟨wr.heap.size, 0, none⟩, q, q, some b⟩) HS2.out hown5 hbk1 hbk2 ((Stay8.below H4.out.2.2.2.2.1).trans hst45)
              (show ∃ g, (⟨some ⟨wr.heap.size, 0, none⟩, q, q, some b⟩ : Sv) = ⟨some ⟨g, 0, none⟩, b.length, b.length, some b⟩ ∧ Blk w5 g 5 (cells b).toArray ∧ IsBytes b ∧ b.length ≤ 200 ∧ w.heap.size ≤ g from ⟨wr.heap.size, by rw [HBI.out.1], hst45 _ _ H4.out.1, HBI.out.2, by rw [HBI.out.1]; omega, HO.out.low.size⟩)
              ((H4.out.2.2.2.2.1.mono (by have := HO.out.low.size; omega)).trans (hb5.mono (by have := HS2.out; omega))) (by have h1 := HO.out.wt; have h2 := HE.out; simp only [bsS]; rw [HBI.out.1]; omega) (fun s hs => by
                obtain ⟨o, ho, hmo⟩ := HMK.out s hs
                rw [ho]
                have hne : o ≠ none := fun h => by rw [mkS_zero.2 h] at hmo; omega
                have hlo : (bsS o).length = q := by have := mkS_bs o; omega
                have h1 := hs.got ho
                have h2 := wt_take_succ ho
                have h3 := HO.out.wt
                rw [HO.out.pg s hs] at h3
                rw [hlo, show 256 - wtP (s.take (k + 1)) = 256 by have := HE.out; omega, ← HBE.out] at h1
                rw [some_bs hne, h1])⟩)
          clear hown5 hgr5 hb5 hbk1 hbk2 hst45 hba hown4
          go_wp2
          go_roundw
          case rel => exact HF.out
          case measure => simp [intOf]; omega
        · have hce2 : ¬ e' = c := fun h => hce h.symm
          go_wp2_with (refine wpList_copy_splice rfl (.tmp 55) (.tmp 61) 33 33 rfl 5 Tryd.underlying33 Tryd.dksize5 _ _ _ _ _ _ rfl rfl wr.heap.size 0 (cells (List.replicate q 0)) 5 HG3.out (cells b) ?k1 ?k2 ?k3 (cells_one _) wr.heap.size wr HB3.out (Nat.le_refl _) ?_)
          case k1 => rw [cells_len, HBI.out.1]
          case k2 => intro h0; first | exact fun j v hv => HSRC.out j v hv | exact ⟨rfl, _, rfl, fun j v hv => HSRC.out j v hv⟩ | exact ⟨_, rfl, fun j v hv => HSRC.out j v hv⟩
          case k3 => rw [cells_len, cells_len, List.length_replicate, HBI.out.1]; omega
          intro w4 hg4 hb4
          have hg4' : Blk w4 wr.heap.size 5 (cells b).toArray := by
            have h := hg4.out
            rw [splice_whole _ _ (by rw [cells_len, cells_len, List.length_replicate, HBI.out.1])] at h
            exact h
          have hown4 := own_below HO.out.own hb4 (Nat.le_refl _)
          have hbk14 := HO.out.b1.below hb4 HO.out.b1.lt
          have hbk24 := HO.out.b2.below hb4 HO.out.b2.lt
          have hcl4 : w4.cell? ⟨w.heap.size + 1, 0, none⟩ = some (.slice A' ys.length c') := by rw [hbk24.cell]; rfl
          have hfz4 := hbk24.frozen 0
          have hsz4 : w2.heap.size ≤ w4.heap.size := Nat.le_trans HO.out.sz hb4.size
          have H4 := Lib.hid (And.intro hg4' (And.intro hown4 (And.intro hbk14 (And.intro hbk24 (And.intro hb4 hsz4)))))
          clear hg4 hg4' hbk14 hbk24 hb4 hcb2 hfb2
          go_wp2_with (at_builtin; refine wpList_append_own _ rfl (.tmp 64) (.tmp 66) 38 rfl w2.heap.size 33 i0 (.slice none 0 0) 1 24 Tryd.underlying38 hi hz0 hz1 hz2 rfl (by decide) _ _ _ rfl (hown4.alloc _) ⟨w4.heap.size, 0, none⟩ 1 1 [.slice (some ⟨wr.heap.size, 0, none⟩) q q] rfl rfl (cell_one_new _ _ _) ?d2 ?d3 ?d4 ?d5 ?_)
          case d2 => intro u hu; simp at hu; subst hu; rfl
          case d3 => first | (unfold maxLen; omega) | (simp [maxLen]; omega)
          case d4 => first | omega | (simp; omega)
          case d5 => first | omega | (simp; omega)
          intro v5 w5 hown5 hgr5 _
          obtain ⟨A5, c5, rfl, _, _⟩ := own_shape hown5
          have hba : Below w4.heap.size w4 (w4.alloc (.cells #[.slice (some ⟨wr.heap.size, 0, none⟩) q q] 33)) := (Below.refl _ _).alloc (Nat.le_refl _) _
          have hb5 : Below w2.heap.size w4 w5 := ((Below.refl _ _).alloc H4.out.2.2.2.2.2 _).trans (below_own (H4.out.2.1.alloc _) hgr5 (by have h := H4.out.2.2.2.2.2; first | omega | (simp; omega)))
          have hbk1 := H4.out.2.2.1.below hb5 (by have := HS2.out; omega)
          have hbk2 := H4.out.2.2.2.1.below hb5 (by have := HS2.out; omega)
          have hcl5 : w5.cell? ⟨w.heap.size + 1, 0, none⟩ = some (.slice A' ys.length c') := by rw [hbk2.cell]; rfl
          have hfz5 := hbk2.frozen 0
          have hst45 : Stay8 w4 w5 := (Stay8.below hba).trans (Stay8.grown (H4.out.2.1.alloc _) (by decide) hgr5)
          have HF := Lib.hid (show OfRel w w2 l N (.int .i64 (e' : Int)) (.int .i64 ((k : Int) + 1)) (w5.setCell ⟨w.heap.size + 1, 0, none⟩ (.slice A5 (ys.length + 1) c5)) from
            ⟨_, e', k + 1, A5, c5, by omega, by simp, rfl, HO.out.grow (y := ⟨some ⟨wr.heap.size, 0, none⟩, q, q, some b⟩) HS2.out hown5 hbk1 hbk2 ((Stay8.below H4.out.2.2.2.2.1).trans hst45)
              (show ∃ g, (⟨some ⟨wr.heap.size, 0, none⟩, q, q, some b⟩ : Sv) = ⟨some ⟨g, 0, none⟩, b.length, b.length, some b⟩ ∧ Blk w5 g 5 (cells b).toArray ∧ IsBytes b ∧ b.length ≤ 200 ∧ w.heap.size ≤ g from ⟨wr.heap.size, by rw [HBI.out.1], hst45 _ _ H4.out.1, HBI.out.2, by rw [HBI.out.1]; omega, HO.out.low.size⟩)
              ((H4.out.2.2.2.2.1.mono (by have := HO.out.low.size; omega)).trans (hb5.mono (by have := HS2.out; omega))) (by have h1 := HO.out.wt; have h2 := HE.out; simp only [bsS]; rw [HBI.out.1]; omega) (fun s hs => by
                obtain ⟨o, ho, hmo⟩ := HMK.out s hs
                rw [ho]
                have hne : o ≠ none := fun h => by rw [mkS_zero.2 h] at hmo; omega
                have hlo : (bsS o).length = q := by have := mkS_bs o; omega
                have h1 := hs.got ho
                have h2 := wt_take_succ ho
                have h3 := HO.out.wt
                rw [HO.out.pg s hs] at h3
                rw [hlo, show 256 - wtP (s.take (k + 1)) = e' by have := HE.out; omega, ← HBE.out] at h1
                rw [some_bs hne, h1])⟩)
          clear hown5 hgr5 hb5 hbk1 hbk2 hst45 hba hown4
          go_wp2
          go_roundw
          case rel => exact HF.out
          case measure => simp [intOf]; omega
    · obtain rfl : k = N := by omega
      have hkk : ¬ ((k : Int) < (k : Int)) := by omega
      have hsh := own_shape hst.own
      have hcc : ys.length ≤ c' ∧ c' ≤ maxLen := by
        obtain ⟨_, _, e9, h1, h2⟩ := hsh
        injection e9 with _ _ e10
        rw [e10]; exact ⟨h1, h2⟩
      have hpgr : PgR wr A' ys.length c' ys := ⟨Rd.of_own hst.own, fun y hy => (hst.ok y hy).ok, hcc.1, hcc.2⟩
      obtain ⟨t, ht⟩ : ∃ t, t = slotsOf ys := ⟨_, rfl⟩
      have HT := Lib.hid ht
      have HALL := Lib.hid (show ∀ s, ofP l = some s → t = s from fun s hs => by
        rw [ht, hst.pg s (ofP_some hs)]
        have e1 := (ofP_some hs).head
        rw [H.out.head] at e1
        have e2 := Option.some.inj e1
        exact List.take_of_length_le (by omega))
      have HBYT := Lib.hid (show ∀ o ∈ t, IsBytes (bsS o) from fun o ho => by
        rw [ht] at ho
        simp only [slotsOf, List.mem_map] at ho
        obtain ⟨y, hy, rfl⟩ := ho
        have h1 := hst.ok y hy
        unfold YOk at h1
        split at h1
        · rename_i e; rw [e]; exact .nil
        · rename_i b e; rw [e]; obtain ⟨_, _, _, h2, _⟩ := h1; exact h2)
      have HBY := Lib.hid (refBytes_any wr A' ys.length c' ys hpgr)
      have HPG := Lib.hid hpgr
      have HPP := Lib.hid hp
      rw [← ht] at HBY
      clear hsh hst hp hpgr ht
      go_wp2_with fail
      refine HBY.out.mono ?_
      rintro e5 w5 ⟨v5, rfl, hown5, hb5⟩
      have hcb2' : w5.cell? ⟨w.heap.size + 1, 0, none⟩ = some (.slice A' ys.length c') := (hb5.cell (World.block_lt_of_cell? _ _ hcb2)).trans hcb2
      have hbk1 := HO.out.b1.below hb5 HO.out.b1.lt
      have hcb1' : w5.cell? ⟨w.heap.size, 0, none⟩ = some (.slice none 0 0) := by rw [hbk1.cell]; rfl
      have hfb1' := hbk1.frozen 0
      have HBK1 := Lib.hid hbk1
      have HB5 := Lib.hid hb5
      have HTR := Lib.hid (show ∀ k0, Calls Tryd.prog 73 #[.slice A' ys.length c'] (w5.drewN k0) (fun e w' => e = .returned (.slice A' (trimP t).length c') ∧ ∃ m, w' = w5.drewN m) from fun k0 => by
        refine (trim_any (w5.drewN k0) A' ys.length c' ys (HPG.out.below (by have h1 : Below wr.heap.size wr (w5.drewN k0) := ⟨hb5.os, hb5.tape, hb5.output, hb5.size, hb5.block⟩; exact h1))).mono ?_
        rintro e w' ⟨rfl, rfl⟩
        exact ⟨by rw [HT.out], k0, rfl⟩)
      have hwf : ∀ v m, Below w.heap.size w ((w5.drewN m).setCell ⟨w.heap.size, 0, none⟩ v) := fun v m =>
        Below.setCell (p := ⟨w.heap.size, 0, none⟩) (by have h1 := HO.out.low.trans (hb5.mono HO.out.low.size); exact ⟨h1.os, h1.tape, h1.output, h1.size, h1.block⟩) (Nat.le_refl _) v
      have HWF := Lib.hid hwf
      have hwf0 : ∀ v, Below w.heap.size w (w5.setCell ⟨w.heap.size, 0, none⟩ v) := fun v => (HO.out.low.trans (hb5.mono HO.out.low.size)).setCell (p := ⟨w.heap.size, 0, none⟩) (Nat.le_refl _) v
      have HWF0 := Lib.hid hwf0
      clear hwf hwf0 hbk1
      obtain ⟨A5, c5, rfl, hc51, hc52⟩ := own_shape hown5
      by_cases hcan : CanP t
      · have hbs : bytesP t = some (imgP t) := by unfold bytesP; rw [if_pos hcan]
        have hil := can_img hcan
        have HCAN := Lib.hid hcan
        rw [hbs] at hown5 hc51 ⊢
        simp only [Option.getD_some, Option.isSome_some] at hown5 hc51 ⊢
        rw [hil] at hown5 hc51 ⊢
        have HSM := Lib.hid (show ∀ k0, Calls Tryd.prog 27 #[.slice A5 256 c5, .slice (some ad) 256 c] (w5.drewN k0) (fun e w' => e = .returned (.bool (decide (imgP t = l))) ∧ ∃ m, w' = w5.drewN m) from fun k0 =>
          Calls.quiet_of (sameBytes_dec A5 (some ad) 256 256 c5 c (imgP t) l (w5.drewN k0) w5.heap.size w.heap.size ((Rd.of_own hown5).drewN k0) ((HPP.out.rd.below hb5 (by have := HO.out.low.size; omega)).drewN k0) (by omega)))
        clear hown5 hb5 hcan hbs hil hcb2 hfb2 hcb1 hfb1
        have hyt : t.length = ys.length := by rw [HT.out, slotsOf_len]
        by_cases himg : imgP t = l
        · have HIMG := Lib.hid himg
          rw [decide_eq_true himg] at HSM
          obtain ⟨r, hr⟩ : ∃ r, r = (trimP t).length := ⟨_, rfl⟩
          rw [← hr] at HTR
          have HR := Lib.hid hr
          have HYT := Lib.hid hyt
          clear himg hr hyt
          by_cases hrl : r = ys.length
          · have hpt : ofP l = some t := by
              have h1 : trimP t = t := by
                have h2 := trim_take t
                rw [← HR.out, hrl, ← HYT.out, List.take_length] at h2
                exact h2.symm
              have h3 : TrimP t := by rw [← h1]; exact trim_trim t
              exact ofP_pg ⟨can_fit HCAN.out HBYT.out, h3, HIMG.out.symm⟩
            have HPT := Lib.hid hpt
            have hneq : ((r : Int) != (ys.length : Int)) = false := by simp; omega
            have HLAST := Lib.hid (show ∀ m, OfRet l w (.returned (.tuple #[.agg #[.slice A' ys.length c'], .bool true])) ((w5.drewN m).setCell ⟨w.heap.size, 0, none⟩ (.slice A' ys.length c')) from fun m => by
              have ho5 : w5.ownsRow w2.heap.size 33 1 (.slice A' ys.length c') ys.length (vals ys) := own_below HO.out.own HB5.out (Nat.le_refl _)
              have ho6 : (w5.drewN m).ownsRow w2.heap.size 33 1 (.slice A' ys.length c') ys.length (vals ys) := ho5
              have ho7 := own_set (p := ⟨w.heap.size, 0, none⟩) ho6 (own_not ho6 (by show w.heap.size < w2.heap.size; have := HS2.out; omega)) (.slice A' ys.length c')
              have hs8 : Stay8 wr ((w5.drewN m).setCell ⟨w.heap.size, 0, none⟩ (.slice A' ys.length c')) :=
                (Stay8.below HB5.out).trans (show Stay8 w5 _ from Stay8.setCell (w := w5.drewN m) (HBK1.out.drewN m) (by decide) _)
              exact ⟨A', ys.length, c', ys, by rw [HPT.out]; rfl, ⟨Rd.of_own ho7, fun y hy => ((HO.out.ok y hy).stay hs8).ok, hcc.1, hcc.2⟩, fun s hs => by rw [← HT.out]; exact HALL.out s hs, hyl, HWF.out _ _, own_base ho7 (by have := HS2.out; omega), fun y hy => (HO.out.ok y hy).stay hs8⟩)
            clear hpt
            go_wp2_with fail
            go_quiet (first | (go_at_call 27; exact HSM.out _) | (go_at_call 73; exact HTR.out _))
            go_wp2
            refine bodyPost_ret (by rw [results_cell_tmp rfl]; go_simp; exact rfl) rfl ?_
            exact HLAST.out _
          · have HN := Lib.hid (show ofP l = none from by
              cases ho : ofP l with
              | none => rfl
              | some s =>
                exfalso
                have h1 := HALL.out s ho
                have h2 := trim_id (ofP_some ho).trim
                rw [← h1] at h2
                apply hrl
                rw [HR.out, h2, HYT.out])
            have hneq : ((r : Int) != (ys.length : Int)) = true := by simp; omega
            go_wp2_with fail
            go_quiet (first | (go_at_call 27; exact HSM.out _) | (go_at_call 73; exact HTR.out _))
            go_wp2
            refine bodyPost_ret (by rw [results_cell_tmp rfl]; go_simp; exact rfl) rfl ?_
            exact of_no HN.out (HWF.out _ _)
        · have HN := Lib.hid (show ofP l = none from by
            cases ho : ofP l with
            | none => rfl
            | some s =>
              exfalso
              have h1 := HALL.out s ho
              apply himg
              rw [h1]
              exact (ofP_some ho).img.symm)
          rw [decide_eq_false himg] at HSM
          clear himg
          go_wp2_with fail
          go_quiet (first | (go_at_call 27; exact HSM.out _) | (go_at_call 73; exact HTR.out _))
          go_wp2
          refine bodyPost_ret (by rw [results_cell_tmp rfl]; go_simp; exact rfl) rfl ?_
          exact of_no HN.out (HWF.out _ _)
      · have hbs : bytesP t = none := by unfold bytesP; rw [if_neg hcan]
        have HN := Lib.hid (show ofP l = none from by
          cases ho : ofP l with
          | none => rfl
          | some s =>
            exfalso
            have h1 := HALL.out s ho
            apply hcan
            rw [h1]
            exact fit_can (ofP_some ho).fit)
        rw [hbs]
        simp only [Option.getD_none, Option.isSome_none]
        clear hown5 hb5 hcan hbs hcb2 hfb2 hcb1 hfb1 hc51
        go_wp2_with fail
        go_quiet (fail)
        go_wp2
        refine bodyPost_ret (by rw [results_cell_tmp rfl]; go_simp; exact rfl) rfl ?_
        exact of_no HN.out (HWF.out _ _)
theorem of_any (w : World) (A : Option Addr) (n c : Nat) (l : List Int) (h : Rd w w.heap.size A n (cells l)) (hby : IsBytes l) (hc : n ≤ c) (hm : c ≤ maxLen) : Calls Tryd.prog 44 #[.slice A n c] w (OfRet l w) := by
  have hl : l.length = n := by have := h.len; rwa [cells_len] at this
  by_cases hn : n = 256
  · subst hn
    obtain ⟨ad, u, rfl, _, hu, _⟩ := h.at_ (k := 0) (by omega)
    have h0 : 0 < l.length := by omega
    have hx := hby _ (List.getElem_mem h0)
    exact of_ad w ad c l[0].toNat l ⟨h, hc, hm, hl, hby, by rw [List.getElem?_eq_getElem h0]; congr 1; omega⟩
  · exact of_len w A n c l hl hn
end Go.Proofs.YtdnegfjddpdmhaaDoor

/-
  CopyLists: rows of bytes of one's own.
-/
namespace Go.Proofs.YtdnegfjddpdmhaaDoor
open Go.RowKit Go.Lib

/-- a row of bytes of one's own -/
def Ob (w : World) (z : Rb) : Prop := w.ownsRow 0 5 1 (.slice z.A z.n z.c) z.n (cells z.l) ∧ IsBytes z.l ∧ z.l.length = z.n
section
variable {w w' : World} {z : Rb} {F : Nat → Prop}
theorem Ob.below (h : Ob w z) (hb : Below w.heap.size w w') : Ob w' z := ⟨own_below h.1 hb (Nat.le_refl _), h.2⟩
theorem Ob.chg (h : Ob w z) (hc : Chg F w w') (hd : ∀ k cs, F k → ¬ Blk w k 5 cs) : Ob w' z :=
  ⟨own_chg h.1 hc fun k hk hf => by
    obtain ⟨cur, hcu⟩ := own_row h.1 k hk
    exact hd k cur hf hcu, h.2⟩
theorem Ob.sl (h : Ob w z) : Sl w z.A z.n z.c z.l := by
  obtain ⟨h1, h2, h3⟩ := h
  rw [← h3] at h1
  obtain ⟨A, c, hv, hs⟩ := Sl.of_own h1 h2
  injection hv with e1 e2 e3
  rw [e1, e3, ← h3]
  exact hs
end
/-- rows copied so far -/
def ClR (base : Nat) (w0 : World) (ls : List (List Int)) (o : Value) (wr : World) : Prop :=
  ∃ A c n zs, o = .slice A n c ∧ n = zs.length ∧ wr.ownsRow base 33 1 (.slice A n c) n (rvals zs) ∧ rlists zs = ls ∧ (∀ z ∈ zs, Ob wr z) ∧ Below base w0 wr ∧ base ≤ wr.heap.size
theorem rlists_take (xs : List Rb) {k : Nat} {x : Rb} (h : xs[k]? = some x) : (rlists xs).take (k + 1) = (rlists xs).take k ++ [x.l] := by
  rw [List.take_add_one, rlists, List.getElem?_map, h]
  rfl
set_option maxRecDepth 100000 in
set_option maxHeartbeats 6400000 in
theorem copyLists_any (w : World) (A : Option Addr) (n c : Nat) (xs : List Rb) (h : RIn0 w A n xs) (hb : ∀ x ∈ xs, IsBytes x.l ∧ x.n ≤ 1000000) (hn : n ≤ 100000) :
    Calls Tryd.prog 20 #[.slice A n c] w fun e w' => ∃ A' c' zs, e = .returned (.slice A' n c') ∧ RIn w' A' n c' zs ∧ rlists zs = rlists xs ∧ Below w.heap.size w w' := by
  obtain ⟨i0, hi, hz0, hz1, hz2⟩ := info_parts Tryd.dkinfo22
  have H := Lib.hid (And.intro h (And.intro hb h.len))
  have hOut : ClR w.heap.size w ((rlists xs).take 0) (.slice (some ⟨w.heap.size, 0, none⟩) 0 0) (w.alloc (.cells #[] 33)) := by
    have h9 := World.ownsRow_lit (base := w.heap.size) (size := 1) (e := 33) w #[] 0 (by simp) (by simp [maxLen]) (by simp)
    exact ⟨_, 0, 0, [], rfl, rfl, by simpa [rvals] using h9, rfl, fun z hz => (by cases hz), (Below.refl _ w).alloc (Nat.le_refl _) _, by simp⟩
  have H0 := Lib.hid hOut
  have hn0 : (0 : Int) ≤ (n : Int) := Int.natCast_nonneg _
  clear h hb hOut
  go_enter Tryd.func20, Tryd.ntmps20
  go_wp2_with fail
  go_loopw [3, 4] (fun o i wr => ∃ k : Nat, k ≤ n ∧ i = .int .i64 k ∧ ClR w.heap.size w ((rlists xs).take k) o wr) (fun _ i _ => n - (intOf i).toNat)
  case atStart => exact ⟨0, Nat.zero_le _, rfl, H0.out⟩
  case round =>
    obtain ⟨k, hk, rfl, A1, c1, n1, zs, rfl, hn1, hown1, hls1, hzs1, hbl1, hba1⟩ := hrel
    have hk0 : (0 : Int) ≤ (k : Int) := Int.natCast_nonneg _
    have HK := Lib.hid (And.intro hn1 (And.intro hown1 (And.intro hls1 (And.intro hzs1 (And.intro hbl1 hba1)))))
    have hn1k : n1 ≤ 100000 := by
      have h1 := congrArg List.length hls1
      rw [List.length_take] at h1
      simp only [rlists, List.length_map] at h1
      omega
    by_cases hlt : k < n
    · have hlt1 : (k : Int) < (n : Int) := by omega
      obtain ⟨wl, hwl⟩ : ∃ wl, wl = wr := ⟨_, rfl⟩
      subst hwl
      obtain ⟨ad, x, rfl, hx, hc, hrd⟩ := (H.out.1.below hbl1).at_ hlt
      have hmem := List.mem_of_getElem? hx
      obtain ⟨hxb, hxn⟩ := H.out.2.1 x hmem
      have hxl : x.l.length = x.n := by have := hrd.len; rwa [cells_len] at this
      unfold Rb.val at hc
      have HCB := Lib.hid (copyBytes_any wl x.A x.n x.c x.l hxl hxn hrd)
      have HX := Lib.hid (And.intro hx (And.intro hxb hxl))
      clear hn1 hown1 hls1 hzs1 hbl1 hba1 hx hmem hxb hrd hxl hxn
      go_wp2_with fail
      refine HCB.out.mono ?_
      rintro e w3 ⟨v3, rfl, hown3, hb3⟩
      obtain ⟨A3, c3, rfl, _, _⟩ := own_shape hown3
      rw [HX.out.2.2] at hown3 ⊢
      have hob : Ob w3 ⟨A3, x.n, c3, x.l⟩ := ⟨own_base hown3 (Nat.zero_le _), HX.out.2.1, HX.out.2.2⟩
      have hown4 := own_below HK.out.2.1 hb3 (Nat.le_refl _)
      have s3 := hb3.size
      have H3 := Lib.hid (And.intro hown4 (And.intro hob hb3))
      obtain ⟨xn, hxn⟩ : ∃ q, q = x.n := ⟨_, rfl⟩
      obtain ⟨xl, hxl⟩ : ∃ q, q = x.l := ⟨_, rfl⟩
      rw [← hxn, ← hxl] at H3
      rw [← hxn]
      have HXL := Lib.hid hxl
      clear hown3 hown4 hb3 hob HCB hxn hxl
      go_wp2_with (at_builtin; refine wpList_append_own _ rfl (.tmp 12) (.tmp 18) 38 rfl w.heap.size 33 i0 (.slice none 0 0) 1 24 Tryd.underlying38 hi hz0 hz1 hz2 rfl (by decide) _ n1 _ rfl (H3.out.1.alloc _) ⟨w3.heap.size, 0, none⟩ 1 1 [.slice A3 xn c3] rfl rfl (cell_one_new _ _ _) ?c2 ?c3 ?c4 ?c5 ?_)
      case c2 => first | rfl | (intro u hu; simp at hu; subst hu; rfl)
      case c3 => first | (unfold maxLen; omega) | (simp [maxLen]; omega)
      case c4 => first | omega | (simp; omega)
      case c5 => have h2 := HK.out.2.2.2.2.2; simp; omega
      intro v5 w5 hown5 hgr5 _
      obtain ⟨A5, c5, rfl, _, _⟩ := own_shape hown5
      have hgb : ∀ q, (Value.slice A1 n1 c1).ownBlock = some q → w.heap.size ≤ q := fun q hq => (H3.out.1.lt q hq).1
      have hc35 : Chg (fun q => (Value.slice A1 n1 c1).ownBlock = some q) w3 w5 := ((Chg.refl _ w3).alloc _).grown hgr5 (fun q hq _ => hq)
      have s5 := hc35.size
      have hty : ∀ q cs, (Value.slice A1 n1 c1).ownBlock = some q → ¬ Blk w3 q 5 cs := fun q cs hq hb => by
        obtain ⟨cur, hcu⟩ := own_row H3.out.1 q hq
        exact Blk.ne hcu hb (by decide) rfl
      have HF := Lib.hid (show ClR w.heap.size w ((rlists xs).take (k + 1)) (.slice A5 (n1 + 1) c5) w5 from
        ⟨A5, c5, n1 + 1, zs ++ [⟨A3, xn, c3, xl⟩], rfl, by rw [List.length_append, HK.out.1]; rfl, by
          rw [show rvals (zs ++ [⟨A3, xn, c3, xl⟩]) = rvals zs ++ [.slice A3 xn c3] by simp [rvals, Rb.val]]
          exact hown5, by
          rw [show rlists (zs ++ [⟨A3, xn, c3, xl⟩]) = rlists zs ++ [xl] by simp [rlists], HK.out.2.2.1, rlists_take xs HX.out.1, HXL.out], fun z hz => by
          rcases List.mem_append.1 hz with hz | hz
          · exact ((HK.out.2.2.2.1 z hz).below H3.out.2.2).chg hc35 hty
          · rw [List.mem_singleton.1 hz]
            exact H3.out.2.1.chg hc35 hty,
          (HK.out.2.2.2.2.1.trans (H3.out.2.2.mono HK.out.2.2.2.2.2)).trans (hc35.below (fun q hq => hgb q hq) (by have := HK.out.2.2.2.2.2; omega)), by have := HK.out.2.2.2.2.2; omega⟩)
      clear hown5 hgr5 hgb hc35 hty
      go_wp2_with fail
      go_roundw
      case rel => exact ⟨k + 1, by omega, by go_num, HF.out⟩
      case measure => simp [intOf]; omega
    · have hlt1 : ¬ ((k : Int) < (n : Int)) := by omega
      obtain rfl : k = n := by omega
      clear hn1 hown1 hls1 hzs1 hbl1 hba1
      go_wp2_with fail
      go_ret
      have hl : rlists zs = rlists xs := by rw [HK.out.2.2.1, List.take_of_length_le (by simp [rlists, H.out.2.2])]
      have hnn : n1 = k := by
        have h1 := congrArg List.length hl
        simp only [rlists, List.length_map] at h1
        rw [HK.out.1, h1, H.out.2.2]
      have hown := HK.out.2.1
      rw [hnn] at hown ⊢
      exact ⟨A1, c1, rfl, zs, ⟨Rd.of_own hown, fun z hz => (HK.out.2.2.2.1 z hz).sl⟩, hl, HK.out.2.2.2.2.1⟩
end Go.Proofs.YtdnegfjddpdmhaaDoor

/-
  The document's own heap: Load.
-/
namespace Go.Proofs.YtdnegfjddpdmhaaDoor
open Go.RowKit Go.Lib

/-- what the document's Load answers -/
def RLdRet (r : Option Pgs) (w : World) (e : Ending) (w' : World) : Prop :=
  (r = none ∧ e = .returned (.tuple #[.pointer none, .int .i64 42]) ∧ Below w.heap.size w w') ∨
  (∃ ps hb, ∃ D : Nat → Prop, r = some ps ∧ e = .returned (.tuple #[.pointer (some ⟨hb, 0, none⟩), .int .i64 0]) ∧ RhV w.heap.size D w' hb ps ∧ Below w.heap.size w w')
theorem loadH_many {ls : List (List Int)} (h : 256 < ls.length) : loadH ls = none := by
  unfold loadH
  cases hd : ldP ls with
  | none => rfl
  | some ps =>
    have : ps.length = ls.length := by
      unfold ldP at hd
      split at hd
      · cases hd; simp
      · cases hd
    simp only
    rw [if_pos (by omega)]
theorem loadH_bad {ls : List (List Int)} {l : List Int} (hl : l ∈ ls) (h : ofP l = none) : loadH ls = none := by
  have : ldP ls = none := by
    unfold ldP
    rw [if_neg]
    intro hh
    have := hh l hl
    rw [h] at this
    cases this
  unfold loadH
  rw [this]
noncomputable def psOf (ls : List (List Int)) : Pgs := ls.map fun l => (ofP l).getD []
theorem loadH_good {ls : List (List Int)} (h : ∀ l ∈ ls, (ofP l).isSome = true) (h256 : ls.length ≤ 256) : loadH ls = if (trimH (psOf ls)).length < (psOf ls).length then none else some (psOf ls) := by
  have : ldP ls = some (psOf ls) := by unfold ldP; rw [if_pos h]; rfl
  unfold loadH
  rw [this]
  simp only
  rw [if_neg (by simp [psOf]; omega)]
theorem trimH_full {ps : Pgs} (h : ¬ (trimH ps).length < ps.length) : trimH ps = ps := by
  obtain ⟨j, hj⟩ := trimH_split ps
  have h1 := congrArg List.length hj
  rw [List.length_append, List.length_replicate] at h1
  have : j = 0 := by omega
  rw [this, List.replicate_zero, List.append_nil] at hj
  exact hj.symm
/-- all that has been made since -/
abbrev Since (B : Nat) (w : World) : Nat → Prop := fun q => B ≤ q ∧ q < w.heap.size
/-- a page more -/
theorem RhX.push {B hb : Nat} {w w5 w6 : World} {v v5 : Value} {ys : List Pr} (h : RhX B (Since B w) w hb v ys) (hB : B ≤ w.heap.size) {y : Pr} (hy : y.Ok (Since B w) w)
    (hown : w5.ownsRow B 70 1 v5 (ys.length + 1) (prvals ys ++ [y.val])) (hc5 : Chg (fun k => v.ownBlock = some k) w w5) (hat : v5.ownBlock = v.ownBlock ∨ ∃ g, v5.ownBlock = some g ∧ w.heap.size ≤ g) (hw6 : w6 = w5.setCell ⟨hb, 0, none⟩ v5) :
    RhX B (Since B w6) w6 hb v5 (ys ++ [y]) ∧ Below B w w6 := by
  have hbv : ¬ v.ownBlock = some hb := own_ne h.own h.blk (by decide)
  have hb5 : Blk w5 hb 30 #[v] := h.blk.chg hc5 hbv
  have hc6 : Chg (fun k => k = hb) w5 w6 := by rw [hw6]; exact (Chg.refl (fun k => k = hb) w5).setCell (p := ⟨hb, 0, none⟩) (fun _ => rfl) _
  have s5 := hc5.size
  have s6 := hc6.size
  have hbl := h.blk.lt
  have hb5v : ¬ v5.ownBlock = some hb := fun e => by
    rcases hat with h1 | ⟨g, h1, h2⟩
    · rw [h1] at e; exact hbv e
    · rw [h1] at e; injection e with e; omega
  have hup : ∀ k, Since B w k → Since B w6 k := fun k hk => ⟨hk.1, by have := hk.2; omega⟩
  have hkeep : ∀ z : Pr, z.Ok (Since B w) w → z.Ok (Since B w6) w6 := fun z hz => by
    refine ((hz.chg hc5 (fun k cs hk hbk => ?_) (fun k cs hk hbk => ?_)).chg hc6 (fun k cs hk hbk => ?_) (fun k cs hk hbk => ?_)).mono hup
    · obtain ⟨cur, hcu⟩ := own_row h.own k hk; exact Blk.ne hcu hbk (by decide) rfl
    · obtain ⟨cur, hcu⟩ := own_row h.own k hk; exact Blk.ne hcu hbk (by decide) rfl
    · subst hk; exact Blk.ne hb5 hbk (by decide) rfl
    · subst hk; exact Blk.ne hb5 hbk (by decide) rfl
  refine ⟨⟨?_, ?_, fun z hz => ?_, hup _ h.domh, fun k hk => ?_, fun k hk => hk⟩, ?_⟩
  · rw [hw6]; exact hb5.put 0 _
  · rw [hw6, List.length_append, show prvals (ys ++ [y]) = prvals ys ++ [y.val] by simp [prvals]]
    exact own_set hown hb5v _
  · rcases List.mem_append.1 hz with hz | hz
    · exact hkeep z (h.pg z hz)
    · rw [List.mem_singleton.1 hz]; exact hkeep y hy
  · have h1 := hown.lt k hk
    exact ⟨h1.1, by omega⟩
  · have h1 := hc5.below (B := B) (fun k hk => (h.own.lt k hk).1) hB
    exact h1.trans (hc6.below (B := B) (fun k hk => by subst hk; exact h.domh.1) (by omega))
theorem push_cells {B hb : Nat} {D : Nat → Prop} {w w5 : World} {v : Value} {ys : List Pr} (h : RhX B D w hb v ys) (hc5 : Chg (fun k => v.ownBlock = some k) w w5) : w5.cell? ⟨hb, 0, none⟩ = some v ∧ w5.frozen? ⟨hb, 0, none⟩ = false := by
  have hb5 : Blk w5 hb 30 #[v] := h.blk.chg hc5 (own_ne h.own h.blk (by decide))
  exact ⟨hb5.cell 0, hb5.frozen 0⟩
/-- pages so far -/
def RlR (B hb : Nat) (w0 : World) (ls : List (List Int)) (wr : World) : Prop :=
  ∃ v ys, RhX B (Since B wr) wr hb v ys ∧ prslots ys = psOf ls ∧ (∀ l ∈ ls, (ofP l).isSome = true) ∧ Below B w0 wr
set_option maxRecDepth 100000 in
set_option maxHeartbeats 12800000 in
theorem rload_any (w : World) (A : Option Addr) (n c : Nat) (xs : List Rb) (h : RIn0 w A n xs) (hb : ∀ x ∈ xs, IsBytes x.l ∧ x.n ≤ x.c ∧ x.c ≤ maxLen) (hn : n ≤ 100000) :
    Calls Tryd.prog 22 #[.slice A n c] w (RLdRet (loadH (rlists xs)) w) := by
  have hl := h.len
  have hll : (rlists xs).length = n := by simp [rlists, hl]
  have hn0 : (0 : Int) ≤ (n : Int) := Int.natCast_nonneg _
  by_cases hbig : 256 < n
  · have hbi : (256 : Int) < (n : Int) := by omega
    have HF := Lib.hid (loadH_many (ls := rlists xs) (by omega))
    clear h hl hll hb
    go_enter Tryd.func22, Tryd.ntmps22
    go_wp2_with fail
    go_ret2
    exact .inl ⟨HF.out, rfl, (Below.refl _ _).alloc (Nat.le_refl _) _⟩
  · have hbi : ¬ ((256 : Int) < (n : Int)) := by omega
    obtain ⟨i0, hi, hz0, hz1, hz2⟩ := info_parts Tryd.dkinfo70
    obtain ⟨w1, hw1⟩ : ∃ w1, w1 = w.alloc (.cells #[.slice none 0 0] 30) := ⟨_, rfl⟩
    have hb1 : Below w.heap.size w w1 := by rw [hw1]; exact (Below.refl _ w).alloc (Nat.le_refl _) _
    have s1 : w1.heap.size = w.heap.size + 1 := by rw [hw1]; simp
    have H0 := Lib.hid (show RlR w.heap.size w.heap.size w ((rlists xs).take 0) w1 from ⟨.slice none 0 0, [], ⟨by rw [hw1]; exact Blk.new _ _ _, World.ownsRow_nil _ _ _ _, fun y hy => by (cases hy), ⟨Nat.le_refl _, by omega⟩, fun k hk => by (cases hk), fun k hk => hk⟩, rfl, fun l hl => by (cases hl), hb1⟩)
    have H := Lib.hid (And.intro h (And.intro hb hll))
    have HW1 := Lib.hid hw1
    clear h hl hll hb hw1 hb1
    go_enter Tryd.func22, Tryd.ntmps22
    go_wp2_with fail
    rw [← HW1.out]
    go_loopw [5] (fun i wr => ∃ k : Nat, k ≤ n ∧ i = .int .i64 k ∧ RlR w.heap.size w.heap.size w ((rlists xs).take k) wr) (fun i _ => n - (intOf i).toNat)
    case atStart => exact ⟨0, Nat.zero_le _, rfl, H0.out⟩
    case round =>
      obtain ⟨k, hk, rfl, v, ys, hX, hps, hall, hlow⟩ := hrel
      have hk0 : (0 : Int) ≤ (k : Int) := Int.natCast_nonneg _
      have hyl : ys.length = k := by
        have h1 := congrArg List.length hps
        rw [prslots_len] at h1
        simp only [psOf, List.length_map, List.length_take] at h1
        have := H.out.2.2
        omega
      obtain ⟨A1, c1, rfl, hA1, hA2⟩ := own_shape hX.own
      have hc := hX.blk.cell 0
      simp only [List.getElem?_toArray, List.getElem?_cons_zero] at hc
      have swr := hlow.size
      have HR := Lib.hid (And.intro hX (And.intro hps (And.intro hall (And.intro hlow hyl))))
      rw [hyl] at hc
      clear hps hall hyl
      by_cases hlt : k < n
      · have hlt1 : (k : Int) < (n : Int) := by omega
        obtain ⟨ad, x, rfl, hx, hcx, hrd⟩ := (H.out.1.below hlow).at_ hlt
        have hmem := List.mem_of_getElem? hx
        obtain ⟨hxb, hxc, hxm⟩ := H.out.2.1 x hmem
        have HOF := Lib.hid (of_any wr x.A x.n x.c x.l hrd hxb hxc hxm)
        have HX := Lib.hid (And.intro hx (show x.l ∈ rlists xs from List.mem_map_of_mem hmem))
        unfold Rb.val at hcx
        clear hX hlow hx hmem hxb hxc hxm hrd
        go_wp2_with fail
        refine HOF.out.mono ?_
        rintro e w4 ⟨A', n', c', zs, rfl, hpg4, hsx4, hn4, hb4, hown4, hy4⟩
        have s4 := hb4.size
        have hlow4 := HR.out.2.2.2.1.trans (hb4.mono swr)
        cases ho : ofP x.l with
        | none =>
          have HN := Lib.hid (loadH_bad HX.out.2 ho)
          have HL4 := Lib.hid hlow4
          clear hpg4 hsx4 hb4 hown4 hy4 hlow4 ho hc
          simp only [Option.isSome_none]
          go_wp2_with fail
          go_ret2
          exact .inl ⟨HN.out, rfl, HL4.out.alloc (by omega) _⟩
        | some sp =>
          have hgp : GoodP sp := ⟨(ofP_some ho).fit, (ofP_some ho).trim⟩
          have hn'x : n' = zs.length := by have := hown4.1; rw [vals_len] at this; omega
          obtain ⟨w5, hw5⟩ : ∃ w5, w5 = w4.alloc (.cells #[.slice A' n' c'] 70) := ⟨_, rfl⟩
          have hb45 : Below w4.heap.size w4 w5 := by rw [hw5]; exact (Below.refl _ w4).alloc (Nat.le_refl _) _
          have hbw5 : Below wr.heap.size wr w5 := hb4.trans (hb45.mono hb4.size)
          have s5 := hbw5.size
          have s45 := hb45.size
          have hyok : (⟨A', c', zs⟩ : Pr).Ok (Since w.heap.size w5) w5 := by
            have h1 := Pr.Ok.made (D := fun q => wr.heap.size ≤ q ∧ q < w4.heap.size) ho hsx4 hgp hn'x hown4 hy4 (fun q h1 h2 => ⟨h1, h2⟩)
            exact (h1.keep fun q hq => hb45.block q hq.2).mono fun q hq => ⟨by omega, by omega⟩
          have hX5 : RhX w.heap.size (Since w.heap.size w5) w5 w.heap.size (.slice A1 k c1) ys := by
            have h1 := (HR.out.1.below hbw5).mono (D' := Since w.heap.size w5) (fun q hq => ⟨hq.1, by have := hq.2; omega⟩) fun q hq => hq
            rwa [HR.out.2.2.2.2] at h1
          have hb70 : Blk w5 w4.heap.size 70 #[.slice A' n' c'] := by rw [hw5]; exact Blk.new _ _ _
          have hc70 := hb70.cell 0
          have hc5 := hX5.blk.cell 0
          have hf5 := hX5.blk.frozen 0
          simp only [List.getElem?_toArray, List.getElem?_cons_zero] at hc70 hc5
          have hown5 := hX5.own
          rw [HR.out.2.2.2.2] at hown5
          have H5 := Lib.hid (And.intro hX5 (And.intro hyok (And.intro (hlow4.trans (hb45.mono (by omega))) (And.intro hn'x (hsx4 sp ho)))))
          have HO := Lib.hid hown5
          have HI := Lib.hid ho
          have hk257 : k ≤ 256 := by omega
          have HW5 := Lib.hid hw5
          have hba := (Below.refl w5.heap.size w5).alloc (Nat.le_refl _) (.cells #[.slice A' n' c'] 70)
          have hca : (w5.alloc (.cells #[.slice A' n' c'] 70)).cell? ⟨w.heap.size, 0, none⟩ = some (.slice A1 k c1) := (hba.cell (p := ⟨w.heap.size, 0, none⟩) hX5.blk.lt).trans hc5
          have hcb : (w5.alloc (.cells #[.slice A' n' c'] 70)).drew.cell? ⟨w.heap.size, 0, none⟩ = some (.slice A1 k c1) := hca
          clear hpg4 hsx4 hb4 hown4 hy4 hlow4 ho hgp hn'x hb45 hbw5 hyok hX5 hb70 hown5 hc hw5 hba
          simp only [Option.isSome_some]
          go_wp2_with fail
          rw [← HW5.out]
          go_region_law (refine step_append_lies _ rfl (.tmp 34) (.tmp 36) 28 rfl w.heap.size 70 i0 (.agg #[.slice none 0 0]) 1 24 Tryd.underlying28 hi hz0 hz1 hz2 rfl (by decide) _ _ _ (by rfl) (by exact HO.out.alloc _) ⟨w5.heap.size, 0, none⟩ 1 1 [.slice A' n' c'] (by rfl) rfl (by exact World.news_of_block (Go.heap_alloc_new _ _)) (by intro u hu; simp at hu; subst hu; rfl) (by decide) (by unfold maxLen; omega) (by omega) (by first | omega | (simp; omega)) _ rfl ?_; intro g1 cap1 w6 hown6 hgr6 hat6 hlt6; have hcg : Chg (fun q => (Value.slice A1 k c1).ownBlock = some q) w5 w6 := (((Chg.refl (fun q => (Value.slice A1 k c1).ownBlock = some q) w5).drew).alloc _).grown hgr6 (fun q hq _ => hq); obtain ⟨z0, z1⟩ := push_cells H5.out.1 hcg; have hown7 : w6.ownsRow w.heap.size 70 1 (.slice (some ⟨g1, 0, none⟩) (k + 1) cap1) (k + 1) (prvals ys ++ [.slice A' n' c']) := hown6; have hat7 : (Value.slice A1 k c1).ownBlock = some g1 ∨ w5.heap.size ≤ g1 := hat6.imp id (fun hh => by rw [hh]; show w5.heap.size ≤ (w5.alloc _).heap.size; simp); have HG := Lib.hid (And.intro hown7 (And.intro hcg hat7)); clear hown6 hgr6 hcg hat6 hown7 hat7)
          all_goals
            have hp := H5.out.1.push (by have := H5.out.2.2.1.size; omega) (y := ⟨A', c', zs⟩) H5.out.2.1 (by rw [HR.out.2.2.2.2, show (⟨A', c', zs⟩ : Pr).val = .slice A' n' c' by rw [H5.out.2.2.2.1]; rfl]; exact HG.out.1) HG.out.2.1 (HG.out.2.2.elim (fun hh => .inl (by rw [hh]; rfl)) fun hh => .inr ⟨g1, rfl, hh⟩) rfl
            have HF := Lib.hid (show RlR w.heap.size w.heap.size w ((rlists xs).take (k + 1)) (w6.setCell ⟨w.heap.size, 0, none⟩ (.slice (some ⟨g1, 0, none⟩) (k + 1) cap1)) from
              ⟨_, _, hp.1, by
                rw [rlists_take xs HX.out.1, show prslots (ys ++ [⟨A', c', zs⟩]) = prslots ys ++ [slotsOf zs] by simp [prslots], HR.out.2.1, H5.out.2.2.2.2]
                simp [psOf, HI.out], fun l hl => by
                rw [rlists_take xs HX.out.1] at hl
                rcases List.mem_append.1 hl with hl | hl
                · exact HR.out.2.2.1 l hl
                · rw [List.mem_singleton.1 hl, HI.out]; rfl, H5.out.2.2.1.trans hp.2⟩)
            clear hp z0 z1
            go_wp2_with fail
            go_roundw
            case rel => exact ⟨k + 1, by omega, by go_num, HF.out⟩
            case measure => simp [intOf]; omega
      · have hlt1 : ¬ ((k : Int) < (n : Int)) := by omega
        obtain rfl : k = n := by omega
        have htk : (rlists xs).take k = rlists xs := List.take_of_length_le (by rw [H.out.2.2]; exact Nat.le_refl _)
        have hall := HR.out.2.2.1
        have hpsx := HR.out.2.1
        rw [htk] at hall hpsx
        have hlg := loadH_good hall (by rw [H.out.2.2]; omega)
        have hpl : (psOf (rlists xs)).length = k := by rw [← hpsx, prslots_len, HR.out.2.2.2.2]
        have hVr : RhV w.heap.size (Since w.heap.size wr) wr w.heap.size (psOf (rlists xs)) := ⟨_, _, HR.out.1, hpsx⟩
        have HTM := Lib.hid (rtrim_any wr w.heap.size w.heap.size (Since w.heap.size wr) _ hVr (by rw [hpl]; omega))
        have HLG := Lib.hid (And.intro hlg hpl)
        clear hX hlow htk hall hpsx hlg hVr hpl
        go_wp2_with fail
        refine HTM.out.mono ?_
        rintro e w4 ⟨rfl, hV4, hc4⟩
        have hlow4 := HR.out.2.2.2.1.trans (hc4.below (B := w.heap.size) (fun q hq => by omega) swr)
        have HV4 := Lib.hid (And.intro hV4 hlow4)
        obtain ⟨v4, ys4, hX4, hps4⟩ := hV4
        obtain ⟨A4, c4, rfl, _, _⟩ := own_shape hX4.own
        have hy4 : ys4.length = (trimH (psOf (rlists xs))).length := by rw [← hps4, prslots_len]
        have hle := trimH_len (psOf (rlists xs))
        have hcc := hX4.blk.cell 0
        simp only [List.getElem?_toArray, List.getElem?_cons_zero] at hcc
        obtain ⟨m, hm⟩ : ∃ m, m = ys4.length := ⟨_, rfl⟩
        rw [← hm] at hcc
        have hmk : m ≤ k := by rw [hm, hy4]; have := HLG.out.2; omega
        have HM := Lib.hid (show m = (trimH (psOf (rlists xs))).length by rw [hm, hy4])
        clear hc4 hlow4 hX4 hps4 hy4 hle hm hc
        by_cases hmn : m = k
        · have hne : ((m : Int) != (k : Int)) = false := by simp; omega
          have HE := Lib.hid (show loadH (rlists xs) = some (psOf (rlists xs)) by rw [HLG.out.1, if_neg (by have := HM.out; have := HLG.out.2; omega)])
          have HT := Lib.hid (trimH_full (ps := psOf (rlists xs)) (by have := HM.out; have := HLG.out.2; omega))
          go_wp2_with fail
          go_ret2
          exact .inr ⟨_, _, _, HE.out, rfl, by have h9 := HV4.out.1; rw [HT.out] at h9; exact h9, HV4.out.2⟩
        · have hne : ((m : Int) != (k : Int)) = true := by simp; omega
          have HE := Lib.hid (show loadH (rlists xs) = none by rw [HLG.out.1, if_pos (by have := HM.out; have := HLG.out.2; omega)])
          go_wp2_with fail
          go_ret2
          exact .inl ⟨HE.out, rfl, HV4.out.2⟩
end Go.Proofs.YtdnegfjddpdmhaaDoor
