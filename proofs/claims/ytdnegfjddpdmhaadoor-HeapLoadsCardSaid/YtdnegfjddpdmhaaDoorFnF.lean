/-
  The contract of Cut at any bytes.
-/
import Derived.Test.YtdnegfjddpdmhaaDoorFnE
namespace Go.Proofs.YtdnegfjddpdmhaaDoor
open Go.RowKit Go.Lib

def cutP (q : Option (List Slot)) (k : Int) : Option (List Int) := match q with
  | none => none
  | some s => if takenP s k then some (imgP (trimP (setP s k.toNat none))) else none

theorem trimmed {t : List Slot} {r : Nat} (h : TrRet (marksP t) r) : (trimP t).length = r := by
  have hle : r ≤ t.length := by have := h.le; rwa [marks_len] at this
  have h1 : t.drop r = List.replicate (t.length - r) none := by
    apply List.eq_replicate_iff.2
    refine ⟨by simp, fun o ho => ?_⟩
    obtain ⟨i, hi⟩ := List.mem_iff_getElem?.1 ho
    rw [List.getElem?_drop] at hi
    have hlt : r + i < t.length := (List.getElem?_eq_some_iff.1 hi).1
    have := h.zero (r + i) (by omega) (by rw [marks_len]; exact hlt)
    rw [marks_at, hi] at this
    exact mkS_zero.1 (Option.some.inj this)
  have h2 : TrimP (t.take r) := by
    unfold TrimP
    rcases Nat.eq_zero_or_pos r with rfl | h0
    · simp
    · intro e
      have h3 := h.last h0
      rw [List.getLast?_eq_getElem?, List.length_take, Nat.min_eq_left hle, List.getElem?_take, if_pos (by omega)] at e
      rw [marks_at, e] at h3
      exact h3 rfl
  have h4 : t = t.take r ++ List.replicate (t.length - r) none := by rw [← h1, List.take_append_drop]
  conv => lhs; rw [h4]
  rw [trim_eq h2, List.length_take]
  omega
theorem cut_img {t : List Slot} (h : Fit t) : (imgP t).set 0 ((trimP t).length : Int) = imgP (trimP t) := by
  rw [trim_img h]
  rfl

section
variable (w : World) (A : Option Addr) (n c : Nat) (l : List Int) (h : Sl w A n c l)
include h
set_option maxRecDepth 100000 in
set_option maxHeartbeats 1600000 in
theorem cut_any (k : Int) :
    Calls Tryd.prog 53 #[.slice A n c, .int .i64 k] w (BsRet (cutP (ofP l) k) w) := by
  have HR := Lib.hid (right_sl w A n c l h)
  cases ho : ofP l with
  | none =>
    have HE := Lib.hid (show (ofP l).isSome = false by rw [ho]; rfl)
    clear ho h
    go_enter Tryd.func53, Tryd.ntmps53
    go_wp2_with fail
    refine HR.out.mono ?_
    rintro e w1 ⟨rfl, hb1⟩
    rw [HE.out]
    have HB := Lib.hid hb1
    clear hb1
    go_wp2
    go_ret2
    exact bs_no rfl HB.out
  | some s =>
    have HE := Lib.hid (show (ofP l).isSome = true by rw [ho]; rfl)
    have hp := ofP_some ho
    obtain ⟨rfl, g, rfl, ha⟩ := h.pg hp
    have HP := Lib.hid (And.intro hp ha)
    have hc := h.cap
    have hct := h.top
    cases ht : takenP s k with
    | false =>
      have HT := Lib.hid ht
      clear ho hp h ha ht
      go_enter Tryd.func53, Tryd.ntmps53
      go_wp2_with fail
      refine HR.out.mono ?_
      rintro e w1 ⟨rfl, hb1⟩
      rw [HE.out]
      have HB := Lib.hid hb1
      have HA := Lib.hid ((HP.out.2.below hb1 (Nat.le_refl _)))
      clear hb1
      go_wp2_with fail
      refine (taken_any w1 w.heap.size g c l s HP.out.1 HA.out k).mono ?_
      rintro e w' ⟨rfl, rfl⟩
      rw [HT.out]
      go_wp2
      go_ret2
      exact bs_no (by simp only [cutP]; rw [HT.out]; rfl) HB.out
    | true =>
      obtain ⟨j, rfl, b, hj⟩ := taken_some ht
      have hjl : j < s.length := (List.getElem?_eq_some_iff.1 hj).1
      have hn := ha.n_le
      have HT := Lib.hid ht
      have HF := Lib.hid (show cutP (some s) (j : Int) = some (imgP (trimP (setP s j none))) by
        simp only [cutP]
        rw [ht, Int.toNat_natCast]
        rfl)
      have HFT := Lib.hid (cut_fit hp.fit hjl)
      have hsl : (setP s j none).length = s.length := by rw [set_len]; omega
      clear ho hp h ha ht hj
      go_enter Tryd.func53, Tryd.ntmps53
      go_wp2_with fail
      refine HR.out.mono ?_
      rintro e w1 ⟨rfl, hb1⟩
      rw [HE.out]
      have HB := Lib.hid hb1
      have HA := Lib.hid ((HP.out.2.below hb1 (Nat.le_refl _)))
      clear hb1
      go_wp2_with fail
      refine (taken_any w1 w.heap.size g c l s HP.out.1 HA.out (j : Int)).mono ?_
      rintro e w' ⟨rfl, rfl⟩
      rw [HT.out]
      go_wp2_with fail
      refine (with_any _ g c l s HP.out.1 { HA.out with rd := HA.out.rd.more HB.out.size } j (by omega) none HFT.out none 0 0 Rd.empty 0 rfl).mono ?_
      rintro e w2 ⟨g2, rfl, hk2, hg2, hb2⟩
      have HK := Lib.hid (And.intro hk2 (And.intro hg2 hb2))
      have hil := HFT.out.img_len
      have hpa : PAt w2 w2.heap.size g2 256 (imgP (setP s j none)) s.length := by
        have hown := own_blk (base := w.heap.size) hk2 (Nat.le_trans HB.out.size hg2) (by rw [hil]; simp [maxLen])
        rw [hil] at hown
        exact ⟨Rd.of_own hown, Nat.le_refl _, by simp [maxLen], hil, HFT.out.img_bytes, by rw [← hsl]; rfl⟩
      have HPA := Lib.hid hpa
      have hml : mkL (imgP (setP s j none)) s.length = marksP (setP s j none) := by
        unfold mkL imgP
        rw [← hsl, List.drop_succ_cons, List.drop_zero, List.take_append_of_le_length (by rw [marks_len]; omega), List.take_of_length_le (by rw [marks_len]; omega)]
      have HTR := Lib.hid (trimRight_any w2 w2.heap.size (some ⟨g2, 1, none⟩) s.length 255 (mkL (imgP (setP s j none)) s.length) hpa.mk_len hpa.marks (by omega) (by simp [maxLen]))
      rw [hml] at HTR
      clear hk2 hg2 hb2 hpa hml
      go_wp2_with fail
      refine (marks_any w2 w2.heap.size g2 256 (imgP (setP s j none)) s.length HPA.out).mono ?_
      rintro e w' ⟨rfl, rfl⟩
      go_wp2_with fail
      refine HTR.out.mono ?_
      rintro e w' ⟨⟨A', r, c', rfl, htr⟩, rfl⟩
      have hrl : r ≤ 255 := by have := htr.le; rw [marks_len] at this; omega
      have HR2 := Lib.hid (trimmed htr)
      have hwr : IntKind.u8.wrap (r : Int) = (r : Int) := by rw [IntKind.wrap_u8]; omega
      have hc0 : ∃ v, w'.cell? ⟨g2, 0, none⟩ = some v := by
        rw [HK.out.1.cell]
        exact ⟨_, Array.getElem?_eq_getElem (by simp [cells_len, hil])⟩
      obtain ⟨v0, hc0⟩ := hc0
      have hf0 := HK.out.1.frozen 0
      have HF2 := Lib.hid (show ∀ x : Int, x = (r : Int) → BsRet (cutP (some s) (j : Int)) w (.returned (.tuple #[.slice (some ⟨g2, 0, none⟩) 256 256, .bool true])) (w'.setCell ⟨g2, 0, none⟩ (.int .u8 x)) from fun x hx => by
        have h1 := HK.out.1.put 0 (.int .u8 x)
        simp only [List.setIfInBounds_toArray, set_cells] at h1
        rw [hx, ← HR2.out, cut_img HFT.out] at h1
        have hl2 := (trim_fit HFT.out).img_len
        rw [HF.out, hx, ← HR2.out]
        have h2 := own_blk (base := w.heap.size) h1 (Nat.le_trans HB.out.size HK.out.2.1) (by rw [hl2]; simp [maxLen])
        rw [hl2] at h2
        refine ⟨_, rfl, by simpa [hl2] using h2, ?_⟩
        exact HB.out.trans ((HK.out.2.2.setCell (p := ⟨g2, 0, none⟩) HK.out.2.1 _).mono HB.out.size))
      clear htr
      go_wp2
      go_ret2
      first | exact HF2.out _ rfl | exact HF2.out _ (by first | rfl | omega)
end
end Go.Proofs.YtdnegfjddpdmhaaDoor
