/-
  Crash where nothing was written; Crash, Flush; Image.
-/
import Derived.Test.YtehghjakggdnpaaDkCrash
namespace Go.Proofs.Ytehghjakggdnpaa
open Go.RowKit Go.Lib

theorem own_form {w : World} {base size : Nat} {e : TypeId} {v : Value} {n : Nat} {xs : List Value} (h : w.ownsRow base e size v n xs) : ∃ A c, v = .slice A n c ∧ n ≤ c ∧ c ≤ maxLen := by
  rcases h.2 with ⟨rfl, rfl⟩ | ⟨g, cap, cur, rfl, _, _, hn, hm, _⟩
  · exact ⟨none, 0, rfl, Nat.le_refl _, by simp [maxLen]⟩
  · exact ⟨_, cap, rfl, hn, hm⟩
def StillRel (w : World) (i : Value) (wr : World) : Prop := i = .int .i64 0 ∧ wr = w

set_option maxRecDepth 100000 in
set_option maxHeartbeats 3200000 in
theorem crash_nil {w : World} {g : Nat} {F : Nat → Prop} {s : DS} (h : DiskAt w g F s) (keep torn : Int) (hn : s.wr.length = 0) :
    Calls Try.prog 24 #[.pointer (some ⟨g, 0, none⟩), .int .i64 keep, .int .i64 torn] w (DoneRet g F (s.crash keep torn) w) := by
  have HD := Lib.hid h
  obtain ⟨gl, gm, W, d1, d2, d3, d4, f1, f2, f3, f4, f5, f6⟩ := h
  obtain ⟨A, c, rfl, hnc, hcm⟩ := own_form d4
  rw [hn] at d1 d4 hnc
  have c1 := d1.cell 1
  have c2 := d1.cell 2
  have xf := d1.frozen 2
  simp only [List.getElem?_toArray, List.getElem?_cons_zero, List.getElem?_cons_succ] at c1 c2
  obtain ⟨kx, hkx⟩ : ∃ kx, kx = (if (0 : Int) > keep then 0 else keep) := ⟨_, rfl⟩
  obtain ⟨tx, htx⟩ : ∃ tx, tx = (if (0 : Int) > torn then 0 else torn) := ⟨_, rfl⟩
  obtain ⟨tt, htt⟩ : ∃ tt, tt = clampN torn 64 := ⟨_, rfl⟩
  have hk1 : (if (0 : Int) < kx then (0 : Int) else kx) = 0 := by
    have := clamp_lo keep 0
    rw [← hkx] at this
    rw [show (0 : Int) = ((0 : Nat) : Int) from rfl, this]
    unfold clampN; omega
  have ht1 : (if (64 : Int) < tx then (64 : Int) else tx) = (tt : Int) := by rw [htx, htt]; exact clamp_lo torn 64
  have HK := Lib.hid (And.intro hkx.symm (And.intro hk1 (And.intro htx.symm ht1)))
  have hgm : gm ≠ g := d3.ne d1
  have q3' := d3.setCell (p := ⟨g, 2, none⟩) hgm (.slice none 0 0)
  have hcr : s.crash keep torn = ⟨s.last, []⟩ := by
    rw [crash_all (k := 0) (by unfold clampN; omega) (by omega)]; rfl
  have HQ := Lib.hid (And.intro d1 (And.intro d2 (And.intro q3' (And.intro hcr (And.intro hgm (d3.ne d2))))))
  clear hkx hk1 htx htt ht1 d1 d2 d3 d4 q3' hcr
  go_enter Try.func24, Try.ntmps24
  go_wp2_with (first
    | refine wpList_max_int rfl (.tmp 9) (.const (.int .i64 0)) 3 3 rfl _ _ _ rfl rfl HK.out.1 ?_
    | refine wpList_min_int rfl (.tmp 10) (.tmp 15) 3 3 rfl _ _ _ rfl rfl HK.out.2.1 ?_
    | refine wpList_max_int rfl (.tmp 17) (.const (.int .i64 0)) 3 3 rfl _ _ _ rfl rfl HK.out.2.2.1 ?_
    | refine wpList_min_int rfl (.tmp 18) (.const (.int .i64 64)) 3 3 rfl _ _ _ rfl rfl HK.out.2.2.2 ?_)
  go_loopw [27] (fun i wr => StillRel w i wr) (fun i _ => (1 - intOf i).toNat)
  case atStart => exact ⟨rfl, rfl⟩
  case round =>
    obtain ⟨rfl, rfl⟩ := hrel
    go_wp2_with (refine wpList_clear_imap rfl (.tmp 73) rfl Try.underlying80 rfl HQ.out.2.2.1 ?_; intro w4 im4 ch4 hs4)
    have HE := Lib.hid (crash_end HQ.out.1 HQ.out.2.1 (Chg.refl F _) f6.len rfl HQ.out.2.2.2.1 HQ.out.2.2.2.2.1 HQ.out.2.2.2.2.2 im4 ch4 f1 f2 f3 f5 f6)
    go_end0
    exact HE.out

theorem crash_any {w : World} {g : Nat} {F : Nat → Prop} {s : DS} (h : DiskAt w g F s) (keep torn : Int) :
    Calls Try.prog 24 #[.pointer (some ⟨g, 0, none⟩), .int .i64 keep, .int .i64 torn] w (DoneRet g F (s.crash keep torn) w) := by
  rcases Nat.eq_zero_or_pos s.wr.length with hn | hn
  · exact crash_nil h keep torn hn
  · exact crash_some h keep torn hn

/-- all that was written lasts -/
def DS.flush (s : DS) : DS := ⟨lay s.last s.wr, []⟩
theorem crash_flush (s : DS) (torn : Int) : s.crash s.wr.length torn = s.flush := by
  rw [crash_all (k := s.wr.length) (by unfold clampN; omega) (by omega), List.take_length]; rfl

set_option maxRecDepth 100000 in
theorem flush_any {w : World} {g : Nat} {F : Nat → Prop} {s : DS} (h : DiskAt w g F s) :
    Calls Try.prog 50 #[.pointer (some ⟨g, 0, none⟩)] w (DoneRet g F s.flush w) := by
  have HD := Lib.hid h
  obtain ⟨gl, gm, W, d1, d2, d3, d4, f1, f2, f3, f4, f5, f6⟩ := h
  obtain ⟨A, c, rfl, hnc, hcm⟩ := own_form d4
  have c2 := d1.cell 2
  simp only [List.getElem?_toArray, List.getElem?_cons_zero, List.getElem?_cons_succ] at c2
  clear d1 d2 d3 d4
  go_enter Try.func50, Try.ntmps50
  go_wp2_with (go_at_call 24; refine (crash_any HD.out _ _).mono ?_; rintro e w' ⟨rfl, h2, h3⟩)
  have HE := Lib.hid (And.intro h2 h3)
  rw [crash_flush] at HE
  go_end0
  exact ⟨rfl, HE.out⟩

end Go.Proofs.Ytehghjakggdnpaa
