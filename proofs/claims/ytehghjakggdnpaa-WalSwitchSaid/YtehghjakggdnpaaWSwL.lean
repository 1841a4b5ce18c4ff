/-
  The log of WalSwitch, and its images, in memory.
-/
import Derived.Test.YtehghjakggdnpaaWSw
import Derived.Test.YtehghjakggdnpaaWSwM
import Derived.Test.YtehghjakggdnpaaWSomeL
import Derived.Test.YtehghjakggdnpaaWAlive
import Derived.Test.YtehghjakggdnpaaWOpen
import Derived.Test.YtehghjakggdnpaaDkImage
namespace Go.Proofs.Ytehghjakggdnpaa
open Go.RowKit Go.Lib

theorem swWs_sects (R : List (List Int)) : ∀ (sec u : Nat), swWs sec ((u : Int) + 1) R = wsAt sec (sectsM u R) := by
  induction R with
  | nil => intro sec u; rfl
  | cons r R ih =>
    intro sec u
    show putWs _ _ _ _ ++ swWs _ _ R = wsAt sec (recS u r ++ sectsM (u + secsOf r.length) R)
    rw [wsAt_append, recS_len, putWs_rec, ← ih, show (u : Int) + 1 + ((secsOf r.length : Nat) : Int) = ((u + secsOf r.length : Nat) : Int) + 1 by omega]
theorem oS_half (R : List (List Int)) : (oS R).half = 199 := by unfold DS.half; rw [oS_len]
theorem swS_sS (old fresh : List (List Int)) : swS (oS old) 0 1 (((totalM old : Nat) : Int) + 1) fresh = sS old fresh := by
  unfold swS
  rw [oS_half, swWs_sects]
  rfl
theorem flat_len {L : List (List Int)} (h : ∀ b ∈ L, b.length = 64) : L.flatten.length = L.length * 64 := by
  induction L with
  | nil => rfl
  | cons b L ih =>
    rw [List.flatten_cons, List.length_append, h b (by simp), ih fun c hc => h c (by simp [hc]), List.length_cons]
    omega

/-- the old records are appended -/
def OSt (w wr : World) (g l : Nat) (R : List (List Int)) : Prop := ∃ F, WLive w wr g l F (oW R) 1 0 ((totalM R : Nat) : Int) (((totalM R : Nat) : Int) + 1) ∧ totalM R ≤ 199
/-- they are flushed -/
def FSt (w wr : World) (g l : Nat) (R : List (List Int)) : Prop := ∃ F, WLive w wr g l F (oS R) 1 0 ((totalM R : Nat) : Int) (((totalM R : Nat) : Int) + 1) ∧ totalM R ≤ 199
/-- the first image is taken -/
def ISt (w wr : World) (g l : Nat) (R : List (List Int)) (gi : Nat) : Prop := ∃ F, WLive w wr g l F (oS R) 1 0 ((totalM R : Nat) : Int) (((totalM R : Nat) : Int) + 1) ∧ totalM R ≤ 199 ∧ Blk wr gi 5 (cells (oS R).last.flatten).toArray ∧ ¬ F gi ∧ gi ≠ l
/-- behind the switch -/
def DSt (w wr : World) (g : Nat) (R N : List (List Int)) (gi : Nat) : Prop := ∃ F, DiskAt wr g F (sS R N) ∧ Below w.heap.size w wr ∧ totalM R ≤ 199 ∧ totalM N ≤ 199 ∧ Blk wr gi 5 (cells (oS R).last.flatten).toArray ∧ (∀ b ∈ (oS R).last, b.length = 64)
/-- both images are taken -/
def ESt (w wr : World) (R N : List (List Int)) (gi gd : Nat) : Prop := Below w.heap.size w wr ∧ totalM R ≤ 199 ∧ totalM N ≤ 199 ∧ Blk wr gi 5 (cells (oS R).last.flatten).toArray ∧ Blk wr gd 5 (cells (sS R N).last.flatten).toArray ∧ (∀ b ∈ (sS R N).last, b.length = 64) ∧ (∀ b ∈ (oS R).last, b.length = 64)
section
variable {w wr : World} {g l gi gd : Nat} {R N : List (List Int)}
theorem OSt.b (h : OSt w wr g l R) : Below w.heap.size w wr := by obtain ⟨F, h, _⟩ := h; exact h.b
theorem OSt.le (h : OSt w wr g l R) : totalM R ≤ 199 := by obtain ⟨F, _, h⟩ := h; exact h
theorem ost_append (h : OSt w wr g l R) (A : Option Addr) (n c : Nat) (r : List Int) (hr : Rd wr wr.heap.size A n (cells r)) :
    Calls Try.prog 15 #[.pointer (some ⟨l, 0, none⟩), .slice A n c] wr fun e w' => (∃ q : Int, q ≠ 0 ∧ e = .returned (.int .i64 q) ∧ Below w.heap.size w w') ∨ (e = .returned (.int .i64 0) ∧ n ≤ 4096 ∧ OSt w w' g l (R ++ [r])) := by
  obtain ⟨F, hlv, ht⟩ := h
  by_cases h1 : 4096 < n
  · refine (append_range A n c h1).mono ?_
    rintro e w' ⟨a, rfl⟩
    exact .inl ⟨41, by omega, a, hlv.b⟩
  by_cases h2 : isFull (oW R) (totalM R) n (((totalM R : Nat) : Int) + 1)
  · refine (append_full hlv.d hlv.lg (by rw [oW_len]; omega) (by rw [oW_half]; exact ht) ⟨by omega, by omega⟩ A n c (by omega) h2).mono ?_
    rintro e w' ⟨a, p, rfl⟩
    exact .inl ⟨36, by omega, a, (hlv.drewN p).b⟩
  · have hnl : r.length = n := by have := hr.len; rwa [cells_len] at this
    refine (append_ok hlv.d hlv.lg hlv.nf (by rw [oW_len]; omega) (.inl rfl) (by rw [oW_half]; exact ht) ⟨by omega, by omega⟩ A n c r hr (by omega) h2 (by rw [oW_wr]; omega)).mono ?_
    rintro e w' ⟨a, hd, hl, hc⟩
    have h6 := hlv.step hd hl hc
    have htt : totalM (R ++ [r]) = totalM R + secsOf n := by rw [total_append]; simp only [totalM]; rw [hnl]; omega
    rw [oW_app, ← htt, show ((totalM R : Nat) : Int) + 1 + ((secsOf n : Nat) : Int) = ((totalM (R ++ [r]) : Nat) : Int) + 1 by omega] at h6
    unfold isFull at h2
    rw [oW_half] at h2
    exact .inr ⟨a, by omega, _, h6, by omega⟩
theorem ost_flush (h : OSt w wr g l R) : Calls Try.prog 18 #[.pointer (some ⟨l, 0, none⟩)] wr fun e w' => e = .returned (.tuple #[]) ∧ FSt w w' g l R := by
  obtain ⟨F, hlv, ht⟩ := h
  refine (wflush_any hlv.d hlv.lg hlv.nf).mono ?_
  rintro e w' ⟨a, hd, hl, hc⟩
  exact ⟨a, _, hlv.stepF hd hc, ht⟩
theorem fst_image (h : FSt w wr g l R) : Calls Try.prog 31 #[.pointer (some ⟨g, 0, none⟩)] wr fun e w' => ∃ gi, e = .returned (.slice (some ⟨gi, 0, none⟩) 25600 25600) ∧ ISt w w' g l R gi := by
  obtain ⟨F, hlv, ht⟩ := h
  have hl := flat_len hlv.d.ok.len
  rw [oS_len] at hl
  refine (image_any hlv.d).mono ?_
  rintro e w' ⟨gi, a, hb, hlt, hbel⟩
  rw [hl] at a
  refine ⟨gi, a, F, hlv.below hbel, ht, hb, fun hf => ?_, fun e => ?_⟩
  · have := hlv.d.foot _ hf; omega
  · have := hlv.lg.lt; omega
theorem ist_switch (h : ISt w wr g l R gi) (A : Option Addr) (c : Nat) (xs : List Sl) (hr : Rd w w.heap.size A xs.length (vals xs)) (hs : SlsIn w w.heap.size xs) (hln : xs.length ≤ 100000) :
    Calls Try.prog 21 #[.pointer (some ⟨l, 0, none⟩), .slice A xs.length c] wr fun e w' => (∃ q : Int, q ≠ 0 ∧ e = .returned (.int .i64 q) ∧ Below w.heap.size w w') ∨ (e = .returned (.int .i64 0) ∧ (∀ x ∈ xs, x.n ≤ 4096) ∧ DSt w w' g R (lists xs) gi) := by
  obtain ⟨F, hlv, ht, hbi, hnf, hne⟩ := h
  have hhf := oS_half R
  refine (switch_any hlv.d hlv.lg hlv.nf (by rw [oS_len]; omega) (.inl rfl) ⟨by omega, by omega⟩ ⟨by omega, by omega⟩ w.heap.size A c xs (hr.below hlv.b (Nat.le_refl _)) (hs.below hlv.b (Nat.le_refl _)) hlv.b.size (fun k hk => hk.elim (hlv.lo k) fun e => by rw [e]; exact hlv.lol) hln (by show 0 + 40000 < 1000000; omega)).mono ?_
  rintro e w' (⟨_, a, p, rfl⟩ | ⟨_, _, a, p, rfl⟩ | ⟨hall, hnfull, a, hd, hl, hc⟩)
  · exact .inl ⟨41, by omega, a, (hlv.drewN p).b⟩
  · exact .inl ⟨36, by omega, a, (hlv.drewN p).b⟩
  · refine .inr ⟨a, hall, _, by rw [← swS_sS]; exact hd, (hlv.step hd hl hc).b, ht, ?_, hbi.chg hc fun hf => hf.elim hnf hne, hlv.d.ok.len⟩
    unfold swFull at hnfull
    rw [hhf] at hnfull
    omega
theorem sS_len (R N : List (List Int)) : (sS R N).last.length = 400 := by
  unfold sS sC
  rw [List.length_set, lay_len]
  exact oS_len R
theorem dst_image (h : DSt w wr g R N gi) : Calls Try.prog 31 #[.pointer (some ⟨g, 0, none⟩)] wr fun e w' => ∃ gd, e = .returned (.slice (some ⟨gd, 0, none⟩) 25600 25600) ∧ ESt w w' R N gi gd ∧ gi ≠ gd := by
  obtain ⟨F, hd, hb, h1, h2, hbi, h64⟩ := h
  have hl := flat_len hd.ok.len
  rw [sS_len] at hl
  refine (image_any hd).mono ?_
  rintro e w' ⟨gd, a, hbd, hlt, hbel⟩
  rw [hl] at a
  exact ⟨gd, a, ⟨hb.trans (hbel.mono hb.size), h1, h2, hbi.below hbel hbi.lt, hbd, hd.ok.len, h64⟩, by have := hbi.lt; omega⟩
end
end Go.Proofs.Ytehghjakggdnpaa
