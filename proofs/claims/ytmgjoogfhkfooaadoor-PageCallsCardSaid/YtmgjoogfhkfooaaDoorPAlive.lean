/-
  alive: what the document fixes: it answers true. What an own page is, call by call.
-/
import Derived.Test.YtmgjoogfhkfooaaDoorPLift
import Derived.Lib.SlBytesConst
namespace Go.Proofs.YtmgjoogfhkfooaaDoor
open Go.RowKit Go.Lib

/-- it answers true, and nothing that was there has turned -/
def YesB (w : World) (e : Ending) (w' : World) : Prop := e = .returned (.bool true) ∧ Below w.heap.size w w'

theorem pg_zeros : IsPg zeros [] := ⟨Fit.nil, .nil, by decide +kernel⟩
theorem put_pg {p q b : List Int} {s : List Slot} {k : Int} (hp : IsPg p s) (hb : IsBytes b) (h : putP (some s) k b = some q) : 0 ≤ k ∧ k ≤ 250 ∧ (b.length : Int) ≤ roomP s k.toNat ∧ q = imgP (setP s k.toNat (some b)) ∧ IsPg q (setP s k.toNat (some b)) := by
  simp only [putP] at h
  split at h
  · rename_i hr
    have hk : 0 ≤ k ∧ k ≤ 250 := by
      by_cases hk : k < 0 ∨ 250 < k
      · rw [roomI, if_pos hk] at hr; omega
      · omega
    rw [roomI, if_neg (by omega)] at hr
    have e := (Option.some.inj h).symm
    exact ⟨hk.1, hk.2, hr, e, set_fit hp.fit hb hr, set_trim hp.trim, e⟩
  · cases h
theorem Sl.of_blk {w : World} {g : Nat} {l : List Int} (h : Blk w g 5 (cells l).toArray) (hb : IsBytes l) (hl : l.length = 256) : Sl w (some ⟨g, 0, none⟩) 256 256 l := by
  have hown := own_blk (base := 0) h (Nat.zero_le _) (by rw [hl]; simp [maxLen])
  rw [hl] at hown
  exact ⟨Rd.of_own hown, hb, Nat.le_refl _, by simp [maxLen], fun _ => ⟨g, rfl⟩⟩

def alA : List Slot := [some [97, 98]]
def alB : List Slot := [some [97, 98], some [99]]
theorem fitB {s : List Slot} (h1 : (s.all fun o => (bsS o).all fun x => decide (0 ≤ x ∧ x < 256)) = true) (h2 : (s.all fun o => decide ((bsS o).length ≤ 200)) = true) (h3 : 1 + s.length + wtP s ≤ 256) : Fit s := by
  refine ⟨fun o ho x hx => ?_, fun o ho => ?_, h3⟩
  · have := List.all_eq_true.1 (List.all_eq_true.1 h1 o ho) x hx
    simpa using this
  · have := List.all_eq_true.1 h2 o ho
    simpa using this
theorem pg_alA : IsPg (imgP alA) alA := ⟨fitB (by decide) (by decide) (by decide), by unfold TrimP alA; decide, rfl⟩
theorem pg_alB : IsPg (imgP alB) alB := ⟨fitB (by decide) (by decide) (by decide), by unfold TrimP alB; decide, rfl⟩
theorem al_add1 : addP (ofP zeros) [97, 98] = some (imgP alA) ∧ addK (ofP zeros) [97, 98] = 0 := by
  rw [ofP_pg pg_zeros]
  constructor <;> decide +kernel
theorem al_add2 : addP (ofP (imgP alA)) [99] = some (imgP alB) ∧ addK (ofP (imgP alA)) [99] = 1 := by
  rw [ofP_pg pg_alA]
  constructor <;> decide +kernel
theorem alB_take : (imgP alB).take 4 = [2, 3, 2, 0] := by decide +kernel
theorem alB_drop : (imgP alB).drop 253 = [99, 97, 98] := by decide +kernel

theorem conv_bytes (w : World) (xs : List Int) (n : Nat) (hn : n = xs.length) (h : n < 100) : (convert 22 22 (.slice (some ⟨w.heap.size, 0, none⟩) n n)).run Tryd.prog (w.alloc (.cells (cells xs).toArray 5)) = .ok (.slice (some ⟨w.heap.size, 0, none⟩) n n) (w.alloc (.cells (cells xs).toArray 5 (n, n + 1))) := by
  subst hn
  have h := run_convert_bytes_const (P := Tryd.prog) w 22 5 (cells xs).toArray xs.length xs.length Tryd.underlying22 Tryd.underlying5
  have e : (cells xs).toArray.size = xs.length := by simp [cells]
  first | exact h | (rw [e] at h; exact h) | (simp only [e] at h; exact h)
theorem rd_lit (w : World) (xs : List Int) (fr : Nat × Nat) (h0 : 0 < xs.length) : Rd (w.alloc (.cells (cells xs).toArray 5 fr)) (w.alloc (.cells (cells xs).toArray 5 fr)).heap.size (some ⟨w.heap.size, 0, none⟩) xs.length (cells xs) := by
  refine ⟨by simp [cells], fun _ => ⟨_, rfl, by simp, fun j u hu => ?_⟩⟩
  rw [Addr.add_mid, Nat.zero_add]
  have h := cell_of_row (w.alloc (.cells (cells xs).toArray 5 fr)) w.heap.size j (cells xs).toArray 5 fr (heap_alloc_new w _)
  rw [h]
  simpa using hu

set_option maxRecDepth 100000 in
set_option maxHeartbeats 3200000 in
theorem alive_any (w : World) : Calls Tryd.prog 8 #[] w (YesB w) := by
  have hcv1 : ∀ w : World, (convert 22 22 (.slice (some ⟨w.heap.size, 0, none⟩) 2 2)).run Tryd.prog (w.alloc (.cells #[.int .u8 97, .int .u8 98] 5)) = .ok (.slice (some ⟨w.heap.size, 0, none⟩) 2 2) (w.alloc (.cells #[.int .u8 97, .int .u8 98] 5 (2, 3))) := fun w => conv_bytes w [97, 98] 2 rfl (by omega)
  have hcv2 : ∀ w : World, (convert 22 22 (.slice (some ⟨w.heap.size, 0, none⟩) 1 1)).run Tryd.prog (w.alloc (.cells #[.int .u8 99] 5)) = .ok (.slice (some ⟨w.heap.size, 0, none⟩) 1 1) (w.alloc (.cells #[.int .u8 99] 5 (1, 2))) := fun w => conv_bytes w [99] 1 rfl (by omega)
  go_enter Tryd.func8, Tryd.ntmps8
  go_wp2_with fail
  refine (new_any w).mono ?_
  rintro e w1 ⟨g, rfl, hk, hg, hb⟩
  have hS := Sl.of_blk hk (pg_zeros.bytes) zeros_len
  have HB := Lib.hid hb
  have hba := (Below.refl w1.heap.size w1).alloc (Nat.le_refl _) (.cells #[.int .u8 97, .int .u8 98] 5 (2, 3))
  have hS1 := hS.below hba
  have hrd := rd_lit w1 [97, 98] (2, 3) (by decide)
  have HADD := Lib.hid (add_any _ _ _ _ zeros hS1 _ 2 2 [97, 98] hrd (by unfold IsBytes; decide))
  rw [al_add1.1, al_add1.2] at HADD
  have HBA := Lib.hid hba
  clear hk hg hb hS hS1 hrd hba
  go_wp2_with fail
  refine HADD.out.mono ?_
  rintro e w2 ⟨v, rfl, hown, hb2⟩
  have hl1 : ((some (imgP alA)).getD []).length = 256 := by decide +kernel
  simp only [Option.getD_some] at hown
  obtain ⟨A2, c2, rfl, hS2⟩ := Sl.of_own hown pg_alA.bytes
  have hl1 : (imgP alA).length = 256 := by decide +kernel
  rw [hl1] at hS2
  have HB2 := Lib.hid (HB.out.trans ((HBA.out.trans (hb2.mono HBA.out.size)).mono HB.out.size))
  have hba := (Below.refl w2.heap.size w2).alloc (Nat.le_refl _) (.cells #[.int .u8 99] 5 (1, 2))
  have hS3 := hS2.below hba
  have hrd := rd_lit w2 [99] (1, 2) (by decide)
  have HADD2 := Lib.hid (add_any _ _ _ _ _ hS3 _ 1 1 [99] hrd (by unfold IsBytes; decide))
  rw [al_add2.1, al_add2.2] at HADD2
  have HBA2 := Lib.hid hba
  clear hown hb2 hS2 hS3 hrd hba HADD HBA
  rw [hl1]
  go_wp2_with fail
  refine HADD2.out.mono ?_
  rintro e w3 ⟨v, rfl, hown, hb3⟩
  simp only [Option.getD_some] at hown
  obtain ⟨A3, c3, rfl, hS3⟩ := Sl.of_own hown pg_alB.bytes
  have hl2 : (imgP alB).length = 256 := by decide +kernel
  rw [hl2] at hS3
  rw [hl2]
  have HB3 := Lib.hid (HB2.out.trans ((HBA2.out.trans (hb3.mono HBA2.out.size)).mono HB2.out.size))
  obtain ⟨g3, rfl⟩ := hS3.adr rfl
  have hc3 := hS3.cap
  have hct3 := hS3.top
  unfold maxLen at hct3
  have hba := (Below.refl w3.heap.size w3).alloc (Nat.le_refl _) (.cells #[.int .u8 2, .int .u8 3, .int .u8 2, .int .u8 0] 5)
  have hS4 := hS3.below hba
  have h4 := hS4.rd.cuth (k := 4) (by omega)
  rw [show (cells (imgP alB)).take 4 = cells [2, 3, 2, 0] by rw [← alB_take]; simp [cells]] at h4
  have HSB := Lib.hid (same_any _ _ 4 4 c3 4 [2, 3, 2, 0] [2, 3, 2, 0] _ h4 (rd_lit w3 [2, 3, 2, 0] (0, 0) (by decide)) (by omega))
  have HS4 := Lib.hid hS4
  have HBA3 := Lib.hid hba
  have hcc : ¬ c3 = 253 := by omega
  clear hown hb3 hS3 hS4 h4 hba HADD2 HBA2 hcv1 hcv2
  go_wp2_with fail
  refine HSB.out.mono ?_
  rintro e w5 ⟨rfl, hb5⟩
  have hS5 := HS4.out.below hb5
  have h5 := hS5.rd.cutl (k := 253) (cap := c3) (by omega) hc3
  rw [if_neg hcc, show (cells (imgP alB)).drop 253 = cells [99, 97, 98] by rw [← alB_drop]; simp [cells]] at h5
  have hstr := run_strw (P := Tryd.prog) w5 22 9 5 _ _ (c3 - 253) _ [99, 97, 98] Tryd.underlying22 Tryd.underlying5 Tryd.underlying9 h5
  rw [show mkStr [99, 97, 98] = ⟨#[99, 97, 98]⟩ from rfl] at hstr
  simp only [Option.map_some, Addr.add_lit, Nat.zero_add] at hstr
  have HB5 := Lib.hid (HB3.out.trans ((HBA3.out.trans (hb5.mono HBA3.out.size)).mono HB3.out.size))
  clear hS5 h5 hb5
  go_wp2_with fail
  go_ret
  exact ⟨rfl, HB5.out⟩
end Go.Proofs.YtmgjoogfhkfooaaDoor
