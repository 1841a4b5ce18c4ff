/-
  The contract of the document's own Read.
-/
import Derived.Test.YtkdcnkadngbccaaDoorRefM
import Derived.Test.YtkdcnkadngbccaaDoorVLaid
namespace Go.Proofs.YtkdcnkadngbccaaDoor
open Go.RowKit Go.Lib

set_option maxRecDepth 100000 in
set_option maxHeartbeats 6400000 in
theorem refRead_word (s : ByteArray) (w : World) (h : s = ⟨#[110, 117, 108, 108]⟩ ∨ s = ⟨#[102, 97, 108, 115, 101]⟩ ∨ s = ⟨#[116, 114, 117, 101]⟩) :
    Calls Tryd.prog 21 #[.string s] w (ReadRet (meantV s).k (meantV s).n (meantV s).s (readOk s) w) := by
  rcases h with h | h | h
  · have HC := Lib.hid (word_cand (v := ⟨0, 0, ⟨#[]⟩⟩) ⟨⟨by decide, by decide⟩, ⟨by decide, by decide⟩, Nat.zero_le _⟩ rfl (h.trans (by decide +kernel)))
    have HR := Lib.hid (show readOk s = true by rw [← HC.out.1, decide_eq_true_eq, h]; decide +kernel)
    have hb1 := ((Below.refl w.heap.size w).alloc (Nat.le_refl _) (.cells #[.int .i64 0, .int .i64 0, .string ⟨#[]⟩] 23))
    have HB := Lib.hid hb1
    clear hb1
    subst h
    go_enter Tryd.func21, Tryd.ntmps21
    go_wp2
    refine bodyPost_ret (by rw [results_cell_tmp rfl]; go_simp; exact rfl) rfl ?_
    exact ⟨HB.out, by rw [HR.out, HC.out.2 HR.out]; rfl⟩
  · subst h
    go_enter Tryd.func21, Tryd.ntmps21
    go_wp2_with fail
    have hz1 := (Blk.new w 23 #[.int .i64 0, .int .i64 0, .string ⟨#[]⟩]).alloc (.cells #[.int .i64 2, .int .i64 0, .string ⟨#[]⟩] 23)
    have hk1 := Blk.new (w.alloc (.cells #[.int .i64 0, .int .i64 0, .string ⟨#[]⟩] 23)) 23 #[.int .i64 2, .int .i64 0, .string ⟨#[]⟩]
    rw [show (w.alloc (.cells #[.int .i64 0, .int .i64 0, .string ⟨#[]⟩] 23)).heap.size = w.heap.size + 1 by simp] at hk1
    have hb1 := ((Below.refl w.heap.size w).alloc (Nat.le_refl _) (.cells #[.int .i64 0, .int .i64 0, .string ⟨#[]⟩] 23)).alloc (by simp) (.cells #[.int .i64 2, .int .i64 0, .string ⟨#[]⟩] 23)
    obtain ⟨W, hW⟩ : ∃ W, W = (w.alloc (.cells #[.int .i64 0, .int .i64 0, .string ⟨#[]⟩] 23)).alloc (.cells #[.int .i64 2, .int .i64 0, .string ⟨#[]⟩] 23) := ⟨_, rfl⟩
    rw [← hW] at hz1 hk1 hb1 ⊢
    clear hW
    obtain ⟨T, hT⟩ : ∃ T, showVa ⟨2, 0, ⟨#[]⟩⟩ = T := ⟨_, rfl⟩
    have HC := Lib.hid (word_cand (s := ⟨#[102, 97, 108, 115, 101]⟩) (v := ⟨2, 0, ⟨#[]⟩⟩) ⟨⟨by decide, by decide⟩, ⟨by decide, by decide⟩, Nat.zero_le _⟩ rfl (by decide +kernel))
    rw [hT] at HC
    refine (refShow_any ⟨2, 0, ⟨#[]⟩⟩ _ (by decide) (by decide)).mono ?_
    rw [hT]
    rintro e w2 ⟨rfl, hb2⟩
    have HZ := Lib.hid (hz1.below hb2 hz1.lt)
    have HK := Lib.hid (hk1.below hb2 hk1.lt)
    have HB := Lib.hid (hb1.trans (hb2.mono hb1.size))
    clear hT hz1 hk1 hb1 hb2
    have hse := str_eq T ⟨#[102, 97, 108, 115, 101]⟩
    rw [ByteArray.toList_eq ⟨#[102, 97, 108, 115, 101]⟩] at hse
    have c0 := HK.out.cell 0
    have c1 := HK.out.cell 1
    have c2 := HK.out.cell 2
    have z0 := HZ.out.cell 0
    have z1 := HZ.out.cell 1
    have z2 := HZ.out.cell 2
    simp only [List.getElem?_toArray, List.getElem?_cons_zero, List.getElem?_cons_succ] at z0 z1 z2 c0 c1 c2
    have y0 := HZ.out.frozen 0
    have y1 := HZ.out.frozen 1
    have y2 := HZ.out.frozen 2
    by_cases hr : readOk ⟨#[102, 97, 108, 115, 101]⟩ = true
    · rw [HC.out.1, hr] at hse
      have HR := Lib.hid (And.intro hr (HC.out.2 hr))
      have HF := Lib.hid (((HZ.out.put 0 (.int .i64 2)).put 1 (.int .i64 0)).put 2 (.string ⟨#[]⟩))
      have HBF := Lib.hid (((HB.out.setCell (p := ⟨w.heap.size, 0, none⟩) (Nat.le_refl _) (.int .i64 2)).setCell (p := ⟨w.heap.size, 1, none⟩) (Nat.le_refl _) (.int .i64 0)).setCell (p := ⟨w.heap.size, 2, none⟩) (Nat.le_refl _) (.string ⟨#[]⟩))
      clear hr
      go_wp2
      have f0 := HF.out.cell 0
      have f1 := HF.out.cell 1
      have f2 := HF.out.cell 2
      simp at f0 f1 f2
      refine bodyPost_ret (by rw [results_cell_tmp rfl]; go_simp; exact rfl) rfl ?_
      exact ⟨HBF.out, by rw [HR.out.1, HR.out.2]; rfl⟩
    · have hr' : readOk ⟨#[102, 97, 108, 115, 101]⟩ = false := by simpa using hr
      rw [HC.out.1, hr'] at hse
      have HR := Lib.hid hr'
      have HF := Lib.hid (((HZ.out.put 0 (.int .i64 0)).put 1 (.int .i64 0)).put 2 (.string ⟨#[]⟩))
      have HBF := Lib.hid (((HB.out.setCell (p := ⟨w.heap.size, 0, none⟩) (Nat.le_refl _) (.int .i64 0)).setCell (p := ⟨w.heap.size, 1, none⟩) (Nat.le_refl _) (.int .i64 0)).setCell (p := ⟨w.heap.size, 2, none⟩) (Nat.le_refl _) (.string ⟨#[]⟩))
      clear hr hr'
      go_wp2
      have f0 := HF.out.cell 0
      have f1 := HF.out.cell 1
      have f2 := HF.out.cell 2
      simp at f0 f1 f2
      refine bodyPost_ret (by rw [results_cell_tmp rfl]; go_simp; exact rfl) rfl ?_
      exact ⟨HBF.out, by rw [HR.out]; rfl⟩
  · subst h
    go_enter Tryd.func21, Tryd.ntmps21
    go_wp2_with fail
    have hz1 := (Blk.new w 23 #[.int .i64 0, .int .i64 0, .string ⟨#[]⟩]).alloc (.cells #[.int .i64 2, .int .i64 1, .string ⟨#[]⟩] 23)
    have hk1 := Blk.new (w.alloc (.cells #[.int .i64 0, .int .i64 0, .string ⟨#[]⟩] 23)) 23 #[.int .i64 2, .int .i64 1, .string ⟨#[]⟩]
    rw [show (w.alloc (.cells #[.int .i64 0, .int .i64 0, .string ⟨#[]⟩] 23)).heap.size = w.heap.size + 1 by simp] at hk1
    have hb1 := ((Below.refl w.heap.size w).alloc (Nat.le_refl _) (.cells #[.int .i64 0, .int .i64 0, .string ⟨#[]⟩] 23)).alloc (by simp) (.cells #[.int .i64 2, .int .i64 1, .string ⟨#[]⟩] 23)
    obtain ⟨W, hW⟩ : ∃ W, W = (w.alloc (.cells #[.int .i64 0, .int .i64 0, .string ⟨#[]⟩] 23)).alloc (.cells #[.int .i64 2, .int .i64 1, .string ⟨#[]⟩] 23) := ⟨_, rfl⟩
    rw [← hW] at hz1 hk1 hb1 ⊢
    clear hW
    obtain ⟨T, hT⟩ : ∃ T, showVa ⟨2, 1, ⟨#[]⟩⟩ = T := ⟨_, rfl⟩
    have HC := Lib.hid (word_cand (s := ⟨#[116, 114, 117, 101]⟩) (v := ⟨2, 1, ⟨#[]⟩⟩) ⟨⟨by decide, by decide⟩, ⟨by decide, by decide⟩, Nat.zero_le _⟩ rfl (by decide +kernel))
    rw [hT] at HC
    refine (refShow_any ⟨2, 1, ⟨#[]⟩⟩ _ (by decide) (by decide)).mono ?_
    rw [hT]
    rintro e w2 ⟨rfl, hb2⟩
    have HZ := Lib.hid (hz1.below hb2 hz1.lt)
    have HK := Lib.hid (hk1.below hb2 hk1.lt)
    have HB := Lib.hid (hb1.trans (hb2.mono hb1.size))
    clear hT hz1 hk1 hb1 hb2
    have hse := str_eq T ⟨#[116, 114, 117, 101]⟩
    rw [ByteArray.toList_eq ⟨#[116, 114, 117, 101]⟩] at hse
    have c0 := HK.out.cell 0
    have c1 := HK.out.cell 1
    have c2 := HK.out.cell 2
    have z0 := HZ.out.cell 0
    have z1 := HZ.out.cell 1
    have z2 := HZ.out.cell 2
    simp only [List.getElem?_toArray, List.getElem?_cons_zero, List.getElem?_cons_succ] at z0 z1 z2 c0 c1 c2
    have y0 := HZ.out.frozen 0
    have y1 := HZ.out.frozen 1
    have y2 := HZ.out.frozen 2
    by_cases hr : readOk ⟨#[116, 114, 117, 101]⟩ = true
    · rw [HC.out.1, hr] at hse
      have HR := Lib.hid (And.intro hr (HC.out.2 hr))
      have HF := Lib.hid (((HZ.out.put 0 (.int .i64 2)).put 1 (.int .i64 1)).put 2 (.string ⟨#[]⟩))
      have HBF := Lib.hid (((HB.out.setCell (p := ⟨w.heap.size, 0, none⟩) (Nat.le_refl _) (.int .i64 2)).setCell (p := ⟨w.heap.size, 1, none⟩) (Nat.le_refl _) (.int .i64 1)).setCell (p := ⟨w.heap.size, 2, none⟩) (Nat.le_refl _) (.string ⟨#[]⟩))
      clear hr
      go_wp2
      have f0 := HF.out.cell 0
      have f1 := HF.out.cell 1
      have f2 := HF.out.cell 2
      simp at f0 f1 f2
      refine bodyPost_ret (by rw [results_cell_tmp rfl]; go_simp; exact rfl) rfl ?_
      exact ⟨HBF.out, by rw [HR.out.1, HR.out.2]; rfl⟩
    · have hr' : readOk ⟨#[116, 114, 117, 101]⟩ = false := by simpa using hr
      rw [HC.out.1, hr'] at hse
      have HR := Lib.hid hr'
      have HF := Lib.hid (((HZ.out.put 0 (.int .i64 0)).put 1 (.int .i64 0)).put 2 (.string ⟨#[]⟩))
      have HBF := Lib.hid (((HB.out.setCell (p := ⟨w.heap.size, 0, none⟩) (Nat.le_refl _) (.int .i64 0)).setCell (p := ⟨w.heap.size, 1, none⟩) (Nat.le_refl _) (.int .i64 0)).setCell (p := ⟨w.heap.size, 2, none⟩) (Nat.le_refl _) (.string ⟨#[]⟩))
      clear hr hr'
      go_wp2
      have f0 := HF.out.cell 0
      have f1 := HF.out.cell 1
      have f2 := HF.out.cell 2
      simp at f0 f1 f2
      refine bodyPost_ret (by rw [results_cell_tmp rfl]; go_simp; exact rfl) rfl ?_
      exact ⟨HBF.out, by rw [HR.out]; rfl⟩

theorem str_no {s : ByteArray} {l : Array UInt8} {m : List UInt8} (h : s ≠ ⟨l⟩) (hm : (⟨l⟩ : ByteArray).toList = m) : (s.toList == m) = false := by
  rw [← hm, str_eq, decide_eq_false h]

set_option maxRecDepth 100000 in
set_option maxHeartbeats 6400000 in
theorem refRead_plain (s : ByteArray) (w : World) (hs : s.size ≤ 1000) (n1 : s ≠ ⟨#[110, 117, 108, 108]⟩) (n2 : s ≠ ⟨#[102, 97, 108, 115, 101]⟩) (n3 : s ≠ ⟨#[116, 114, 117, 101]⟩)
    (hq : ¬ (2 ≤ s.size ∧ (bytes s).head? = some 34 ∧ (bytes s).getLast? = some 34)) :
    Calls Tryd.prog 21 #[.string s] w (ReadRet (meantV s).k (meantV s).n (meantV s).s (readOk s) w) := by
  have en1 := str_no (m := [110, 117, 108, 108]) n1 (by rw [ByteArray.toList_eq])
  have en2 := str_no (m := [102, 97, 108, 115, 101]) n2 (by rw [ByteArray.toList_eq])
  have en3 := str_no (m := [116, 114, 117, 101]) n3 (by rw [ByteArray.toList_eq])
  have HNN := Lib.hid (And.intro n1 (And.intro n2 n3))
  clear n1 n2 n3
  rcases Nat.eq_zero_or_pos s.size with h0 | h0
  · have hz : s = ⟨#[]⟩ := by obtain ⟨d⟩ := s; congr; exact Array.eq_empty_of_size_eq_zero h0
    subst hz
    have HN := Lib.hid (none_ok HNN.out.1 HNN.out.2.1 HNN.out.2.2 hq (fun h => absurd h.1 (by decide)))
    have HQ := Lib.hid hq
    clear hq h0 hs en1 en2 en3
    go_enter Tryd.func21, Tryd.ntmps21
    go_wp2_with fail
    have hz1 := (Blk.new w 23 #[.int .i64 0, .int .i64 0, .string ⟨#[]⟩]).alloc (.cells #[.int .i64 3, .int .i64 0, .string ⟨#[]⟩] 23)
    have hk1 := Blk.new (w.alloc (.cells #[.int .i64 0, .int .i64 0, .string ⟨#[]⟩] 23)) 23 #[.int .i64 3, .int .i64 0, .string ⟨#[]⟩]
    rw [show (w.alloc (.cells #[.int .i64 0, .int .i64 0, .string ⟨#[]⟩] 23)).heap.size = w.heap.size + 1 by simp] at hk1
    have hb1 := ((Below.refl w.heap.size w).alloc (Nat.le_refl _) (.cells #[.int .i64 0, .int .i64 0, .string ⟨#[]⟩] 23)).alloc (by simp) (.cells #[.int .i64 3, .int .i64 0, .string ⟨#[]⟩] 23)
    obtain ⟨W, hW⟩ : ∃ W, W = (w.alloc (.cells #[.int .i64 0, .int .i64 0, .string ⟨#[]⟩] 23)).alloc (.cells #[.int .i64 3, .int .i64 0, .string ⟨#[]⟩] 23) := ⟨_, rfl⟩
    rw [← hW] at hz1 hk1 hb1 ⊢
    clear hW
    obtain ⟨T, hT⟩ : ∃ T, showVa ⟨3, 0, ⟨#[]⟩⟩ = T := ⟨_, rfl⟩
    have HC := Lib.hid (none_cand HN.out HQ.out)
    rw [hT] at HC
    refine (refShow_any ⟨3, 0, ⟨#[]⟩⟩ _ (by decide) (by decide)).mono ?_
    rw [hT]
    rintro e w2 ⟨rfl, hb2⟩
    have HZ := Lib.hid (hz1.below hb2 hz1.lt)
    have HK := Lib.hid (hk1.below hb2 hk1.lt)
    have HB := Lib.hid (hb1.trans (hb2.mono hb1.size))
    clear hT hz1 hk1 hb1 hb2
    have hse := str_nil T
    have c0 := HK.out.cell 0
    have c1 := HK.out.cell 1
    have c2 := HK.out.cell 2
    have z0 := HZ.out.cell 0
    have z1 := HZ.out.cell 1
    have z2 := HZ.out.cell 2
    simp only [List.getElem?_toArray, List.getElem?_cons_zero, List.getElem?_cons_succ] at z0 z1 z2 c0 c1 c2
    have y0 := HZ.out.frozen 0
    have y1 := HZ.out.frozen 1
    have y2 := HZ.out.frozen 2
    by_cases hr : readOk ⟨#[]⟩ = true
    · rw [HC.out.1, hr] at hse
      have HR := Lib.hid (And.intro hr (HC.out.2 hr))
      have HF := Lib.hid (((HZ.out.put 0 (.int .i64 3)).put 1 (.int .i64 0)).put 2 (.string ⟨#[]⟩))
      have HBF := Lib.hid (((HB.out.setCell (p := ⟨w.heap.size, 0, none⟩) (Nat.le_refl _) (.int .i64 3)).setCell (p := ⟨w.heap.size, 1, none⟩) (Nat.le_refl _) (.int .i64 0)).setCell (p := ⟨w.heap.size, 2, none⟩) (Nat.le_refl _) (.string ⟨#[]⟩))
      clear hr
      go_wp2
      have f0 := HF.out.cell 0
      have f1 := HF.out.cell 1
      have f2 := HF.out.cell 2
      simp at f0 f1 f2
      refine bodyPost_ret (by rw [results_cell_tmp rfl]; go_simp; exact rfl) rfl ?_
      exact ⟨HBF.out, by rw [HR.out.1, HR.out.2]; rfl⟩
    · have hr' : readOk ⟨#[]⟩ = false := by simpa using hr
      rw [HC.out.1, hr'] at hse
      have HR := Lib.hid hr'
      have HF := Lib.hid (((HZ.out.put 0 (.int .i64 0)).put 1 (.int .i64 0)).put 2 (.string ⟨#[]⟩))
      have HBF := Lib.hid (((HB.out.setCell (p := ⟨w.heap.size, 0, none⟩) (Nat.le_refl _) (.int .i64 0)).setCell (p := ⟨w.heap.size, 1, none⟩) (Nat.le_refl _) (.int .i64 0)).setCell (p := ⟨w.heap.size, 2, none⟩) (Nat.le_refl _) (.string ⟨#[]⟩))
      clear hr hr'
      go_wp2
      have f0 := HF.out.cell 0
      have f1 := HF.out.cell 1
      have f2 := HF.out.cell 2
      simp at f0 f1 f2
      refine bodyPost_ret (by rw [results_cell_tmp rfl]; go_simp; exact rfl) rfl ?_
      exact ⟨HBF.out, by rw [HR.out]; rfl⟩
  · have hhd := bytes_head h0
    have hla := bytes_last h0
    obtain ⟨a, ha⟩ : ∃ a, a = (s[0]'h0).toNat := ⟨_, rfl⟩
    obtain ⟨b, hbb⟩ : ∃ b, b = (s[s.size - 1]'(by omega)).toNat := ⟨_, rfl⟩
    rw [← ha] at hhd
    rw [← hbb] at hla
    have ha' := ha.symm
    have hb' := hbb.symm
    clear ha hbb
    have hal : a < 256 := by rw [← ha']; exact UInt8.toNat_lt _
    have hpos : (0 : Int) < (s.size : Int) := by omega
    have hcq : ¬ (2 : Int) ≤ (s.size : Int) ∨ ((2 : Int) ≤ (s.size : Int) ∧ ((a : Int) == 34) = false) ∨ ((2 : Int) ≤ (s.size : Int) ∧ ((a : Int) == 34) = true ∧ a = 34 ∧ ((b : Int) == 34) = false) := by
      simp only [beq_eq_false_iff_ne, beq_iff_eq]
      by_cases g1 : 2 ≤ s.size
      · by_cases g2 : a = 34
        · by_cases g3 : b = 34
          · exact absurd ⟨g1, by rw [hhd, g2]; rfl, by rw [hla, g3]; rfl⟩ hq
          · exact .inr (.inr ⟨by omega, by omega, g2, by omega⟩)
        · exact .inr (.inl ⟨by omega, by omega⟩)
      · exact .inl (by omega)
    have hcn : (s.size ≤ 20 ∧ (s.size : Int) ≤ 20 ∧ ((a : Int) == 45) = true ∧ a ≠ 34) ∨ (s.size ≤ 20 ∧ (s.size : Int) ≤ 20 ∧ ((a : Int) == 45) = false ∧ (48 : Int) ≤ (a : Int) ∧ (a : Int) ≤ 57 ∧ a ≠ 34) ∨ (¬ (s.size : Int) ≤ 20 ∧ ¬ (s.size ≤ 20)) ∨
        ((s.size : Int) ≤ 20 ∧ ((a : Int) == 45) = false ∧ ¬ (48 : Int) ≤ (a : Int) ∧ a ≠ 45 ∧ a < 48) ∨ ((s.size : Int) ≤ 20 ∧ ((a : Int) == 45) = false ∧ (48 : Int) ≤ (a : Int) ∧ ¬ (a : Int) ≤ 57 ∧ a ≠ 45 ∧ 57 < a) := by
      simp only [beq_eq_false_iff_ne, beq_iff_eq]
      omega
    have HQ := Lib.hid (And.intro hq (And.intro hhd hal))
    clear hq hhd hla hal
    have hnn : s.size ≤ 20 → a ≠ 34 → (bytes s).head? ≠ some 34 := fun _ h e => by rw [HQ.out.2.1] at e; have := Option.some.inj e; omega
    have HNC := Lib.hid (fun (h1 : s.size ≤ 20) (h2 : a ≠ 34) => num_cand HNN.out.1 HNN.out.2.1 HNN.out.2.2 (hnn h1 h2))
    clear hnn
    obtain ⟨N, hN⟩ : ∃ N, numV s = N := ⟨_, rfl⟩
    have hNb : -9223372036854775808 ≤ N ∧ N ≤ 9223372036854775807 := by
      rw [← hN]
      unfold numV
      split
      · exact numM_bd _ 0 (by omega)
      · rw [IntWalk.i64_left]; unfold Go.RowKit.wrap64; omega
    have HNB := Lib.hid (And.intro hNb hN)
    clear hNb hN
    rcases hcn with ⟨g1, g1i, g2, g3⟩ | ⟨g1, g1i, g2, g3, g4, g5⟩ | ⟨g1i, g1⟩ | ⟨g1i, g2, g3, g4, g5⟩ | ⟨g1i, g2, g3, g3b, g4, g5⟩
    iterate 2
      rcases hcq with g6 | ⟨g6, g7⟩ | ⟨g6, g7, g8, g9⟩
      iterate 2
        · have HCN := Lib.hid (HNC.out g1 ‹a ≠ 34›)
          rw [HNB.out.2] at HCN
          go_enter Tryd.func21, Tryd.ntmps21
          go_wp2_with fail
          refine (refNumber_any s _ h0 (by omega)).mono ?_
          rw [HNB.out.2]
          rintro e w1 ⟨rfl, rfl⟩
          go_wp2_with fail
          have hz1 := (Blk.new w 23 #[.int .i64 0, .int .i64 0, .string ⟨#[]⟩]).alloc (.cells #[.int .i64 1, .int .i64 N, .string ⟨#[]⟩] 23)
          have hk1 := Blk.new (w.alloc (.cells #[.int .i64 0, .int .i64 0, .string ⟨#[]⟩] 23)) 23 #[.int .i64 1, .int .i64 N, .string ⟨#[]⟩]
          rw [show (w.alloc (.cells #[.int .i64 0, .int .i64 0, .string ⟨#[]⟩] 23)).heap.size = w.heap.size + 1 by simp] at hk1
          have hb1 := ((Below.refl w.heap.size w).alloc (Nat.le_refl _) (.cells #[.int .i64 0, .int .i64 0, .string ⟨#[]⟩] 23)).alloc (by simp) (.cells #[.int .i64 1, .int .i64 N, .string ⟨#[]⟩] 23)
          obtain ⟨W, hW⟩ : ∃ W, W = (w.alloc (.cells #[.int .i64 0, .int .i64 0, .string ⟨#[]⟩] 23)).alloc (.cells #[.int .i64 1, .int .i64 N, .string ⟨#[]⟩] 23) := ⟨_, rfl⟩
          rw [← hW] at hz1 hk1 hb1 ⊢
          clear hW
          obtain ⟨T, hT⟩ : ∃ T, showVa ⟨1, N, ⟨#[]⟩⟩ = T := ⟨_, rfl⟩
          have HC := Lib.hid (HCN.out)
          rw [hT] at HC
          refine (refShow_any ⟨1, N, ⟨#[]⟩⟩ _ HNB.out.1.1 HNB.out.1.2).mono ?_
          rw [hT]
          rintro e w2 ⟨rfl, hb2⟩
          have HZ := Lib.hid (hz1.below hb2 hz1.lt)
          have HK := Lib.hid (hk1.below hb2 hk1.lt)
          have HB := Lib.hid (hb1.trans (hb2.mono hb1.size))
          clear hT hz1 hk1 hb1 hb2
          have hse := str_eq T s
          have c0 := HK.out.cell 0
          have c1 := HK.out.cell 1
          have c2 := HK.out.cell 2
          have z0 := HZ.out.cell 0
          have z1 := HZ.out.cell 1
          have z2 := HZ.out.cell 2
          simp only [List.getElem?_toArray, List.getElem?_cons_zero, List.getElem?_cons_succ] at z0 z1 z2 c0 c1 c2
          have y0 := HZ.out.frozen 0
          have y1 := HZ.out.frozen 1
          have y2 := HZ.out.frozen 2
          by_cases hr : readOk s = true
          · rw [HC.out.1, hr] at hse
            have HR := Lib.hid (And.intro hr (HC.out.2 hr))
            have HF := Lib.hid (((HZ.out.put 0 (.int .i64 1)).put 1 (.int .i64 N)).put 2 (.string ⟨#[]⟩))
            have HBF := Lib.hid (((HB.out.setCell (p := ⟨w.heap.size, 0, none⟩) (Nat.le_refl _) (.int .i64 1)).setCell (p := ⟨w.heap.size, 1, none⟩) (Nat.le_refl _) (.int .i64 N)).setCell (p := ⟨w.heap.size, 2, none⟩) (Nat.le_refl _) (.string ⟨#[]⟩))
            clear hr
            go_wp2
            have f0 := HF.out.cell 0
            have f1 := HF.out.cell 1
            have f2 := HF.out.cell 2
            simp at f0 f1 f2
            refine bodyPost_ret (by rw [results_cell_tmp rfl]; go_simp; exact rfl) rfl ?_
            exact ⟨HBF.out, by rw [HR.out.1, HR.out.2]; rfl⟩
          · have hr' : readOk s = false := by simpa using hr
            rw [HC.out.1, hr'] at hse
            have HR := Lib.hid hr'
            have HF := Lib.hid (((HZ.out.put 0 (.int .i64 0)).put 1 (.int .i64 0)).put 2 (.string ⟨#[]⟩))
            have HBF := Lib.hid (((HB.out.setCell (p := ⟨w.heap.size, 0, none⟩) (Nat.le_refl _) (.int .i64 0)).setCell (p := ⟨w.heap.size, 1, none⟩) (Nat.le_refl _) (.int .i64 0)).setCell (p := ⟨w.heap.size, 2, none⟩) (Nat.le_refl _) (.string ⟨#[]⟩))
            clear hr hr'
            go_wp2
            have f0 := HF.out.cell 0
            have f1 := HF.out.cell 1
            have f2 := HF.out.cell 2
            simp at f0 f1 f2
            refine bodyPost_ret (by rw [results_cell_tmp rfl]; go_simp; exact rfl) rfl ?_
            exact ⟨HBF.out, by rw [HR.out]; rfl⟩
      · exact absurd g8 (by assumption)
    all_goals rcases hcq with g6 | ⟨g6, g7⟩ | ⟨g6, g7, g8, g9⟩
    all_goals try (exfalso; omega)
    all_goals
      have HN := Lib.hid (none_cand (none_ok HNN.out.1 HNN.out.2.1 HNN.out.2.2 HQ.out.1 (by rintro ⟨_, k1, x, k2, k3⟩; rw [HQ.out.2.1] at k2; have := Option.some.inj k2; omega)) HQ.out.1)
      go_enter Tryd.func21, Tryd.ntmps21
      go_wp2_with fail
      have hz1 := (Blk.new w 23 #[.int .i64 0, .int .i64 0, .string ⟨#[]⟩]).alloc (.cells #[.int .i64 3, .int .i64 0, .string ⟨#[]⟩] 23)
      have hk1 := Blk.new (w.alloc (.cells #[.int .i64 0, .int .i64 0, .string ⟨#[]⟩] 23)) 23 #[.int .i64 3, .int .i64 0, .string ⟨#[]⟩]
      rw [show (w.alloc (.cells #[.int .i64 0, .int .i64 0, .string ⟨#[]⟩] 23)).heap.size = w.heap.size + 1 by simp] at hk1
      have hb1 := ((Below.refl w.heap.size w).alloc (Nat.le_refl _) (.cells #[.int .i64 0, .int .i64 0, .string ⟨#[]⟩] 23)).alloc (by simp) (.cells #[.int .i64 3, .int .i64 0, .string ⟨#[]⟩] 23)
      obtain ⟨W, hW⟩ : ∃ W, W = (w.alloc (.cells #[.int .i64 0, .int .i64 0, .string ⟨#[]⟩] 23)).alloc (.cells #[.int .i64 3, .int .i64 0, .string ⟨#[]⟩] 23) := ⟨_, rfl⟩
      rw [← hW] at hz1 hk1 hb1 ⊢
      clear hW
      obtain ⟨T, hT⟩ : ∃ T, showVa ⟨3, 0, ⟨#[]⟩⟩ = T := ⟨_, rfl⟩
      have HC := Lib.hid (HN.out)
      rw [hT] at HC
      refine (refShow_any ⟨3, 0, ⟨#[]⟩⟩ _ (by decide) (by decide)).mono ?_
      rw [hT]
      rintro e w2 ⟨rfl, hb2⟩
      have HZ := Lib.hid (hz1.below hb2 hz1.lt)
      have HK := Lib.hid (hk1.below hb2 hk1.lt)
      have HB := Lib.hid (hb1.trans (hb2.mono hb1.size))
      clear hT hz1 hk1 hb1 hb2
      have hse := str_eq T s
      have c0 := HK.out.cell 0
      have c1 := HK.out.cell 1
      have c2 := HK.out.cell 2
      have z0 := HZ.out.cell 0
      have z1 := HZ.out.cell 1
      have z2 := HZ.out.cell 2
      simp only [List.getElem?_toArray, List.getElem?_cons_zero, List.getElem?_cons_succ] at z0 z1 z2 c0 c1 c2
      have y0 := HZ.out.frozen 0
      have y1 := HZ.out.frozen 1
      have y2 := HZ.out.frozen 2
      by_cases hr : readOk s = true
      · rw [HC.out.1, hr] at hse
        have HR := Lib.hid (And.intro hr (HC.out.2 hr))
        have HF := Lib.hid (((HZ.out.put 0 (.int .i64 3)).put 1 (.int .i64 0)).put 2 (.string ⟨#[]⟩))
        have HBF := Lib.hid (((HB.out.setCell (p := ⟨w.heap.size, 0, none⟩) (Nat.le_refl _) (.int .i64 3)).setCell (p := ⟨w.heap.size, 1, none⟩) (Nat.le_refl _) (.int .i64 0)).setCell (p := ⟨w.heap.size, 2, none⟩) (Nat.le_refl _) (.string ⟨#[]⟩))
        clear hr
        go_wp2
        have f0 := HF.out.cell 0
        have f1 := HF.out.cell 1
        have f2 := HF.out.cell 2
        simp at f0 f1 f2
        refine bodyPost_ret (by rw [results_cell_tmp rfl]; go_simp; exact rfl) rfl ?_
        exact ⟨HBF.out, by rw [HR.out.1, HR.out.2]; rfl⟩
      · have hr' : readOk s = false := by simpa using hr
        rw [HC.out.1, hr'] at hse
        have HR := Lib.hid hr'
        have HF := Lib.hid (((HZ.out.put 0 (.int .i64 0)).put 1 (.int .i64 0)).put 2 (.string ⟨#[]⟩))
        have HBF := Lib.hid (((HB.out.setCell (p := ⟨w.heap.size, 0, none⟩) (Nat.le_refl _) (.int .i64 0)).setCell (p := ⟨w.heap.size, 1, none⟩) (Nat.le_refl _) (.int .i64 0)).setCell (p := ⟨w.heap.size, 2, none⟩) (Nat.le_refl _) (.string ⟨#[]⟩))
        clear hr hr'
        go_wp2
        have f0 := HF.out.cell 0
        have f1 := HF.out.cell 1
        have f2 := HF.out.cell 2
        simp at f0 f1 f2
        refine bodyPost_ret (by rw [results_cell_tmp rfl]; go_simp; exact rfl) rfl ?_
        exact ⟨HBF.out, by rw [HR.out]; rfl⟩
end Go.Proofs.YtkdcnkadngbccaaDoor
