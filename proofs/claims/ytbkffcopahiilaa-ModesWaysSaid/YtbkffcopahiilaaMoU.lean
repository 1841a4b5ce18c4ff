/-
  The document's things: Above.
-/
import Derived.Test.YtbkffcopahiilaaMoT
import Derived.Deep.Cut
import Derived.Deep.RegionHeld3
namespace Go.Proofs.Ytbkffcopahiilaa
open Go.RowKit Go.Lib

/-- a list of things is answered -/
def AbRet (w : World) (l : List Th) (e : Ending) (w' : World) : Prop := ∃ A n c, e = .returned (.slice A n c) ∧ n = l.length ∧ n ≤ c ∧ RowG thC 3 w' w'.heap.size A l ∧ Below w.heap.size w w'
theorem Try.infoth : (Try.prog.info? 27).map (fun i => (i.zero, i.size, i.bytes)) = some (some (.agg #[.int .i64 0, .string ⟨#[]⟩, .string ⟨#[]⟩]), 3, 40) := by kernel_rfl
theorem AbRet.nil {w w' : World} (hb : Below w.heap.size w w') : AbRet w [] (.returned (.slice none 0 0)) w' := ⟨none, 0, 0, rfl, rfl, Nat.le_refl _, ⟨fun h => absurd h (by simp), fun i hi => absurd hi (by simp)⟩, hb⟩
/-- a thing of a row -/
theorem th_at {w : World} {B : Nat} {A : Option Addr} {l : List Th} (h : RowG thC 3 w B A l) {i : Nat} (hi : i < l.length) : ∃ ad, A = some ad ∧ ad.block < B ∧ w.cell? (ad.add (i * 3)) = some (.int .i64 l[i].k) ∧ w.cell? ⟨(ad.add (i * 3)).block, (ad.add (i * 3)).off + 1, none⟩ = some (.string l[i].t) ∧ w.cell? ⟨(ad.add (i * 3)).block, (ad.add (i * 3)).off + 2, none⟩ = some (.string l[i].y) := by
  obtain ⟨ad, rfl, hlt⟩ := h.lo (by omega)
  have get : ∀ j u, (thC l[i])[j]? = some u → w.cell? (ad.add (i * 3 + j)) = some u := fun j u hu => by
    obtain ⟨ad', e, hc⟩ := h.cell i hi j u hu
    obtain rfl := Option.some.inj e
    exact hc
  have addr_field : ∀ (a : Addr) (j : Nat), 0 < j → (⟨a.block, a.off + j, none⟩ : Addr) = a.add j := fun a j hj => by unfold Addr.add; rw [if_neg (by omega)]
  refine ⟨ad, rfl, hlt, get 0 _ rfl, ?_, ?_⟩
  · rw [addr_field _ _ (by omega), addr_add]; exact get 1 _ rfl
  · rw [addr_field _ _ (by omega), addr_add]; exact get 2 _ rfl
set_option maxRecDepth 100000 in
set_option maxHeartbeats 12800000 in
theorem rabove_any (x : Th) (w : World) : Calls Try.prog 17 #[thV x] w (AbRet w (abT x)) := by
  obtain ⟨i0, hi, hz0, hz1, hz2⟩ := info_parts Try.infoth
  obtain ⟨k, t, y⟩ := x
  obtain ⟨w1, hw1⟩ : ∃ w1, w1 = w.alloc (.cells #[.int .i64 k, .string t, .string y] 27) := ⟨_, rfl⟩
  obtain ⟨hT, hB⟩ := tg_new w ⟨k, t, y⟩
  simp only at hT hB
  rw [← hw1] at hT hB
  have hs1 : w1.heap.size = w.heap.size + 1 := by rw [hw1]; simp
  obtain ⟨b, hb⟩ : ∃ b, b = w.heap.size := ⟨_, rfl⟩
  have HC := Lib.hid (show ∀ (z : Th) (w : World), Says Try.prog 19 #[thV z] w (.bool (fitsB z)) from rfits_any)
  rw [← hb] at hT
  have HW := Lib.hid (And.intro hw1 (And.intro hb hs1))
  have HT := Lib.hid hT
  have HB := Lib.hid hB
  have c0 := hT.k
  have c1 := hT.t
  have c2 := hT.y
  simp only at c0 c1 c2
  clear hw1 hs1 hT hB
  cases hf : fitsB ⟨k, t, y⟩ with
  | false =>
    rw [abT_out hf]
    have HF := Lib.hid hf
    clear hf
    go_enter Try.func17, Try.ntmps17
    go_upto_region 1 with fail
    rw [← hb, ← HW.out.1]; clear hb
    go_wp2_with (go_at_call 19; refine (HC.out ⟨_, _, _⟩ _).mono ?_; rw [HF.out]; rintro e w2 ⟨rfl, hb2⟩; have HB2 := Lib.hid (HB.out.trans (hb2.mono HB.out.size)); clear hb2)
    go_ret
    exact AbRet.nil HB2.out
  | true =>
    by_cases h3 : k < 3
    · have hl : abT ⟨k, t, y⟩ = [] := by unfold abT; rw [hf]; simp only; rw [if_neg (by decide), if_neg (by omega), if_neg (by omega)]
      rw [hl]
      have hd : decide (k < 3) = true := decide_eq_true h3
      have HF := Lib.hid hf
      clear hf hl
      go_enter Try.func17, Try.ntmps17
      go_upto_region 1 with fail
      rw [← hb, ← HW.out.1]; clear hb
      go_wp2_with (go_at_call 19; refine (HC.out ⟨_, _, _⟩ _).mono ?_; rw [HF.out]; rintro e w2 ⟨rfl, hb2⟩; have d0 := (HT.out.below hb2 (by have := HW.out.2.1; have := HW.out.2.2; omega)).k; simp only at d0; have HB2 := Lib.hid (HB.out.trans (hb2.mono HB.out.size)); clear hb2)
      go_ret
      exact AbRet.nil HB2.out
    · have hd : decide (k < 3) = false := decide_eq_false h3
      have hk : k = 3 ∨ k = 4 := by
        unfold fitsB at hf
        have := of_decide_eq_true hf
        simp only at this
        omega
      rcases hk with rfl | rfl
      · have hl : abT ⟨3, t, y⟩ = [dbT] := by unfold abT; rw [hf]; rfl
        rw [hl]
        have HF := Lib.hid hf
        clear hf hl
        go_enter Try.func17, Try.ntmps17
        go_upto_region 1 with fail
        rw [← hb, ← HW.out.1]; clear hb
        go_upto_region 4 with (go_at_call 19; refine (HC.out ⟨_, _, _⟩ _).mono ?_; rw [HF.out]; rintro e w2 ⟨rfl, hb2⟩; have d0 := (HT.out.below hb2 (by have := HW.out.2.1; have := HW.out.2.2; omega)).k; simp only at d0; have HB2 := Lib.hid (HB.out.trans (hb2.mono HB.out.size)); have HT2 := Lib.hid (And.intro (HT.out.below hb2 (by have := HW.out.2.1; have := HW.out.2.2; omega)) hb2.size); clear hb2)
        obtain ⟨w3, hw3⟩ : ∃ w3, w3 = w2.alloc (.cells #[.int .i64 1, .string ⟨#[]⟩, .string ⟨#[]⟩] 27) := ⟨_, rfl⟩
        rw [← hw3]
        have hs3 : w3.heap.size = w2.heap.size + 1 := by rw [hw3]; simp
        have hb3 : Below w.heap.size w w3 := by rw [hw3]; exact HB2.out.alloc HB2.out.size _
        have hT3 : Tg w3 b _ := HT2.out.1.below (C := w2.heap.size) (by rw [hw3]; exact (Below.refl _ w2).alloc (Nat.le_refl _) _) (by have := HW.out.2.1; have := HW.out.2.2; have := HT2.out.2; omega)
        have ho3 : w3.ownsRow w2.heap.size 27 3 (.slice (some ⟨w2.heap.size, 0, none⟩) 1 1) 1 (ths [dbT]) := by
          rw [hw3]
          have h9 := World.ownsRow_lit (base := w2.heap.size) (size := 3) (e := 27) w2 #[.int .i64 1, .string ⟨#[]⟩, .string ⟨#[]⟩] 1 (by simp) (by simp [maxLen]) (by simp)
          exact h9
        have e0 := hT3.k
        have e1 := hT3.t
        simp only at e0 e1
        obtain ⟨z, hz⟩ : ∃ z, z = w2.heap.size := ⟨_, rfl⟩
        rw [← hz] at ho3 ⊢
        have H3 := Lib.hid (And.intro ho3 (And.intro hb3 (And.intro hs3 hz)))
        clear hw3 hs3 hb3 hT3 ho3 d0 hz
        go_wp2_with fail
        go_ret
        exact ⟨_, _, _, rfl, rfl, Nat.le_refl _, RowG.of_rows (fun _ => rfl) H3.out.1 rfl, H3.out.2.1⟩
      · have hl : abT ⟨4, t, y⟩ = [dbT, ⟨3, t, eS⟩] := by unfold abT; rw [hf]; rfl
        rw [hl]
        have HF := Lib.hid hf
        clear hf hl
        go_enter Try.func17, Try.ntmps17
        go_upto_region 1 with fail
        rw [← hb, ← HW.out.1]; clear hb
        go_upto_region 4 with (go_at_call 19; refine (HC.out ⟨_, _, _⟩ _).mono ?_; rw [HF.out]; rintro e w2 ⟨rfl, hb2⟩; have d0 := (HT.out.below hb2 (by have := HW.out.2.1; have := HW.out.2.2; omega)).k; simp only at d0; have HB2 := Lib.hid (HB.out.trans (hb2.mono HB.out.size)); have HT2 := Lib.hid (And.intro (HT.out.below hb2 (by have := HW.out.2.1; have := HW.out.2.2; omega)) hb2.size); clear hb2)
        obtain ⟨w3, hw3⟩ : ∃ w3, w3 = w2.alloc (.cells #[.int .i64 1, .string ⟨#[]⟩, .string ⟨#[]⟩] 27) := ⟨_, rfl⟩
        rw [← hw3]
        have hs3 : w3.heap.size = w2.heap.size + 1 := by rw [hw3]; simp
        have hb3 : Below w.heap.size w w3 := by rw [hw3]; exact HB2.out.alloc HB2.out.size _
        have hT3 : Tg w3 b _ := HT2.out.1.below (C := w2.heap.size) (by rw [hw3]; exact (Below.refl _ w2).alloc (Nat.le_refl _) _) (by have := HW.out.2.1; have := HW.out.2.2; have := HT2.out.2; omega)
        have ho3 : w3.ownsRow w2.heap.size 27 3 (.slice (some ⟨w2.heap.size, 0, none⟩) 1 1) 1 (ths [dbT]) := by
          rw [hw3]
          have h9 := World.ownsRow_lit (base := w2.heap.size) (size := 3) (e := 27) w2 #[.int .i64 1, .string ⟨#[]⟩, .string ⟨#[]⟩] 1 (by simp) (by simp [maxLen]) (by simp)
          exact h9
        have e0 := hT3.k
        have e1 := hT3.t
        simp only at e0 e1
        obtain ⟨z, hz⟩ : ∃ z, z = w2.heap.size := ⟨_, rfl⟩
        rw [← hz] at ho3 ⊢
        have H3 := Lib.hid (And.intro ho3 (And.intro hb3 (And.intro hs3 hz)))
        clear hw3 hs3 hb3 hT3 ho3 d0 hz
        go_wp2_with (at_builtin; refine wpList_append_row rfl _ _ 28 rfl z 27 i0 (.agg #[.int .i64 0, .string ⟨#[]⟩, .string ⟨#[]⟩]) 3 40 Try.underlying28 hi hz0 hz1 hz2 rfl (by decide) _ 1 _ (H3.out.1.alloc _) (by rfl) (some ⟨w3.heap.size, 0, none⟩) 1 1 (thC ⟨3, t, ⟨#[]⟩⟩) (by rfl) rfl (fun h => by cases h) (fun ad' had => by cases had; exact World.news_of_block (heap_alloc_new w3 _)) (by simp [thC, Value.oneCell']) (by simp [maxLen]) (by omega) (by have := H3.out.2.2.1; have := H3.out.2.2.2; simp; omega) ?_; intro A5 c5 w5 hR5; have HR5 := Lib.hid hR5; clear hR5)
        go_ret
        have h5 := HR5.out
        have hb5 : Below w.heap.size w w5 := by
          have s2 := HB2.out.size
          have h6 : Chg (fun k => z ≤ k) w3 w5 := ((Chg.refl (fun k => z ≤ k) w3).alloc _).trans' h5.chg fun k _ hk => (H3.out.1.lt k hk).1
          have h7 := h6.below (B := w.heap.size) (fun k hk => by have := H3.out.2.2.2; omega) H3.out.2.1.size
          exact H3.out.2.1.trans h7
        exact ⟨_, _, _, rfl, rfl, (own_caps h5.own).1, RowG.of_rows (fun _ => rfl) h5.own rfl, hb5⟩
end Go.Proofs.Ytbkffcopahiilaa
