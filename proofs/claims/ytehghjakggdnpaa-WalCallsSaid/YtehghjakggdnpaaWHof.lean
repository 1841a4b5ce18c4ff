/-
  The contract of headOf.
-/
import Derived.Test.YtehghjakggdnpaaWHin
namespace Go.Proofs.Ytehghjakggdnpaa
open Go.RowKit Go.Lib

/-- the head that counts, of two -/
def pickH : Option (Int × Int × Int) → Option (Int × Int × Int) → Option (Int × Int × Int)
  | some h, some o => if h.1 < o.1 then some o else some h
  | none, o => o
  | h, none => h
def headOfM (C : List (List Int)) : Option (Int × Int × Int) := pickH (headInM C 0) (headInM C 1)
theorem hval_form (o : Option (Int × Int × Int)) : ∃ (g a f : Int) (b : Bool), hval o = .tuple #[.agg #[.int .i64 g, .int .i64 a, .int .i64 f], .bool b] ∧ ((b = false ∧ o = none ∧ g = 0 ∧ a = 0 ∧ f = 0) ∨ (b = true ∧ o = some (g, a, f))) := by
  rcases o with _ | ⟨g0, a0, f0⟩
  · exact ⟨0, 0, 0, false, rfl, .inl ⟨rfl, rfl, rfl, rfl, rfl⟩⟩
  · exact ⟨g0, a0, f0, true, rfl, .inr ⟨rfl, rfl⟩⟩
theorem headInM_some {C : List (List Int)} {k : Nat} {g a f : Int} (h : headInM C k = some (g, a, f)) (hb : AllBytes C) : 1 ≤ g ∧ g < 2147483648 ∧ (a = 0 ∨ a = 1) ∧ 1 ≤ f ∧ f < 4294967296 ∧ g % 2 = k := by
  have h4 := (hb.at_ k).at_ 4
  have h5 := num4_bd (hb.at_ k) 5
  unfold headInM at h
  simp only at h
  split at h
  · cases h
  · split at h
    · cases h
    · simp only [Option.some.injEq, Prod.mk.injEq] at h
      omega

set_option maxRecDepth 100000 in
set_option maxHeartbeats 3200000 in
theorem headOf_any {w : World} {g : Nat} {F : Nat → Prop} {s : DS} (h : DiskAt w g F s) (hb : AllBytes s.cur) (h2 : 2 ≤ s.last.length) :
    Calls Try.prog 52 #[.pointer (some ⟨g, 0, none⟩)] w fun e w' => e = .returned (hval (headOfM s.cur)) ∧ Below w.heap.size w w' := by
  have H := Lib.hid (And.intro h hb)
  have hm0 : ∀ x, headInM s.cur 0 = some x → _ := fun x hx => headInM_some (g := x.1) (a := x.2.1) (f := x.2.2) hx hb
  have hm1 : ∀ x, headInM s.cur 1 = some x → _ := fun x hx => headInM_some (g := x.1) (a := x.2.1) (f := x.2.2) hx hb
  obtain ⟨o0, h0⟩ : ∃ o0, o0 = headInM s.cur 0 := ⟨_, rfl⟩
  obtain ⟨o1, h1⟩ : ∃ o1, o1 = headInM s.cur 1 := ⟨_, rfl⟩
  have hM : headOfM s.cur = pickH o0 o1 := by rw [h0, h1]; rfl
  rw [hM]
  rw [← h0] at hm0
  rw [← h1] at hm1
  have HO := Lib.hid (And.intro h0 h1)
  clear h hb h0 h1 hM
  go_enter Try.func52, Try.ntmps52
  go_wp2_with fail
  have hl0 : Below w.heap.size w (w.alloc (.cells #[.int .i64 0, .int .i64 0, .int .i64 0] 91)) := (Below.refl _ _).alloc (Nat.le_refl _) _
  have hz0 : Blk (w.alloc (.cells #[.int .i64 0, .int .i64 0, .int .i64 0] 91)) w.heap.size 91 ([.int .i64 0, .int .i64 0, .int .i64 0] : List Value).toArray := Blk.new _ _ _
  refine (headIn_any (H.out.1.below hl0) H.out.2 0 (by omega) h2).mono ?_
  rw [← HO.out.1]
  rintro e w1 ⟨rfl, hl1⟩
  have H1 := Lib.hid (And.intro (hz0.below hl1 (by simp)) (hl0.trans (hl1.mono hl0.size)))
  clear hl0 hz0 hl1
  obtain ⟨g0, a0, f0, b0, hv0, hs0⟩ := hval_form o0
  rw [hv0]
  have hg0 : 0 ≤ g0 ∧ g0 < 2147483648 := by
    rcases hs0 with ⟨_, _, rfl, _, _⟩ | ⟨_, h⟩
    · omega
    · have := hm0 _ h; simp only at this; omega
  have HV := Lib.hid (And.intro hv0 hs0)
  clear hv0 hs0 hm0
  go_wp2_with fail
  have hl2 : Below w1.heap.size w1 (w1.alloc (.cells #[.int .i64 g0, .int .i64 a0, .int .i64 f0] 91)) := (Below.refl _ _).alloc (Nat.le_refl _) _
  have hy0 : Blk (w1.alloc (.cells #[.int .i64 g0, .int .i64 a0, .int .i64 f0] 91)) w1.heap.size 91 #[.int .i64 g0, .int .i64 a0, .int .i64 f0] := Blk.new _ _ _
  refine (headIn_any ((H.out.1.below H1.out.2).below hl2) H.out.2 1 (by omega) h2).mono ?_
  rw [← HO.out.2]
  rintro e w2 ⟨rfl, hl3⟩
  obtain ⟨g1, a1, f1, b1, hv1, hs1⟩ := hval_form o1
  rw [hv1]
  have hg1 : 0 ≤ g1 ∧ g1 < 2147483648 ∧ (b1 = true → 1 ≤ g1) := by
    rcases hs1 with ⟨h, _, rfl, _, _⟩ | ⟨_, h⟩
    · subst h; exact ⟨by omega, by omega, fun h => by cases h⟩
    · have := hm1 _ h; simp only at this; exact ⟨by omega, by omega, fun _ => by omega⟩
  have hb02 := hy0.below hl3 (by simp)
  have hl13 : Below w1.heap.size w1 w2 := hl2.trans (hl3.mono hl2.size)
  have H2 := Lib.hid (And.intro (And.intro hv1 hs1) (And.intro hb02 (And.intro (H1.out.2.trans (hl13.mono H1.out.2.size)) (H1.out.1.below hl13 H1.out.1.lt))))
  have e0 := hb02.cell 0
  have e1 := hb02.cell 1
  have e2 := hb02.cell 2
  simp only [List.getElem?_toArray, List.getElem?_cons_zero, List.getElem?_cons_succ] at e0 e1 e2
  have hlt2 : w1.heap.size < w2.heap.size := hb02.lt
  clear hv1 hs1 hb02 hl13 hl2 hy0 hl3 hm1
  cases b1 with
  | false =>
    have hp : pickH o0 o1 = o0 := by
      rcases H2.out.1.2 with ⟨_, h, _⟩ | ⟨h, _⟩
      · rw [h]; rcases o0 with _ | _ <;> rfl
      · cases h
    have HP := Lib.hid (show hval (pickH o0 o1) = _ from (congrArg hval hp).trans HV.out.1)
    clear hg1 hp
    go_wp2_with (refine wpList_store_blk rfl 91 (.tmp 2) (.tmp 27) rfl w.heap.size 0 [.int .i64 g0, .int .i64 a0, .int .i64 f0] rfl rfl [.int .i64 0, .int .i64 0, .int .i64 0] 91 (H2.out.2.2.2.alloc _) (by simp) Try.size91 (by simp [Value.oneCell']) ?_; intro w7 hb7 hc7 hs7; have r0 := Blk.cell hb7 0; have r1 := Blk.cell hb7 1; have r2 := Blk.cell hb7 2; simp only [splice, List.drop, List.nil_append, List.length_cons, List.length_nil, List.take, List.append_nil, List.getElem?_toArray, List.getElem?_cons_zero, List.getElem?_cons_succ] at r0 r1 r2; have HF7 := Lib.hid ((H2.out.2.2.1.alloc H2.out.2.2.1.size (.cells #[.int .i64 g1, .int .i64 a1, .int .i64 f1] 91)).trans (Chg.below hc7 (fun k hk => Nat.le_of_eq hk.symm) (by have := H2.out.2.2.1.size; rw [World.size_alloc]; omega))); clear hb7 hc7 hs7)
    refine bodyPost_ret (by rw [results_cell_tmp rfl]; go_simp; exact rfl) rfl ?_
    refine ⟨?_, HF7.out⟩
    rw [HP.out]
  | true =>
    have hg1' := hg1.2.2 rfl
    by_cases hgg : g0 < g1
    · have hp : pickH o0 o1 = o1 := by
        rcases HV.out.2 with ⟨_, h, _⟩ | ⟨_, h⟩
        · rw [h]; rfl
        · rcases H2.out.1.2 with ⟨h', _⟩ | ⟨_, h'⟩
          · cases h'
          · rw [h, h']; simp only [pickH]; rw [if_pos hgg]
      have HP := Lib.hid (show hval (pickH o0 o1) = _ from (congrArg hval hp).trans H2.out.1.1)
      clear hg1 hp
      go_wp2_with (refine wpList_store_blk rfl 91 (.tmp 2) (.tmp 26) rfl w.heap.size 0 [.int .i64 g1, .int .i64 a1, .int .i64 f1] rfl rfl [.int .i64 0, .int .i64 0, .int .i64 0] 91 (H2.out.2.2.2.alloc _) (by simp) Try.size91 (by simp [Value.oneCell']) ?_; intro w7 hb7 hc7 hs7; have r0 := Blk.cell hb7 0; have r1 := Blk.cell hb7 1; have r2 := Blk.cell hb7 2; simp only [splice, List.drop, List.nil_append, List.length_cons, List.length_nil, List.take, List.append_nil, List.getElem?_toArray, List.getElem?_cons_zero, List.getElem?_cons_succ] at r0 r1 r2; have HF7 := Lib.hid ((H2.out.2.2.1.alloc H2.out.2.2.1.size (.cells #[.int .i64 g1, .int .i64 a1, .int .i64 f1] 91)).trans (Chg.below hc7 (fun k hk => Nat.le_of_eq hk.symm) (by have := H2.out.2.2.1.size; rw [World.size_alloc]; omega))); clear hb7 hc7 hs7)
      refine bodyPost_ret (by rw [results_cell_tmp rfl]; go_simp; exact rfl) rfl ?_
      refine ⟨?_, HF7.out⟩
      rw [HP.out]
    · have hp : pickH o0 o1 = o0 := by
        rcases HV.out.2 with ⟨_, _, h, _⟩ | ⟨_, h⟩
        · omega
        · rcases H2.out.1.2 with ⟨h', _⟩ | ⟨_, h'⟩
          · cases h'
          · rw [h, h']; simp only [pickH]; rw [if_neg hgg]
      have HP := Lib.hid (show hval (pickH o0 o1) = _ from (congrArg hval hp).trans HV.out.1)
      clear hg1 hp
      go_wp2_with (refine wpList_store_blk rfl 91 (.tmp 2) (.tmp 27) rfl w.heap.size 0 [.int .i64 g0, .int .i64 a0, .int .i64 f0] rfl rfl [.int .i64 0, .int .i64 0, .int .i64 0] 91 (H2.out.2.2.2.alloc _) (by simp) Try.size91 (by simp [Value.oneCell']) ?_; intro w7 hb7 hc7 hs7; have r0 := Blk.cell hb7 0; have r1 := Blk.cell hb7 1; have r2 := Blk.cell hb7 2; simp only [splice, List.drop, List.nil_append, List.length_cons, List.length_nil, List.take, List.append_nil, List.getElem?_toArray, List.getElem?_cons_zero, List.getElem?_cons_succ] at r0 r1 r2; have HF7 := Lib.hid ((H2.out.2.2.1.alloc H2.out.2.2.1.size (.cells #[.int .i64 g1, .int .i64 a1, .int .i64 f1] 91)).trans (Chg.below hc7 (fun k hk => Nat.le_of_eq hk.symm) (by have := H2.out.2.2.1.size; rw [World.size_alloc]; omega))); clear hb7 hc7 hs7)
      refine bodyPost_ret (by rw [results_cell_tmp rfl]; go_simp; exact rfl) rfl ?_
      refine ⟨?_, HF7.out⟩
      rw [HP.out]
end Go.Proofs.Ytehghjakggdnpaa
