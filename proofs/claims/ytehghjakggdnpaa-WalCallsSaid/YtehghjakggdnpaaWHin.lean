/-
  The contracts of bytes.Equal, headIn.
-/
import Derived.Test.YtehghjakggdnpaaWLead
import Derived.Deep.RegionHeld3
import Derived.Deep.RegionWith
namespace Go.Proofs.Ytehghjakggdnpaa
open Go.RowKit Go.Lib

/-- the string that a conversion makes of bytes is known by its bytes -/
theorem run_strw {P : Program} (w : World) (src dst e : TypeId) (A : Option Addr) (m c B : Nat) (l : List Int) (hs : P.underlying src = some (.slice e)) (he : P.underlying e = some (.int .u8)) (hd : P.underlying dst = some .string)
    (hr : Rd w B A m (cells l)) : (convert src dst (.slice A m c)).run P w = .ok (.string (mkStr l)) w := by
  rw [run_convert_bytes_string w src dst e A m c hs he hd]
  obtain ⟨hl, hc⟩ := hr
  rw [cells_len] at hl
  rcases A with _ | a
  · have hm : m = 0 := by
      rcases Nat.eq_zero_or_pos m with h0 | h0
      · exact h0
      · obtain ⟨_, h, _⟩ := hc h0; cases h
    have hn : l = [] := List.eq_nil_of_length_eq_zero (by omega)
    subst hn
    subst hm
    rfl
  · have hh := run_loadCells_list (P := P) w a (cells l) (fun j v hj => by
      have hj' : j < (cells l).length := (List.getElem?_eq_some_iff.1 hj).1
      rw [cells_len] at hj'
      obtain ⟨ad, e1, _, h2⟩ := hc (by omega)
      obtain rfl := Option.some.inj e1
      exact h2 j v hj)
    rw [cells_len, hl] at hh
    exact run_bytesToString w a m c l hh

theorem mkStr_eq {l l' : List Int} (h : IsBytes l) (h' : IsBytes l') : ((mkStr l).toList == (mkStr l').toList) = decide (l = l') := by
  by_cases e : l = l'
  · subst e; simp
  · rw [decide_eq_false e, beq_eq_false_iff_ne]
    intro hc
    apply e
    rw [ByteArray.toList_eq, ByteArray.toList_eq] at hc
    have : bytes (mkStr l) = bytes (mkStr l') := by unfold bytes; rw [hc]
    rw [← bytes_mkStr l h, ← bytes_mkStr l' h', this]

set_option maxRecDepth 100000 in
theorem bytesEqual_any (A A' : Option Addr) (n n' c c' B B' : Nat) (l l' : List Int) (w : World) (hr : Rd w B A n (cells l)) (hr' : Rd w B' A' n' (cells l')) (h : IsBytes l) (h' : IsBytes l') :
    Calls Try.prog 76 #[.slice A n c, .slice A' n' c'] w fun e w' => e = .returned (.bool (decide (l = l'))) ∧ w = w' := by
  have h1 := run_strw (P := Try.prog) w 38 9 5 A n c B l Try.underlying38 Try.underlying5 Try.underlying9 hr
  have h2 := run_strw (P := Try.prog) w 38 9 5 A' n' c' B' l' Try.underlying38 Try.underlying5 Try.underlying9 hr'
  have he := Lib.hid (mkStr_eq h h')
  clear hr hr' h h'
  go_enter Try.func76, Try.ntmps76
  go_wp2
  go_ret
  refine ⟨?_, rfl⟩
  rw [← he.out]
  rfl

/-- the head that sector k is -/
def headInM (C : List (List Int)) (k : Nat) : Option (Int × Int × Int) :=
  let b := C.getD k []
  if num4 b 0 < 1 ∨ 2147483648 ≤ num4 b 0 ∨ num4 b 0 % 2 ≠ k then none
  else if 2 ≤ b.getD 4 0 ∨ num4 b 5 < 1 ∨ b ≠ headB (num4 b 0) (b.getD 4 0) (num4 b 5) then none
  else some (num4 b 0, b.getD 4 0, num4 b 5)
def hval : Option (Int × Int × Int) → Value
  | none => .tuple #[.agg #[.int .i64 0, .int .i64 0, .int .i64 0], .bool false]
  | some (g, a, f) => .tuple #[.agg #[.int .i64 g, .int .i64 a, .int .i64 f], .bool true]

theorem IsBytes.set_ {b : List Int} (h : IsBytes b) (i : Nat) {x : Int} (hx : 0 ≤ x ∧ x < 256) : IsBytes (b.set i x) := by
  intro y hy
  rcases List.mem_or_eq_of_mem_set hy with hy | rfl
  · exact h y hy
  · exact hx
theorem put4_is {b : List Int} (h : IsBytes b) (i : Nat) (n : Int) : IsBytes (put4 b i n) := by
  unfold put4 putk
  exact (((h.set_ i (by omega)).set_ _ (by omega)).set_ _ (by omega)).set_ _ (by omega)
theorem zeros_is : IsBytes zeros := by
  intro y hy
  unfold zeros at hy
  rw [List.eq_of_mem_replicate hy]
  omega
theorem stampL_is {b : List Int} (h : IsBytes b) (n : Int) : IsBytes (stampL b n) := put4_is (put4_is h _ _) _ _
theorem headB_is {x a y : Int} (_hx : 0 ≤ x ∧ x < 4294967296) (ha : 0 ≤ a ∧ a < 256) (_hy : 0 ≤ y ∧ y < 4294967296) : IsBytes (headB x a y) := put4_is ((stampL_is zeros_is _).set_ _ ha) _ _
theorem number_v (A : Option Addr) (n c : Nat) (b : List Int) (x : Int) (hx : num4 b 0 = x) (w : World) (B : Nat) (hr : Rd w B A n (cells b)) (hb : IsBytes b) (h4 : 4 ≤ n) :
    Calls Try.prog 56 #[.slice A n c] w (Quiet (.int .i64 x) w) := by
  subst hx
  exact number_any A n c b w B hr hb h4

set_option maxRecDepth 100000 in
set_option maxHeartbeats 1600000 in
theorem headIn_any {w : World} {g : Nat} {F : Nat → Prop} {s : DS} (h : DiskAt w g F s) (hb : AllBytes s.cur) (k : Nat) (hk : k < 2) (h2 : 2 ≤ s.last.length) :
    Calls Try.prog 67 #[.pointer (some ⟨g, 0, none⟩), .int .i64 k] w fun e w' => e = .returned (hval (headInM s.cur k)) ∧ Below w.heap.size w w' := by
  have H := Lib.hid h
  have HB := Lib.hid (hb.at_ k)
  clear h hb
  go_enter Try.func67, Try.ntmps67
  go_wp2_with fail
  have hl0 : Below w.heap.size w (w.alloc (.cells #[.int .i64 0, .int .i64 0, .int .i64 0] 91)) := (Below.refl _ _).alloc (Nat.le_refl _) _
  have hz0 : Blk (w.alloc (.cells #[.int .i64 0, .int .i64 0, .int .i64 0] 91)) w.heap.size 91 #[.int .i64 0, .int .i64 0, .int .i64 0] := Blk.new _ _ _
  refine (readw_any (H.out.below hl0) (k : Int) (by omega)).mono ?_
  rw [show s.cur.getD (k : Int).toNat [] = s.cur.getD k [] from rfl]
  rintro e w1 ⟨q, rfl, hr, hl1⟩
  obtain ⟨b, hbb⟩ : ∃ b, b = s.cur.getD k [] := ⟨_, rfl⟩
  have hM : headInM s.cur k = (if num4 b 0 < 1 ∨ 2147483648 ≤ num4 b 0 ∨ num4 b 0 % 2 ≠ k then none
    else if 2 ≤ b.getD 4 0 ∨ num4 b 5 < 1 ∨ b ≠ headB (num4 b 0) (b.getD 4 0) (num4 b 5) then none else some (num4 b 0, b.getD 4 0, num4 b 5)) := by rw [hbb]; rfl
  rw [← hbb] at hr HB
  clear hbb
  have hb5 := hr.cutl (k := 5) (cap := 64) (by omega) (Nat.le_refl _)
  rw [if_neg (by omega), show (cells b).drop 5 = cells (b.drop 5) by simp [cells]] at hb5
  obtain ⟨ad, e4, c4⟩ := hr.cellAt (k := 4) (by omega)
  obtain rfl := Option.some.inj e4
  rw [addr_pos] at c4
  have hy : num4 (b.drop 5) 0 = num4 b 5 := num4_drop b 5 0
  have hxb := num4_bd HB.out 0
  have hyb := num4_bd HB.out 5
  have hab := HB.out.at_ 4
  obtain ⟨x, hxe⟩ : ∃ x, x = num4 b 0 := ⟨_, rfl⟩
  obtain ⟨y, hye⟩ : ∃ y, y = num4 b 5 := ⟨_, rfl⟩
  obtain ⟨a, hae⟩ : ∃ a, a = b.getD 4 0 := ⟨_, rfl⟩
  rw [← hxe] at hxb hM
  rw [← hye] at hyb hy hM
  rw [← hae] at hab c4 hM
  have z1 := hz0.below hl1 (by simp)
  have H1 := Lib.hid (And.intro hr (And.intro hb5 (And.intro (hl0.trans (hl1.mono hl0.size)) z1)))
  have HX := Lib.hid (And.intro hxe.symm hy)
  have HM := Lib.hid hM
  clear hM
  clear hr hb5 hl0 hl1 hz0 z1 hxe hye hae hy e4
  simp only [Nat.zero_add] at c4
  go_wp2_with fail
  have hwa : IntKind.i64.wrap a = a := by unfold IntKind.wrap; simp [IntKind.bits, IntKind.signed]; omega
  have H1lt : q < w1.heap.size := by obtain ⟨_, e, h, _⟩ := H1.out.1.2 (by omega); cases e; exact h
  have c4a : (w1.alloc (.cells #[.int .i64 0, .int .i64 0, .int .i64 0] 91)).cell? ⟨q, 4, none⟩ = some (.int .u8 a) := (World.cell?_alloc_lt w1 _ ⟨q, 4, none⟩ H1lt).trans c4
  have hz9 : Blk (w1.alloc (.cells #[.int .i64 0, .int .i64 0, .int .i64 0] 91)) w1.heap.size 91 ([.int .i64 0, .int .i64 0, .int .i64 0] : List Value).toArray := Blk.new _ _ _
  refine wp_region_held_drew (S := fun w' => w'.cell? ⟨q, 4, none⟩ = some (.int .u8 a)) (by kernel_rfl) c4 (fun hHeld => ?_)
  refine wpAnyH_take (i := 0) (v := ?_) rfl (by kernel_rfl) (by kernel_rfl) (by kernel_rfl) (fun _ _ _ h => h) (Or.inl ⟨by rfl, ?_⟩) (by assumption) ?_
  rotate_left
  · (intro w hSw; (try dsimp only at hSw); go_simp; (try with_reducible rfl))
  simp only [Act.put, List.getElem_toArray, List.getElem_cons_zero, List.setIfInBounds_toArray, List.set_cons_zero, List.set_cons_succ]
  refine wpAnyH_take (i := 2) (v := ?_) rfl (by kernel_rfl) (by kernel_rfl) (by kernel_rfl) (fun _ _ _ h => h) (Or.inl ⟨by rfl, ?_⟩) (by assumption) ?_
  rotate_left
  · (intro w hSw; (try dsimp only at hSw); go_simp; (try with_reducible rfl))
  simp only [Act.put, List.getElem_toArray, List.getElem_cons_succ, List.getElem_cons_zero, List.setIfInBounds_toArray, List.set_cons_zero, List.set_cons_succ]
  refine wpAnyH_take (i := 3) (v := ?_) rfl (by kernel_rfl) (by kernel_rfl) (by kernel_rfl) (fun _ _ _ h => h) (Or.inl ⟨by rfl, ?_⟩) (by assumption) ?_
  rotate_left
  · (intro w hSw; (try dsimp only at hSw); go_simp; (try with_reducible rfl))
  simp only [Act.put, List.getElem_toArray, List.getElem_cons_succ, List.getElem_cons_zero, List.setIfInBounds_toArray, List.set_cons_zero, List.set_cons_succ]
  refine wpAnyH_take (i := 4) (v := ?_) rfl (by kernel_rfl) (by kernel_rfl) (by kernel_rfl) (fun _ _ _ h => h) (Or.inl ⟨by rfl, ?_⟩) (by assumption) ?_
  rotate_left
  · (intro w hSw; (try dsimp only at hSw); go_simp; (try with_reducible rfl))
  simp only [Act.put, List.getElem_toArray, List.getElem_cons_succ, List.getElem_cons_zero, List.setIfInBounds_toArray, List.set_cons_zero, List.set_cons_succ]
  refine wpAnyH_take (i := 5) (v := ?_) rfl (by kernel_rfl) (by kernel_rfl) (by kernel_rfl) (fun _ _ _ h => h) (Or.inl ⟨by rfl, ?_⟩) (by assumption) ?_
  rotate_left
  · (intro w hSw; (try dsimp only at hSw); go_simp; (try with_reducible rfl))
  simp only [Act.put, List.getElem_toArray, List.getElem_cons_succ, List.getElem_cons_zero, List.setIfInBounds_toArray, List.set_cons_zero, List.set_cons_succ]
  refine wpAnyH_take (i := 6) (v := ?_) rfl (by kernel_rfl) (by kernel_rfl) (by kernel_rfl) (fun _ _ _ h => h) (Or.inl ⟨by rfl, ?_⟩) (by assumption) ?_
  rotate_left
  · (intro w hSw; (try dsimp only at hSw); go_simp; (try with_reducible rfl))
  simp only [Act.put, List.getElem_toArray, List.getElem_cons_succ, List.getElem_cons_zero, List.setIfInBounds_toArray, List.set_cons_zero, List.set_cons_succ]
  refine wpAnyH_take (i := 7) (v := ?_) rfl (by kernel_rfl) (by kernel_rfl) (by kernel_rfl) (fun _ _ _ h => h) (Or.inl ⟨by rfl, ?_⟩) (by assumption) ?_
  rotate_left
  · (intro w hSw; (try dsimp only at hSw); go_simp; (try with_reducible rfl))
  simp only [Act.put, List.getElem_toArray, List.getElem_cons_succ, List.getElem_cons_zero, List.setIfInBounds_toArray, List.set_cons_zero, List.set_cons_succ]
  refine wpAnyH_ready (rs := [1, 10]) (by kernel_rfl) (by simp) ?_
  refine AllReadyH.cons rfl (fun K hK => ?cA) (AllReadyH.cons rfl (fun K hK => ?cB) AllReadyH.nil)
  case' cA =>
    go_simp
    refine (number_v _ _ _ b x HX.out.1 _ w1.heap.size (by exact H1.out.1) HB.out (by omega)).mono ?_
    rintro e w2 ⟨rfl, p1, rfl⟩
    refine hK.out _ _ ?_ (fun hHeld => ?_)
    · exact c4
    clear hK K hHeld
    (try simp only [Act.put, List.getElem_toArray, List.getElem_cons_succ, List.getElem_cons_zero, List.setIfInBounds_toArray, List.set_cons_zero, List.set_cons_succ])
    refine wpAnyH_ready (rs := [8, 10]) (by kernel_rfl) (by simp) ?_
    refine AllReadyH.cons rfl (fun K hK => ?cC) (AllReadyH.cons rfl (fun K hK => ?cD) AllReadyH.nil)
  case' cC =>
    go_simp
    refine (number_v _ _ _ (b.drop 5) y HX.out.2 _ w1.heap.size (by exact H1.out.2.1) (HB.out.drop 5) (by omega)).mono ?_
    rintro e w2 ⟨rfl, p2, rfl⟩
    refine hK.out _ _ ?_ (fun hHeld => ?_)
    · exact c4
    clear hK K hHeld
    (try simp only [Act.put, List.getElem_toArray, List.getElem_cons_succ, List.getElem_cons_zero, List.setIfInBounds_toArray, List.set_cons_zero, List.set_cons_succ])
    refine wpAnyH_take (i := 9) (v := ?_) rfl (by kernel_rfl) (by kernel_rfl) (by kernel_rfl) (fun _ _ _ h => h) (Or.inl ⟨by rfl, ?_⟩) (by assumption) ?_
    rotate_left
    · (intro w hSw; (try dsimp only at hSw); go_simp; (try with_reducible rfl))
    simp only [Act.put, List.getElem_toArray, List.getElem_cons_succ, List.getElem_cons_zero, List.setIfInBounds_toArray, List.set_cons_zero, List.set_cons_succ]
    refine wpAnyH_ready (rs := [10]) (by kernel_rfl) (by simp) ?_
    refine AllReadyH.cons rfl (fun K hK => ?_) AllReadyH.nil
    go_simp
    refine hK.out _ _ ?_ (fun hHeld => ?_)
    · exact c4a
    clear hK K hHeld
    (try simp only [Act.put, List.getElem_toArray, List.getElem_cons_succ, List.getElem_cons_zero, List.setIfInBounds_toArray, List.set_cons_zero, List.set_cons_succ])
  case' cD =>
    go_simp
    refine hK.out _ _ ?_ (fun hHeld => ?_)
    · exact c4a
    clear hK K hHeld
    (try simp only [Act.put, List.getElem_toArray, List.getElem_cons_succ, List.getElem_cons_zero, List.setIfInBounds_toArray, List.set_cons_zero, List.set_cons_succ])
    refine wpAnyH_ready (rs := [8]) (by kernel_rfl) (by simp) ?_
    refine AllReadyH.cons rfl (fun K hK => ?_) AllReadyH.nil
    go_simp
    refine (number_v _ _ _ (b.drop 5) y HX.out.2 _ w1.heap.size (by exact H1.out.2.1.alloc (Nat.le_refl _) _) (HB.out.drop 5) (by omega)).mono ?_
    rintro e w2 ⟨rfl, p2, rfl⟩
    refine hK.out _ _ ?_ (fun hHeld => ?_)
    · exact c4a
    clear hK K hHeld
    (try simp only [Act.put, List.getElem_toArray, List.getElem_cons_succ, List.getElem_cons_zero, List.setIfInBounds_toArray, List.set_cons_zero, List.set_cons_succ])
    refine wpAnyH_take (i := 9) (v := ?_) rfl (by kernel_rfl) (by kernel_rfl) (by kernel_rfl) (fun _ _ _ h => h) (Or.inl ⟨by rfl, ?_⟩) (by assumption) ?_
    rotate_left
    · (intro w hSw; (try dsimp only at hSw); go_simp; (try with_reducible rfl))
    simp only [Act.put, List.getElem_toArray, List.getElem_cons_succ, List.getElem_cons_zero, List.setIfInBounds_toArray, List.set_cons_zero, List.set_cons_succ]
  case' cB =>
    go_simp
    refine hK.out _ _ ?_ (fun hHeld => ?_)
    · exact c4a
    clear hK K hHeld
    (try simp only [Act.put, List.getElem_toArray, List.getElem_cons_succ, List.getElem_cons_zero, List.setIfInBounds_toArray, List.set_cons_zero, List.set_cons_succ])
    refine wpAnyH_ready (rs := [1]) (by kernel_rfl) (by simp) ?_
    refine AllReadyH.cons rfl (fun K hK => ?_) AllReadyH.nil
    go_simp
    refine (number_v _ _ _ b x HX.out.1 _ w1.heap.size (by exact H1.out.1.alloc (Nat.le_refl _) _) HB.out (by omega)).mono ?_
    rintro e w2 ⟨rfl, p1, rfl⟩
    refine hK.out _ _ ?_ (fun hHeld => ?_)
    · exact c4a
    clear hK K hHeld
    (try simp only [Act.put, List.getElem_toArray, List.getElem_cons_succ, List.getElem_cons_zero, List.setIfInBounds_toArray, List.set_cons_zero, List.set_cons_succ])
    refine wpAnyH_ready (rs := [8]) (by kernel_rfl) (by simp) ?_
    refine AllReadyH.cons rfl (fun K hK => ?_) AllReadyH.nil
    go_simp
    refine (number_v _ _ _ (b.drop 5) y HX.out.2 _ w1.heap.size (by exact H1.out.2.1.alloc (Nat.le_refl _) _) (HB.out.drop 5) (by omega)).mono ?_
    rintro e w2 ⟨rfl, p2, rfl⟩
    refine hK.out _ _ ?_ (fun hHeld => ?_)
    · exact c4a
    clear hK K hHeld
    (try simp only [Act.put, List.getElem_toArray, List.getElem_cons_succ, List.getElem_cons_zero, List.setIfInBounds_toArray, List.set_cons_zero, List.set_cons_succ])
    refine wpAnyH_take (i := 9) (v := ?_) rfl (by kernel_rfl) (by kernel_rfl) (by kernel_rfl) (fun _ _ _ h => h) (Or.inl ⟨by rfl, ?_⟩) (by assumption) ?_
    rotate_left
    · (intro w hSw; (try dsimp only at hSw); go_simp; (try with_reducible rfl))
    simp only [Act.put, List.getElem_toArray, List.getElem_cons_succ, List.getElem_cons_zero, List.setIfInBounds_toArray, List.set_cons_zero, List.set_cons_succ]
  all_goals
    refine wpAnyH_ready (rs := [11]) (by kernel_rfl) (by simp) ?_
    refine AllReadyH.cons rfl (fun K hK => ?_) AllReadyH.nil
    refine step_store_blk rfl 91 (.tmp 7) (.tmp 20) rfl w1.heap.size 0 [.int .i64 x, .int .i64 a, .int .i64 y] rfl rfl [.int .i64 0, .int .i64 0, .int .i64 0] 91 hz9 (by simp) Try.size91 (by simp [Value.oneCell']) ?_
    intro w4 hb4 hc4 hs4
    refine hK.out _ _ ?_ (fun hHeld => ?_)
    · exact (hc4.cell (show q < (w1.alloc (.cells #[.int .i64 0, .int .i64 0, .int .i64 0] 91)).heap.size by rw [World.size_alloc]; omega) (by intro e; have : q = w1.heap.size := e; omega)).trans c4a
    clear hK K hHeld
    refine wpAnyH_done (by kernel_rfl) ?_ _
    have hb4' : Blk w4 w1.heap.size 91 #[.int .i64 x, .int .i64 a, .int .i64 y] := hb4
    have hl4 : Below w1.heap.size w1 w4 := (((Below.refl w1.heap.size w1).alloc (Nat.le_refl _) _)).trans (Chg.below ⟨hc4.os, hc4.tape, hc4.output, hc4.size, hc4.block⟩ (fun k hk => by have : k = w1.heap.size := hk; omega) (by simp))
    have HF := Lib.hid (And.intro hb4' hl4)
    clear hb4 hb4' hc4 hs4 hl4 hz9 c4a
  all_goals
    clear HX H1lt c4
    have e0 := HF.out.1.cell 0
    have e1 := HF.out.1.cell 1
    have e2 := HF.out.1.cell 2
    simp only [List.getElem?_toArray, List.getElem?_cons_zero, List.getElem?_cons_succ] at e0 e1 e2
    have hzr : Blk w4 w.heap.size 91 ([.int .i64 0, .int .i64 0, .int .i64 0] : List Value).toArray := H1.out.2.2.2.below HF.out.2 H1.out.2.2.2.lt
    by_cases g1 : x < 1
    · go_wp2_with (refine wpList_store_blk rfl 91 (.tmp 4) (.tmp 36) rfl w.heap.size 0 [.int .i64 0, .int .i64 0, .int .i64 0] rfl rfl [.int .i64 0, .int .i64 0, .int .i64 0] 91 hzr (by simp) Try.size91 (by simp [Value.oneCell']) ?_; intro w5 hb5 hc5 hs5; have r0 := Blk.cell hb5 0; have r1 := Blk.cell hb5 1; have r2 := Blk.cell hb5 2; simp only [splice, List.drop, List.nil_append, List.length_cons, List.length_nil, List.take, List.append_nil, List.getElem?_toArray, List.getElem?_cons_zero, List.getElem?_cons_succ] at r0 r1 r2; have HF5 := Lib.hid ((H1.out.2.2.1.trans (HF.out.2.mono H1.out.2.2.1.size)).trans (Chg.below hc5 (fun k hk => Nat.le_of_eq hk.symm) (Nat.le_trans H1.out.2.2.1.size HF.out.2.size))); clear hb5 hc5 hs5)
      refine bodyPost_ret (by rw [results_cell_tmp rfl]; go_simp; exact rfl) rfl ?_
      refine ⟨?_, HF5.out⟩
      rw [HM.out, if_pos (.inl g1)]
      rfl
    by_cases g2 : 2147483648 ≤ x
    · go_wp2_with (refine wpList_store_blk rfl 91 (.tmp 4) (.tmp 36) rfl w.heap.size 0 [.int .i64 0, .int .i64 0, .int .i64 0] rfl rfl [.int .i64 0, .int .i64 0, .int .i64 0] 91 hzr (by simp) Try.size91 (by simp [Value.oneCell']) ?_; intro w5 hb5 hc5 hs5; have r0 := Blk.cell hb5 0; have r1 := Blk.cell hb5 1; have r2 := Blk.cell hb5 2; simp only [splice, List.drop, List.nil_append, List.length_cons, List.length_nil, List.take, List.append_nil, List.getElem?_toArray, List.getElem?_cons_zero, List.getElem?_cons_succ] at r0 r1 r2; have HF5 := Lib.hid ((H1.out.2.2.1.trans (HF.out.2.mono H1.out.2.2.1.size)).trans (Chg.below hc5 (fun k hk => Nat.le_of_eq hk.symm) (Nat.le_trans H1.out.2.2.1.size HF.out.2.size))); clear hb5 hc5 hs5)
      refine bodyPost_ret (by rw [results_cell_tmp rfl]; go_simp; exact rfl) rfl ?_
      refine ⟨?_, HF5.out⟩
      rw [HM.out, if_pos (.inr (.inl g2))]
      rfl
    by_cases g3 : x % 2 = (k : Int)
    rotate_left
    · go_wp2_with (refine wpList_store_blk rfl 91 (.tmp 4) (.tmp 36) rfl w.heap.size 0 [.int .i64 0, .int .i64 0, .int .i64 0] rfl rfl [.int .i64 0, .int .i64 0, .int .i64 0] 91 hzr (by simp) Try.size91 (by simp [Value.oneCell']) ?_; intro w5 hb5 hc5 hs5; have r0 := Blk.cell hb5 0; have r1 := Blk.cell hb5 1; have r2 := Blk.cell hb5 2; simp only [splice, List.drop, List.nil_append, List.length_cons, List.length_nil, List.take, List.append_nil, List.getElem?_toArray, List.getElem?_cons_zero, List.getElem?_cons_succ] at r0 r1 r2; have HF5 := Lib.hid ((H1.out.2.2.1.trans (HF.out.2.mono H1.out.2.2.1.size)).trans (Chg.below hc5 (fun k hk => Nat.le_of_eq hk.symm) (Nat.le_trans H1.out.2.2.1.size HF.out.2.size))); clear hb5 hc5 hs5)
      refine bodyPost_ret (by rw [results_cell_tmp rfl]; go_simp; exact rfl) rfl ?_
      refine ⟨?_, HF5.out⟩
      rw [HM.out, if_pos (.inr (.inr g3))]
      rfl
    have hno : ¬ (x < 1 ∨ 2147483648 ≤ x ∨ x % 2 ≠ (k : Int)) := by omega
    by_cases g4 : 2 ≤ a
    · go_wp2_with (refine wpList_store_blk rfl 91 (.tmp 4) (.tmp 52) rfl w.heap.size 0 [.int .i64 0, .int .i64 0, .int .i64 0] rfl rfl [.int .i64 0, .int .i64 0, .int .i64 0] 91 hzr (by simp) Try.size91 (by simp [Value.oneCell']) ?_; intro w5 hb5 hc5 hs5; have r0 := Blk.cell hb5 0; have r1 := Blk.cell hb5 1; have r2 := Blk.cell hb5 2; simp only [splice, List.drop, List.nil_append, List.length_cons, List.length_nil, List.take, List.append_nil, List.getElem?_toArray, List.getElem?_cons_zero, List.getElem?_cons_succ] at r0 r1 r2; have HF5 := Lib.hid ((H1.out.2.2.1.trans (HF.out.2.mono H1.out.2.2.1.size)).trans (Chg.below hc5 (fun k hk => Nat.le_of_eq hk.symm) (Nat.le_trans H1.out.2.2.1.size HF.out.2.size))); clear hb5 hc5 hs5)
      refine bodyPost_ret (by rw [results_cell_tmp rfl]; go_simp; exact rfl) rfl ?_
      refine ⟨?_, HF5.out⟩
      rw [HM.out, if_neg hno, if_pos (.inl g4)]
      rfl
    by_cases g5 : y < 1
    · go_wp2_with (refine wpList_store_blk rfl 91 (.tmp 4) (.tmp 52) rfl w.heap.size 0 [.int .i64 0, .int .i64 0, .int .i64 0] rfl rfl [.int .i64 0, .int .i64 0, .int .i64 0] 91 hzr (by simp) Try.size91 (by simp [Value.oneCell']) ?_; intro w5 hb5 hc5 hs5; have r0 := Blk.cell hb5 0; have r1 := Blk.cell hb5 1; have r2 := Blk.cell hb5 2; simp only [splice, List.drop, List.nil_append, List.length_cons, List.length_nil, List.take, List.append_nil, List.getElem?_toArray, List.getElem?_cons_zero, List.getElem?_cons_succ] at r0 r1 r2; have HF5 := Lib.hid ((H1.out.2.2.1.trans (HF.out.2.mono H1.out.2.2.1.size)).trans (Chg.below hc5 (fun k hk => Nat.le_of_eq hk.symm) (Nat.le_trans H1.out.2.2.1.size HF.out.2.size))); clear hb5 hc5 hs5)
      refine bodyPost_ret (by rw [results_cell_tmp rfl]; go_simp; exact rfl) rfl ?_
      refine ⟨?_, HF5.out⟩
      rw [HM.out, if_neg hno, if_pos (.inr (.inl g5))]
      rfl
    go_wp2_with fail
    refine (headBytes_any _ x a y (by omega) (by omega) hyb).mono ?_
    rintro e w6 ⟨q6, rfl, hb6, hq6, hl6⟩
    have h16 : Below w1.heap.size w1 w6 := HF.out.2.trans (hl6.mono HF.out.2.size)
    have hra : Rd w6 w1.heap.size (some ⟨q, 0, none⟩) 64 (cells b) := H1.out.1.below h16 (Nat.le_refl _)
    have hrb : Rd w6 w6.heap.size (some ⟨q6, 0, none⟩) 64 (cells (headB x a y)) := Blk.rd hb6 (by rw [cells_len, headB_len])
    have hz6 := hzr.below hl6 hzr.lt
    have hb16 := HF.out.1.below hl6 HF.out.1.lt
    have e0 := hb16.cell 0
    have e1 := hb16.cell 1
    have e2 := hb16.cell 2
    simp only [List.getElem?_toArray, List.getElem?_cons_zero, List.getElem?_cons_succ] at e0 e1 e2
    have H6 := Lib.hid (And.intro (And.intro hra hrb) (And.intro hz6 (H1.out.2.2.1.trans (h16.mono H1.out.2.2.1.size))))
    clear hb6 hq6 hl6 h16 hra hrb hz6 hb16 hzr
    go_wp2_with fail
    refine (bytesEqual_any _ _ 64 64 64 64 _ _ b (headB x a y) w6 H6.out.1.1 H6.out.1.2 HB.out (headB_is hxb hab hyb)).mono ?_
    rintro e w6' ⟨rfl, rfl⟩
    by_cases g6 : b = headB x a y
    · have hno2 : ¬ (2 ≤ a ∨ y < 1 ∨ b ≠ headB x a y) := by
        rintro (h | h | h)
        · omega
        · omega
        · exact h g6
      rw [decide_eq_true g6]
      have HM2 := Lib.hid (HM.out.trans ((if_neg hno).trans (if_neg hno2)))
      clear g6 hno2
      go_wp2_with (refine wpList_store_blk rfl 91 (.tmp 4) (.tmp 53) rfl w.heap.size 0 [.int .i64 x, .int .i64 a, .int .i64 y] rfl rfl [.int .i64 0, .int .i64 0, .int .i64 0] 91 H6.out.2.1 (by simp) Try.size91 (by simp [Value.oneCell']) ?_; intro w7 hb7 hc7 hs7; have r0 := Blk.cell hb7 0; have r1 := Blk.cell hb7 1; have r2 := Blk.cell hb7 2; simp only [splice, List.drop, List.nil_append, List.length_cons, List.length_nil, List.take, List.append_nil, List.getElem?_toArray, List.getElem?_cons_zero, List.getElem?_cons_succ] at r0 r1 r2; have HF7 := Lib.hid (H6.out.2.2.trans (Chg.below hc7 (fun k hk => Nat.le_of_eq hk.symm) H6.out.2.2.size)); clear hb7 hc7 hs7)
      refine bodyPost_ret (by rw [results_cell_tmp rfl]; go_simp; exact rfl) rfl ?_
      refine ⟨?_, HF7.out⟩
      rw [HM2.out]
      rfl
    · have hyes : 2 ≤ a ∨ y < 1 ∨ b ≠ headB x a y := .inr (.inr g6)
      rw [decide_eq_false g6]
      have HM2 := Lib.hid (HM.out.trans ((if_neg hno).trans (if_pos hyes)))
      clear g6 hyes
      go_wp2_with (refine wpList_store_blk rfl 91 (.tmp 4) (.tmp 52) rfl w.heap.size 0 [.int .i64 0, .int .i64 0, .int .i64 0] rfl rfl [.int .i64 0, .int .i64 0, .int .i64 0] 91 H6.out.2.1 (by simp) Try.size91 (by simp [Value.oneCell']) ?_; intro w7 hb7 hc7 hs7; have r0 := Blk.cell hb7 0; have r1 := Blk.cell hb7 1; have r2 := Blk.cell hb7 2; simp only [splice, List.drop, List.nil_append, List.length_cons, List.length_nil, List.take, List.append_nil, List.getElem?_toArray, List.getElem?_cons_zero, List.getElem?_cons_succ] at r0 r1 r2; have HF7 := Lib.hid (H6.out.2.2.trans (Chg.below hc7 (fun k hk => Nat.le_of_eq hk.symm) H6.out.2.2.size)); clear hb7 hc7 hs7)
      refine bodyPost_ret (by rw [results_cell_tmp rfl]; go_simp; exact rfl) rfl ?_
      refine ⟨?_, HF7.out⟩
      rw [HM2.out]
      rfl
end Go.Proofs.Ytehghjakggdnpaa
