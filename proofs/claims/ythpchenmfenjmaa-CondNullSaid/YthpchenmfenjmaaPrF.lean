/-
  The program's Equals, of one name; its layer 12 is such as the laws want.
-/
import Derived.Test.YthpchenmfenjmaaPrE
import Derived.Test.YthpchenmfenjmaaPLays
import Derived.OwnWalk
import Derived.Laws.OwnMore
import Derived.Laws.AppendOwn
namespace Go.Proofs.Ythpchenmfenjmaa
open Go.RowKit Go.Lib Go.Shelf

theorem Try.infoval : (Try.prog.info? 23).map (fun i => (i.zero, i.size, i.bytes)) = some (some (.agg #[.int .i64 0, .int .i64 0, .string ⟨#[]⟩]), 3, 32) := by kernel_rfl
theorem clone_any (s : ByteArray) (w : World) (hs : s.size ≤ 281474976710656) : Calls Try.prog 31 #[.string s] w fun e w' => e = .returned (.string s) ∧ Below w.heap.size w w' :=
  Any.stringslite_Clone Try.laysClone s w hs
set_option maxRecDepth 100000 in
theorem clone2_any (s : ByteArray) (w : World) (hs : s.size ≤ 281474976710656) : Calls Try.prog 24 #[.string s] w fun e w' => e = .returned (.string s) ∧ Below w.heap.size w w' := by
  have HC := Lib.hid (clone_any s w (by omega))
  clear hs
  go_enter Try.func24, Try.ntmps24
  go_wp2_with fail
  refine HC.out.mono ?_
  rintro r w1 ⟨rfl, hb⟩
  have HB := Lib.hid hb
  clear hb
  go_wp2_with fail
  go_ret
  exact ⟨rfl, HB.out⟩
theorem eg_equals : ∀ args w, (callFunc 23 args).run Try.prog w = .ok (.enter 23 args) w := enters_of Try.func23 (by kernel_rfl) rfl
set_option maxRecDepth 100000 in
set_option maxHeartbeats 3200000 in
theorem equals_ask {s : ByteArray} {b : Nat} {w : World} (hb : b < w.heap.size) (hc : w.cell? ⟨b, 0, none⟩ = some (.string s)) : AskP 23 #[pt b] cdV (fun c => decide (c.op = 1) && decide (c.col = s)) w := fun W c hB => by
  have c0 : W.cell? ⟨b, 0, none⟩ = some (.string s) := (hB.cell (p := ⟨b, 0, none⟩) hb).trans hc
  have hW : b < W.heap.size := Nat.lt_of_lt_of_le hb hB.size
  have hne : b ≠ W.heap.size := by omega
  have HB := Lib.hid hB
  clear hB hc
  show Calls Try.prog 23 #[.agg #[.string c.col, .int .i64 c.op, .int .i64 c.w.k, .int .i64 c.w.n, .string c.w.s], pt b] W _
  have hr := str_eq c.col s
  obtain ⟨r, hr2⟩ : ∃ r, decide (c.col = s) = r := ⟨_, rfl⟩
  simp only [hr2] at hr ⊢
  clear hr2
  obtain ⟨col, op, y⟩ := c
  by_cases h1 : op = 1
  · subst h1
    go_enter Try.func23, Try.ntmps23
    go_wp2_with fail
    go_ret
    exact ⟨rfl, HB.out.alloc HB.out.size _⟩
  · have e1 : (op == 1) = false := by simp [h1]
    rw [decide_eq_false h1]
    clear h1
    go_enter Try.func23, Try.ntmps23
    go_wp2_with fail
    go_ret
    exact ⟨rfl, HB.out.alloc HB.out.size _⟩
theorem eqOf_idx (l : List Cd) (s : ByteArray) : eqOf l s = ((idxL (fun c => decide (c.op = 1) && decide (c.col = s)) l).bind (l[·]?)).map (·.w) := by
  unfold eqOf
  rw [idxL_find]
theorem cd_at2 {w : World} {B : Nat} {A : Option Addr} {l : List Cd} (h : RowG cdC 5 w B A l) {i : Nat} (hi : i < l.length) {y : Cd} (hy : y = l[i]) : ∃ ad, A = some ad ∧ ad.block < B ∧ w.cell? (ad.add (i * 5)) = some (.string y.col) ∧ w.cell? ⟨(ad.add (i * 5)).block, (ad.add (i * 5)).off + 1, none⟩ = some (.int .i64 y.op) ∧
    w.cell? ⟨(ad.add (i * 5)).block, (ad.add (i * 5)).off + 2, none⟩ = some (.int .i64 y.w.k) ∧ w.cell? ⟨(ad.add (i * 5)).block, (ad.add (i * 5)).off + 3, none⟩ = some (.int .i64 y.w.n) ∧ w.cell? ⟨(ad.add (i * 5)).block, (ad.add (i * 5)).off + 4, none⟩ = some (.string y.w.s) := by
  subst hy
  exact cd_at h hi
/-- a value in a box of the call's own -/
structure Vx (w0 w : World) (b : Nat) (v : Va) : Prop where
  low : Below w0.heap.size w0 w
  new : w0.heap.size ≤ b
  q : Blk w b 23 #[.int .i64 v.k, .int .i64 v.n, .string v.s]
theorem Vx.below {w0 w w' : World} {b : Nat} {v : Va} (h : Vx w0 w b v) (hb : Below w.heap.size w w') : Vx w0 w' b v := ⟨h.low.trans (hb.mono h.low.size), h.new, h.q.below hb h.q.lt⟩
theorem Vx.set {w0 w : World} {b : Nat} {v : Va} (h : Vx w0 w b v) : Vx w0 (w.setCell ⟨b, 2, none⟩ (.string v.s)) b v :=
  ⟨(((Chg.of_below (F := fun k => w0.heap.size ≤ k) h.low).setCell (fun _ => h.new) _).below (fun _ h => h) (Nat.le_refl _)), h.new, h.q.put 2 _⟩
theorem Vx.cells {w0 w : World} {b : Nat} {v : Va} (h : Vx w0 w b v) : w.cell? ⟨b, 0, none⟩ = some (.int .i64 v.k) ∧ w.cell? ⟨b, 1, none⟩ = some (.int .i64 v.n) ∧ w.cell? ⟨b, 2, none⟩ = some (.string v.s) ∧ w.frozen? ⟨b, 2, none⟩ = false := ⟨h.q.cell 0, h.q.cell 1, h.q.cell 2, h.q.frozen 2⟩
/-- what Equals hands back of one name -/
def EqRet (l : List Cd) (s : ByteArray) (w : World) (e : Ending) (w' : World) : Prop := Below w.heap.size w w' ∧ match eqOf l s with
  | some v => ∃ A' c', e = .returned (.tuple #[.slice A' 1 c', .bool true]) ∧ VaR w' A' 1 [v]
  | none => ∃ A' n' c', e = .returned (.tuple #[.slice A' n' c', .bool false])
theorem EqRet.no {l : List Cd} {s : ByteArray} {w w' : World} (h : eqOf l s = none) (hb : Below w.heap.size w w') : EqRet l s w (.returned (.tuple #[.slice none 0 0, .bool false])) w' := by
  refine ⟨hb, ?_⟩
  rw [h]
  exact ⟨_, _, _, rfl⟩
theorem EqRet.yes {l : List Cd} {s : ByteArray} {w w' : World} {v : Va} {A' : Option Addr} {c' : Nat} (h : eqOf l s = some v) (hb : Below w.heap.size w w') (hv : VaR w' A' 1 [v]) : EqRet l s w (.returned (.tuple #[.slice A' 1 c', .bool true])) w' := by
  refine ⟨hb, ?_⟩
  rw [h]
  exact ⟨_, _, rfl, hv⟩
theorem va_one {w0 w w' : World} {A' : Option Addr} {c' : Nat} {v : Va} (hs : v.Sm) (hb : Below w0.heap.size w0 w) (h : RowTo 0 23 3 (.slice none 0 0) w (.slice A' (0 + 1) c') (0 + 1) ([] ++ vcell v) w') : VaR w' A' 1 [v] ∧ Below w0.heap.size w0 w' := by
  have ho := h.own
  rw [Nat.zero_add, List.nil_append] at ho
  have hb2 : Below w.heap.size w w' := (h.chg.mono (G := Non) (fun k _ hk => by cases hk)).non
  refine ⟨⟨RowG.of_rows (c := c') (vs := [v]) (fun _ => rfl) (by simpa using ho) rfl, rfl, fun x hx => by rw [List.mem_singleton.1 hx]; exact hs, by simp⟩, hb.trans (hb2.mono hb.size)⟩
set_option maxRecDepth 100000 in
set_option maxHeartbeats 12800000 in
theorem equals_any {w : World} {A : Option Addr} {n c : Nat} {l : List Cd} (s : ByteArray) {sb : Nat} (h1 : CdR w A n l) (hsb : sb < w.heap.size) (hc : w.cell? ⟨sb, 0, none⟩ = some (.string s)) :
    Calls Try.prog 13 #[.slice A n c, .slice (some ⟨sb, 0, none⟩) 1 1] w (EqRet l s w) := by
  obtain ⟨i0, hi, hz0, hz1, hz2⟩ := info_parts Try.infoval
  have H := Lib.hid (And.intro h1 (And.intro hsb hc))
  have HB := Lib.hid (Below.refl w.heap.size w)
  clear h1 hsb hc
  go_enter Try.func13, Try.ntmps13
  go_wp2_with fail
  go_loopw [6, 8, 9, 10, 13] (fun r6 _ _ _ iv wr => Below w.heap.size w wr ∧ ((iv = .int .i64 0 ∧ r6 = .slice none 0 0) ∨ (iv = .int .i64 1 ∧ ∃ v A' c', eqOf l s = some v ∧ r6 = .slice A' 1 c' ∧ VaR wr A' 1 [v]))) (fun _ _ _ _ iv _ => 1 - (Lib.intOf iv).toNat)
  case atStart => exact ⟨HB.out, .inl ⟨rfl, rfl⟩⟩
  case round =>
    obtain ⟨hb, hrel⟩ := hrel
    rcases hrel with ⟨rfl, rfl⟩ | ⟨rfl, v, A', c', he, rfl, hv⟩
    · have g0 : wr.cell? ⟨sb, 0, none⟩ = some (.string s) := (hb.cell (p := ⟨sb, 0, none⟩) H.out.2.1).trans H.out.2.2
      obtain ⟨w1, hw1⟩ : ∃ w1, w1 = wr.alloc (.cells #[.string s] 9) := ⟨_, rfl⟩
      have hb1 : Below wr.heap.size wr w1 := by rw [hw1]; exact (Below.refl _ wr).alloc (Nat.le_refl _) _
      have hq : Blk w1 wr.heap.size 9 #[.string s] := by rw [hw1]; exact Blk.new _ _ _
      have hcd := (H.out.1.below hb).below hb1
      have hca := idxCd_any (c := c) hcd.row (Nat.le_refl _) hcd.len (by have := hcd.few; omega) eg_equals (equals_ask hq.lt (hq.cell 0))
      have HW := Lib.hid hw1
      have HB1 := Lib.hid (hb.trans (hb1.mono hb.size))
      have HC := Lib.hid hca
      have HD := Lib.hid hcd
      clear HB hb hb1 hq hcd hca hw1
      cases hx : idxL (fun c => decide (c.op = 1) && decide (c.col = s)) l with
      | none =>
        have HE := Lib.hid (show eqOf l s = none by rw [eqOf_idx, hx]; rfl)
        rw [hx] at HC
        clear hx
        go_wp2_with (go_at_call 22; rw [← HW.out]; refine HC.out.mono ?_; rintro e w2 ⟨rfl, hb2⟩; unfold idxI)
        refine bodyPost_ret (results_tmp2 rfl _ _ _) rfl ?_
        exact EqRet.no HE.out (HB1.out.trans (hb2.mono HB1.out.size))
      | some k =>
        have hkl : k < l.length := idxL_lt hx
        obtain ⟨y, hy⟩ : ∃ y, y = l[k] := ⟨_, rfl⟩
        have HE := Lib.hid (show eqOf l s = some y.w by rw [eqOf_idx, hx, hy]; simp [List.getElem?_eq_getElem hkl])
        have HS := Lib.hid (show y.Sm by rw [hy]; exact H.out.1.sm _ (List.getElem_mem _))
        rw [hx] at HC
        have HY := Lib.hid hy
        have hk0 : (0 : Int) ≤ (k : Int) := Int.natCast_nonneg _
        have hk1 : ¬ (k : Int) < 0 := by omega
        have hkn : (k : Int) < (n : Int) := by have := H.out.1.len; omega
        clear hx hy
        go_wp2_with (first
          | (go_at_call 22; rw [← HW.out]; refine HC.out.mono ?_; rintro e w2 ⟨rfl, hb2⟩; unfold idxI; obtain ⟨ad, rfl, _, a0, a1, a2, a3, a4⟩ := cd_at2 (HD.out.below hb2).row hkl HY.out; have HB2 := Lib.hid (HB1.out.trans (hb2.mono HB1.out.size)); clear hb2)
          | (go_at_call 24; have hV : Vx w (w2.alloc (.cells #[.int .i64 y.w.k, .int .i64 y.w.n, .string y.w.s] 23)) w2.heap.size y.w := ⟨HB2.out.alloc HB2.out.size _, HB2.out.size, Blk.new _ _ _⟩; refine (clone2_any y.w.s _ (by have := HS.out.2.1; omega)).mono ?_; rintro e w4 ⟨rfl, hb4⟩; have hV4 := hV.below hb4; obtain ⟨x0, x1, x2, x3⟩ := hV4.cells; have HV := Lib.hid hV4.set; have hN : ((w4.setCell ⟨w2.heap.size, 2, none⟩ (.string y.w.s)).alloc (.cells #[.int .i64 y.w.k, .int .i64 y.w.n, .string y.w.s] 23)).heap[w4.heap.size]? = some (.cells #[.int .i64 y.w.k, .int .i64 y.w.n, .string y.w.s] 23) := (by have h9 := Go.heap_alloc_new (w4.setCell ⟨w2.heap.size, 2, none⟩ (.string y.w.s)) (.cells #[.int .i64 y.w.k, .int .i64 y.w.n, .string y.w.s] 23); rw [show (w4.setCell ⟨w2.heap.size, 2, none⟩ (.string y.w.s)).heap.size = w4.heap.size by simp] at h9; exact h9); have HN := Lib.hid hN; clear hb4 hV hV4 hN a0 a1 a2 a3 a4)
          | (at_builtin; refine wpList_append_row rfl _ _ 28 rfl 0 23 i0 (.agg #[.int .i64 0, .int .i64 0, .string ⟨#[]⟩]) 3 32 Try.underlying28 hi hz0 hz1 hz2 rfl (by decide) _ 0 [] (World.ownsRow_nil _ _ _ _) (by rfl) (some ⟨w4.heap.size, 0, none⟩) 1 1 (vcell y.w) (by rfl) rfl (fun h => by cases h) (fun ad' had => by cases had; exact World.news_of_block HN.out) (by intro u hu; simp [vcell] at hu; rcases hu with rfl | rfl | rfl <;> rfl) (by simp [maxLen]) (by omega) (Nat.zero_le _) ?_; intro AX cX wX hRX; have HX := Lib.hid (va_one ⟨HS.out.2.1, HS.out.2.2.2.1, HS.out.2.2.2.2⟩ (HV.out.low.alloc HV.out.low.size _) hRX); clear hRX))
        go_roundw
        case rel => exact ⟨HX.out.2, .inr ⟨rfl, _, _, _, HE.out, rfl, HX.out.1⟩⟩
        case measure => simp [Lib.intOf]
    · have HE := Lib.hid he
      have HV := Lib.hid (And.intro hv hb)
      clear he hv hb
      go_wp2_with fail
      refine bodyPost_ret (results_tmp2 rfl _ _ _) rfl ?_
      exact EqRet.yes HE.out HV.out.2 HV.out.1
theorem implCo : ImplCo where
  place s h _ := place_any s h
  right h h2 := rightC_any h h2
  truth c _ h2 h3 := truthL_any c h2 h3
  holds h1 h2 h3 := holdsC_any h1 h2 h3
  refuses h1 h2 h3 := refusesC_any h1 h2 h3
  equals := @fun _ _ _ _ _ s _ h _ hs hc => equals_any s h hs hc
end Go.Proofs.Ythpchenmfenjmaa
