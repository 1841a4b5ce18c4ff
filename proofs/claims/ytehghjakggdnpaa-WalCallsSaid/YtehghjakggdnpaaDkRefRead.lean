/-
  The contracts of the document's Read and Image.
-/
import Derived.Test.YtehghjakggdnpaaDkRef
namespace Go.Proofs.Ytehghjakggdnpaa
open Go.RowKit Go.Lib

section
variable {w : World} {g : Nat} {G : Nat → Prop} {s : DS}
/-- sector k, in memory -/
theorem RefAt.last_at (h : RefAt w g G s) {k : Nat} (hk : k < s.last.length) : ∃ gl cl q c, w.cell? ⟨g, 0, none⟩ = some (.slice (some ⟨gl, 0, none⟩) s.last.length cl) ∧ w.cell? ⟨gl, k, none⟩ = some (.slice (some ⟨q, 0, none⟩) 64 c) ∧
    Rd w w.heap.size (some ⟨q, 0, none⟩) 64 (cells s.last[k]) ∧ g < w.heap.size ∧ gl < w.heap.size := by
  obtain ⟨L, W, lv, wv, h1, h2, h3, _, _, _, _, _, _, h6⟩ := h
  obtain ⟨gl, cl, rfl, _, hgl⟩ := h2.form (by omega)
  obtain ⟨v, hv, hd⟩ := h3.at_ hk
  obtain ⟨q, c, rfl, _, _, hr, _⟩ := hd.form (h6.len _ (List.getElem_mem hk))
  have c0 := h1.cell 0
  simp only [List.getElem?_toArray, List.getElem?_cons_zero] at c0
  refine ⟨gl, cl, q, c, c0, ?_, hr, h1.lt, hgl⟩
  rw [h2.cellAt k (by omega), hv]
theorem wrow_len (wr : List (Nat × List Int)) (vs : List Value) (h : vs.length = wr.length) : (wrow wr vs).length = wr.length := by simp [wrow, h]
theorem wrow_all (wr : List (Nat × List Int)) (vs : List Value) : ∀ x ∈ wrow wr vs, x.length = 2 := by
  intro x hx
  obtain ⟨p, _, rfl⟩ := List.mem_map.1 hx
  rfl
theorem wrow_at {wr : List (Nat × List Int)} {vs : List Value} {k : Nat} {v : Value} (hk : k < wr.length) (hv : vs[k]? = some v) : (wrow wr vs)[k]? = some [.int .i64 wr[k].1, v] := by
  simp only [wrow, List.getElem?_map, List.zip]
  rw [List.getElem?_zipWith, List.getElem?_eq_getElem hk, hv]
  rfl
/-- write k, in memory -/
theorem RefAt.wr_at (h : RefAt w g G s) {k : Nat} (hk : k < s.wr.length) : ∃ gw cw q c, w.cell? ⟨g, 1, none⟩ = some (.slice (some ⟨gw, 0, none⟩) s.wr.length cw) ∧ w.cell? ⟨gw, k * 2, none⟩ = some (.int .i64 s.wr[k].1) ∧ w.cell? ⟨gw, k * 2 + 1, none⟩ = some (.slice (some ⟨q, 0, none⟩) 64 c) ∧
    Rd w w.heap.size (some ⟨q, 0, none⟩) 64 (cells s.wr[k].2) ∧ g < w.heap.size ∧ gw < w.heap.size ∧ 64 ≤ c ∧ c ≤ maxLen := by
  obtain ⟨L, W, lv, wv, h1, _, _, h4, h5, _, _, _, _, h6⟩ := h
  obtain ⟨gw, cw, rfl, _, hgw⟩ := h4.form (by omega)
  obtain ⟨v, hv, hd⟩ := h5.at_ (i := k) (by simpa using hk)
  have hpl := (h6.wlen _ (List.getElem_mem hk)).2
  simp only [List.getElem_map] at hd
  obtain ⟨q, c, rfl, _, _, hr, _, hc1, hc2⟩ := hd.form hpl
  have c1 := h1.cell 1
  simp only [List.getElem?_toArray, List.getElem?_cons_zero, List.getElem?_cons_succ] at c1
  have hvl : wv.length = s.wr.length := by have := h5.1; simpa using this
  have hrow : ∀ j v, ([.int .i64 s.wr[k].1, .slice (some ⟨q, 0, none⟩) 64 c] : List Value)[j]? = some v → w.cell? ⟨gw, k * 2 + j, none⟩ = some v := by
    have hwk := wrow_at hk hv
    have hl : k < (wrow s.wr wv).length := by rw [wrow_len _ _ hvl]; exact hk
    rw [List.getElem?_eq_getElem hl] at hwk
    have hr2 := own_range h4 (wrow_all _ _) (i := k) hl
    rw [Option.some.inj hwk] at hr2
    exact hr2
  exact ⟨gw, cw, q, c, c1, hrow 0 _ rfl, hrow 1 _ rfl, hr, h1.lt, hgw, hc1, hc2⟩
/-- how many writes there are, in memory -/
theorem RefAt.wr_len (h : RefAt w g G s) : ∃ A c, w.cell? ⟨g, 1, none⟩ = some (.slice A s.wr.length c) := by
  obtain ⟨L, W, lv, wv, h1, _, _, h4, _⟩ := h
  have c1 := h1.cell 1
  simp only [List.getElem?_toArray, List.getElem?_cons_zero, List.getElem?_cons_succ] at c1
  rcases h4.2 with ⟨rfl, hn⟩ | ⟨gw, cap, cur, rfl, _⟩
  · exact ⟨none, 0, by rw [c1, hn]⟩
  · exact ⟨_, _, c1⟩
theorem RefAt.last_len (h : RefAt w g G s) : ∃ A c, w.cell? ⟨g, 0, none⟩ = some (.slice A s.last.length c) := by
  obtain ⟨gl, cl, _, _, h1, _⟩ := h.last_at (k := 0) (by have := h.ok.pos; omega)
  exact ⟨_, _, h1⟩
end

/-- bytes of the call's own -/
def SecRet (b : List Int) (w : World) (e : Ending) (w' : World) : Prop :=
  ∃ v', e = .returned (.tuple #[v', .int .i64 0]) ∧ w'.ownsRow w.heap.size 5 1 v' 64 (cells b) ∧ Below w.heap.size w w'
def RrRel (s : DS) (k : Nat) (w : World) (v i : Value) (wr : World) : Prop :=
  ∃ j : Nat, j ≤ s.wr.length ∧ i = .int .i64 j ∧ wr.ownsRow w.heap.size 5 1 v 64 (cells ((⟨s.last, s.wr.take j⟩ : DS).read k)) ∧ Below w.heap.size w wr

set_option maxRecDepth 100000 in
theorem refRead_no {w : World} {g : Nat} {G : Nat → Prop} {s : DS} (h : RefAt w g G s) (k : Int) (h0 : ¬ (0 ≤ k ∧ k < s.last.length)) :
    Calls Try.prog 60 #[.pointer (some ⟨g, 0, none⟩), .int .i64 k] w fun e w' => e = .returned (.tuple #[.slice none 0 0, .int .i64 40]) ∧ w = w' := by
  obtain ⟨A, c, c0⟩ := h.last_len
  by_cases hk : k < 0
  · go_enter Try.func60, Try.ntmps60
    go_wp2
    go_ret2
    exact ⟨rfl, rfl⟩
  · have h1 : (s.last.length : Int) ≤ k := by omega
    clear h0
    go_enter Try.func60, Try.ntmps60
    go_wp2
    go_ret2
    exact ⟨rfl, rfl⟩

set_option maxRecDepth 100000 in
set_option maxHeartbeats 1600000 in
theorem refRead_any {w : World} {g : Nat} {G : Nat → Prop} {s : DS} (h : RefAt w g G s) (k : Nat) (hk : k < s.last.length) :
    Calls Try.prog 60 #[.pointer (some ⟨g, 0, none⟩), .int .i64 k] w (SecRet (s.read k) w) := by
  have HH := Lib.hid h
  have hle := h.ok.le
  have few := h.ok.wfew
  obtain ⟨gl, cl, q, c, c0, cr, hr, hg, hgl⟩ := h.last_at hk
  have HR := Lib.hid hr
  have hk0 : (0 : Int) ≤ (k : Int) := Int.natCast_nonneg _
  have hk1 : (k : Int) < (s.last.length : Int) := by omega
  have hk2 : ¬ (s.last.length : Int) ≤ (k : Int) := by omega
  have hl64 : (s.last[k]).length = 64 := h.ok.len _ (List.getElem_mem hk)
  have H64 := Lib.hid hl64
  clear h hr hl64
  go_enter Try.func60, Try.ntmps60
  go_wp2_with fail
  refine (dkcopyBytes_any _ 64 c s.last[k] w HR.out (by omega)).mono ?_
  rintro e w1 ⟨v1, rfl, o1, b1⟩
  have HO := Lib.hid (And.intro o1 b1)
  clear o1 b1
  go_wp2_with fail
  go_loopw [6, 7] (fun v i wr => RrRel s k w v i wr) (fun _ i _ => s.wr.length - (intOf i).toNat)
  case atStart =>
    refine ⟨0, by omega, rfl, ?_, HO.out.2⟩
    have e1 : (DS.mk s.last (s.wr.take 0)).read k = s.last[k] := by
      rw [show (DS.mk s.last (s.wr.take 0)).read k = s.last.getD k [] from rfl, getD_lt hk]
    rw [e1]
    have := HO.out.1
    rwa [H64.out] at this
  case round =>
    obtain ⟨j, hj, rfl, own, hbel⟩ := hrel
    have hR := HH.out.below hbel
    clear c0 cr
    by_cases hlt : j < s.wr.length
    · obtain ⟨gw, cw, q', c', d1, d2, d3, hr', hg', hgw', _⟩ := hR.wr_at hlt
      obtain ⟨p, hp⟩ : ∃ p, p = s.wr[j]'hlt := ⟨_, rfl⟩
      rw [← hp] at d2 hr'
      obtain ⟨pn, pb⟩ := p
      simp only at d2 hr'
      have hj0 : (0 : Int) ≤ (j : Int) := Int.natCast_nonneg _
      have hj1 : (j : Int) < (s.wr.length : Int) := by omega
      have hnext : ∀ q, (DS.mk s.last (s.wr.take (j + 1))).read q = if pn = q then pb else (DS.mk s.last (s.wr.take j)).read q := by
        intro q
        unfold DS.read
        simp only
        rw [List.take_succ_eq_append_getElem hlt, lastWr_snoc, ← hp]
        simp only
        split <;> rfl
      have hp2 : pb.length = 64 := by have := (HH.out.ok.wlen _ (List.getElem_mem hlt)).2; rwa [← hp] at this
      have HX := Lib.hid (And.intro own (And.intro hbel (And.intro hr' (And.intro hnext hp2))))
      clear own hbel hr' hnext hp2 hR
      by_cases hpk : pn = k
      · have HK := Lib.hid hpk
        have e1 : (pn : Int) = (k : Int) := by omega
        rw [e1] at d2
        clear hpk e1
        go_wp2_with fail
        refine (dkcopyBytes_any _ 64 c' pb wr HX.out.2.2.1 (by omega)).mono ?_
        rintro e w2 ⟨v2, rfl, o2, b2⟩
        have HF : Hid (RrRel s k w v2 (.int .i64 ((j : Int) + 1)) w2) := by
          refine Lib.hid ⟨j + 1, by omega, by go_num, ?_, HX.out.2.1.trans (b2.mono HX.out.2.1.size)⟩
          rw [HX.out.2.2.2.1, if_pos HK.out]
          rw [HX.out.2.2.2.2] at o2
          exact own_base o2 HX.out.2.1.size
        clear o2 b2
        go_wp2
        go_roundw
        case rel => exact HF.out
        case measure => simp [intOf]; omega
      · have e1 : ¬ ((pn : Int) = (k : Int)) := by omega
        have e2 : ¬ (pn = k) := hpk
        have e3 : ((pn : Int) == (k : Int)) = false := by rw [beq_eq_false_iff_ne]; omega
        have e4 : (pn == k) = false := by rw [beq_eq_false_iff_ne]; exact hpk
        have HF : ∀ v, wr.ownsRow w.heap.size 5 1 v 64 (cells ((⟨s.last, s.wr.take j⟩ : DS).read k)) → RrRel s k w v (.int .i64 ((j : Int) + 1)) wr := fun v hv =>
          ⟨j + 1, by omega, by go_num, by rw [HX.out.2.2.2.1, if_neg e2]; exact hv, HX.out.2.1⟩
        have HF2 := Lib.hid (HF _ HX.out.1)
        clear HF
        go_wp2
        go_roundw
        case rel => exact HF2.out
        case measure => simp [intOf]; omega
    · obtain ⟨A', c', d1⟩ := hR.wr_len
      have hj1 : j = s.wr.length := by omega
      rw [hj1, List.take_length] at own
      have hf := Lib.hid (And.intro own hbel)
      clear own hbel hR
      have hj2 : ¬ j < s.wr.length := hlt
      go_wp2
      go_ret2
      exact ⟨_, rfl, hf.out⟩

theorem rows_flat' (L : List (List Int)) : Rows' (L.map cells) = cells L.flatten := by
  induction L with
  | nil => rfl
  | cons b L ih =>
    simp only [Rows', List.map_cons, List.flatten_cons, cells, List.map_append] at ih ⊢
    rw [ih]
def RiRel (s : DS) (w : World) (v i : Value) (wr : World) : Prop :=
  ∃ k : Nat, k ≤ s.last.length ∧ i = .int .i64 k ∧ wr.ownsRow w.heap.size 5 1 v (s.last.take k).flatten.length (cells (s.last.take k).flatten) ∧ Below w.heap.size w wr

set_option maxRecDepth 100000 in
set_option maxHeartbeats 1600000 in
theorem refImage_any {w : World} {g : Nat} {G : Nat → Prop} {s : DS} (h : RefAt w g G s) :
    Calls Try.prog 32 #[.pointer (some ⟨g, 0, none⟩)] w (DkOwnRet w.heap.size s.last.flatten w) := by
  obtain ⟨i0, hi, hz0, hz1, hz2⟩ := info_parts Try.dkinfo5
  have HH := Lib.hid h
  have hle := h.ok.le
  clear h
  go_enter Try.func32, Try.ntmps32
  go_wp2
  go_loopw [3, 4] (fun v i wr => RiRel s w v i wr) (fun _ i _ => s.last.length - (intOf i).toNat)
  case atStart =>
    refine ⟨0, by omega, rfl, ?_, (Below.refl _ _).alloc (Nat.le_refl _) _⟩
    exact World.ownsRow_lit w #[] 0 (Nat.le_refl _) (by simp [maxLen]) (by simp)
  case round =>
    obtain ⟨k, hk, rfl, own, hbel⟩ := hrel
    have hR := HH.out.below hbel
    by_cases hlt : k < s.last.length
    · obtain ⟨gl, cl, q, c, c0, cr, hr, hg, hgl⟩ := hR.last_at hlt
      have hk0 : (0 : Int) ≤ (k : Int) := Int.natCast_nonneg _
      have hk1 : (k : Int) < (s.last.length : Int) := by omega
      have hl64 : (s.last[k]).length = 64 := HH.out.ok.len _ (List.getElem_mem hlt)
      have hnext : (s.last.take (k + 1)).flatten = (s.last.take k).flatten ++ s.last[k] := by
        rw [List.take_succ_eq_append_getElem hlt, List.flatten_append]; simp
      have hlen : (s.last.take k).flatten.length = k * 64 := by
        have h1 := rows_len (L := (s.last.take k).map cells) (cells_all _ (fun b hb => HH.out.ok.len b (List.mem_of_mem_take hb)))
        rw [rows_flat', cells_len, List.length_map, List.length_take] at h1
        rw [h1]; congr 1; omega
      obtain ⟨X, hX⟩ : ∃ X, X = (s.last.take k).flatten := ⟨_, rfl⟩
      rw [← hX] at own hlen hnext
      have HX := Lib.hid (And.intro own (And.intro hbel (And.intro hr (And.intro hnext (And.intro hlen hl64)))))
      have hsz := hbel.size
      clear own hbel hr hnext hlen hl64 hR hX
      go_wp2_with (refine wpList_append_rd _ rfl (.tmp 15) (.tmp 22) 38 rfl w.heap.size 5 i0 (.int .u8 0) 1 Try.underlying38 hi hz0 hz1 hz2 rfl _ _ _ rfl HX.out.1 wr.heap.size (some ⟨q, 0, none⟩) 64 c _ rfl HX.out.2.2.1 (cells_one _) ?c3 ?c4 ?c5 ?_)
      case c3 => have := HX.out.2.2.2.2.1; simp [maxLen] at this ⊢; omega
      case c4 => have := HX.out.2.2.2.2.1; simp at this ⊢; omega
      case c5 => exact hsz
      intro v' w3 own3 hgrow
      have HF : Hid (RiRel s w v' (.int .i64 ((k : Int) + 1)) w3) := by
        refine Lib.hid ⟨k + 1, by omega, by go_num, ?_, HX.out.2.1.trans (below_own HX.out.1 hgrow hsz)⟩
        rw [HX.out.2.2.2.1, List.length_append, HX.out.2.2.2.2.2, cells_append]
        exact own3
      clear own3 hgrow
      go_wp2
      go_roundw
      case rel => exact HF.out
      case measure => simp [intOf]; omega
    · obtain ⟨A', c', d1⟩ := hR.last_len
      have hkn : k = s.last.length := by omega
      have HF : ∀ v, wr.ownsRow w.heap.size 5 1 v (s.last.take k).flatten.length (cells (s.last.take k).flatten) → DkOwnRet w.heap.size s.last.flatten w (.returned v) wr := by
        intro v hv
        rw [hkn, List.take_length] at hv
        exact ⟨v, rfl, hv, hbel⟩
      have HF2 := Lib.hid (HF _ own)
      clear own hbel hR HF hkn
      go_wp2
      go_ret
      exact HF2.out

end Go.Proofs.Ytehghjakggdnpaa
