/-
  Results in a cell: a want.
-/
import Derived.Test.YthbbheegkhlniaaGreatM05
import Derived.BigRegion
import Derived.Test.YthbbheegkhlniaaGreatImR
namespace Go.Proofs.YthbbheegkhlniaaGreat
open Go.RowKit Go.Lib

theorem results_cell_tmp {fn : Func} {p q : Tmp} {ty : TypeId} (h : fn.results = #[.cell p ty, .tmp q]) (tmps : Array Value) (P : Program) (w : World) {a : Addr} {u : Value} (h1 : tmps.getD p undef = .pointer (some a)) (hu : (loadVar ty a).run P w = .ok u w) :
    (results fn tmps).run P w = .ok (.tuple #[u, tmps.getD q undef]) w := by
  simp only [Array.getD_eq_getD_getElem?] at h1
  simp [results, h, h1, asAddr, Result.andThen, hu]
theorem blk_put4 {w : World} {b : Nat} {t : TypeId} {u0 u1 u2 u3 v0 v1 v2 v3 : Value} (h : Blk w b t #[u0, u1, u2, u3]) : Blk ((((w.setCell ⟨b, 0, none⟩ v0).setCell ⟨b, 1, none⟩ v1).setCell ⟨b, 2, none⟩ v2).setCell ⟨b, 3, none⟩ v3) b t #[v0, v1, v2, v3] := (((h.put 0 v0).put 1 v1).put 2 v2).put 3 v3
theorem chg_put4 (w : World) (b : Nat) (v0 v1 v2 v3 : Value) : Chg (fun k => k = b) w ((((w.setCell ⟨b, 0, none⟩ v0).setCell ⟨b, 1, none⟩ v1).setCell ⟨b, 2, none⟩ v2).setCell ⟨b, 3, none⟩ v3) :=
  ((((Chg.refl (fun k => k = b) w).setCell (p := ⟨b, 0, none⟩) (fun _ => rfl) v0).setCell (p := ⟨b, 1, none⟩) (fun _ => rfl) v1).setCell (p := ⟨b, 2, none⟩) (fun _ => rfl) v2).setCell (p := ⟨b, 3, none⟩) (fun _ => rfl) v3
theorem load_want {w : World} {b : Nat} {k m : Int} {t y : ByteArray} (h : Blk w b 34 #[.int .i64 k, .string t, .string y, .int .i64 m]) : (loadVar 34 ⟨b, 0, none⟩).run Tryz.prog w = .ok (.agg #[.int .i64 k, .string t, .string y, .int .i64 m]) w := by
  have c0 : w.cell? ⟨b, 0, none⟩ = some (.int .i64 k) := h.cell 0
  have c1 : w.cell? ⟨b, 1, none⟩ = some (.string t) := h.cell 1
  have c2 : w.cell? ⟨b, 2, none⟩ = some (.string y) := h.cell 2
  have c3 : w.cell? ⟨b, 3, none⟩ = some (.int .i64 m) := h.cell 3
  go_simp
def waitO (o : Option Od) : Value := match o with
  | some o => .tuple #[wantV o.th o.m, .bool true]
  | none => .tuple #[wantV ⟨0, eS, eS⟩ 0, .bool false]
end Go.Proofs.YthbbheegkhlniaaGreat

/-
  The program's locks: what they stand for; New, Waiting.
-/
namespace Go.Proofs.YthbbheegkhlniaaGreat
open Go.RowKit Go.Lib Go.Shelf Go.Maps

def hsL (H : List Od) (t : Th) : List Hd := (H.filter fun o => decide (o.th = t)).map fun o => (o.x, o.m, false)
def wsL (W : List Od) (t : Th) : List Hd := (W.filter fun o => decide (o.th = t)).map fun o => (o.x, o.m, true)
def tgL (H : List Od) (x : Int) : List Th := (H.filter fun o => decide (o.x = x)).map fun o => o.th
def wnL (W : List Od) (x : Int) : Option (Th × Int) := (waitL W x).map fun o => (o.th, o.m)
/-- the program's memory stands for these locks -/
structure Rep (l : Lk) (S : Sx) : Prop where
  h : S.h = hsL l.H
  v : S.v = wsL l.W
  tg : S.tg = tgL l.H
  wn : S.wn = wnL l.W
  ls : ∀ t, (S.ls t).isSome = l.H.any fun o => decide (o.th = t)
  kh : ∀ o ∈ l.H, o.th.Key ∧ NumI o.x
  kw : ∀ o ∈ l.W, o.th.Key ∧ NumI o.x
def TI : LkP := fun B D w tb l => LkOk l ∧ ∃ S, Mm B D w tb S ∧ Rep l S
theorem hsL_len (H : List Od) (t : Th) : (hsL H t).length ≤ H.length := by
  unfold hsL
  rw [List.length_map]
  exact List.length_filter_le _ _
theorem wsL_len (W : List Od) (t : Th) : (wsL W t).length ≤ W.length := by
  unfold wsL
  rw [List.length_map]
  exact List.length_filter_le _ _
theorem tgL_len (H : List Od) (x : Int) : (tgL H x).length ≤ H.length := by
  unfold tgL
  rw [List.length_map]
  exact List.length_filter_le _ _
theorem Rep.bnd {B tb : Nat} {D : Nat → Prop} {w : World} {l : Lk} {S : Sx} (h : Rep l S) (hm : Mm B D w tb S) (hz : szL l ≤ 1000) : Bnd 1000 S := by
  unfold szL at hz
  refine ⟨⟨l.H.map (·.th), by simp; omega, fun t ht => ?_⟩, ⟨l.H.map (·.x), by simp; omega, fun x hx => ?_⟩, ⟨l.W.map (·.x), by simp; omega, fun x hx => ?_⟩⟩
  · rw [show (f0 S.ls t).isSome = (S.ls t).isSome by unfold f0; simp, h.ls, List.any_eq_true] at ht
    obtain ⟨o, ho, e⟩ := ht
    exact List.mem_map.2 ⟨o, ho, of_decide_eq_true e⟩
  · have h1 := hm.tn x hx
    rw [h.tg] at h1
    unfold tgL at h1
    cases hf : l.H.filter (fun o => decide (o.x = x)) with
    | nil => rw [hf] at h1; exact absurd rfl h1
    | cons a r =>
      have ha : a ∈ l.H.filter fun o => decide (o.x = x) := by rw [hf]; exact List.mem_cons_self
      rw [List.mem_filter] at ha
      exact List.mem_map.2 ⟨a, ha.1, of_decide_eq_true ha.2⟩
  · rw [show (f2 S.wn x).isSome = (S.wn x).isSome by unfold f2; simp, h.wn] at hx
    unfold wnL at hx
    cases hw : waitL l.W x with
    | none => rw [hw] at hx; cases hx
    | some o =>
      obtain ⟨h1, h2⟩ := mem_waitL hw
      exact List.mem_map.2 ⟨o, h1, h2⟩
theorem Rep.none_ {l : Lk} {S : Sx} (h : Rep l S) {t : Th} (hls : S.ls t = none) : hsL l.H t = [] := by
  have h1 := h.ls t
  rw [hls] at h1
  unfold hsL
  have h2 : l.H.filter (fun o => decide (o.th = t)) = [] := by
    rw [List.filter_eq_nil_iff]
    intro o ho hd
    have : (l.H.any fun o => decide (o.th = t)) = true := List.any_eq_true.2 ⟨o, ho, hd⟩
    rw [this] at h1
    cases h1
  rw [h2]
  rfl
/-- nobody waits for what nobody holds -/
theorem LkOk.held {l : Lk} (h : LkOk l) {t : Th} (ht : hsL l.H t = []) : wsL l.W t = [] := by
  unfold wsL
  have h2 : l.W.filter (fun o => decide (o.th = t)) = [] := by
    rw [List.filter_eq_nil_iff]
    intro o ho hd
    have key : ∀ (n : Nat) (a : List Od) (o : Od) (b : List Od), a.length = n → l.W = a ++ o :: b → o.th = t → False := by
      intro n
      induction n using Nat.strongRecOn with
      | _ n ih =>
        intro a o b hn hW hot
        rcases h.b a o b hW id with ⟨hh, hhm, e1, _⟩ | ⟨x, hx, e1, _⟩
        · have : (hh.x, hh.m, false) ∈ hsL l.H t := List.mem_map.2 ⟨hh, List.mem_filter.2 ⟨hhm, decide_eq_true (e1.trans hot)⟩, rfl⟩
          rw [ht] at this
          cases this
        · rw [List.nil_append] at hx
          obtain ⟨a1, a2, rfl⟩ := List.append_of_mem hx
          exact ih a1.length (by rw [← hn]; simp) a1 x (a2 ++ o :: b) rfl (by rw [hW]; simp) (e1.trans hot)
    obtain ⟨a, b, hW⟩ := List.append_of_mem ho
    exact key _ a o b rfl hW (of_decide_eq_true hd)
  rw [h2]
  rfl
def newO (s : Nat) : Nat → Lb := fun k => if k = s then .m 0 else if k = s + 1 then .m 1 else if k = s + 2 then .m 2 else if k = s + 3 then .root else .no
theorem newO_0 (s : Nat) : newO s s = .m 0 := if_pos rfl
theorem newO_1 (s : Nat) : newO s (s + 1) = .m 1 := by unfold newO; rw [if_neg (by omega), if_pos rfl]
theorem newO_2 (s : Nat) : newO s (s + 2) = .m 2 := by unfold newO; rw [if_neg (by omega), if_neg (by omega), if_pos rfl]
theorem newO_3 (s : Nat) : newO s (s + 3) = .root := by unfold newO; rw [if_neg (by omega), if_neg (by omega), if_neg (by omega), if_pos rfl]
theorem newO_lt {s k : Nat} (h : newO s k ≠ .no) : s ≤ k ∧ k < s + 4 := by
  unfold newO at h
  refine ⟨?_, ?_⟩ <;> (repeat' split at h) <;> first | omega | exact absurd rfl h
set_option maxRecDepth 100000 in
set_option maxHeartbeats 3200000 in
theorem lnew_any (w : World) (B : Nat) (hB : B ≤ w.heap.size) : Calls Tryz.prog 6 #[] w fun e w' => ∃ tb D, e = .returned (ptrL tb) ∧ TI B D w' tb ⟨[], []⟩ ∧ (∀ k, D k → w.heap.size ≤ k) ∧ Below w.heap.size w w' := by
  obtain ⟨wa, hwa⟩ : ∃ wa, wa = w.alloc (.map #[] 0) := ⟨_, rfl⟩
  obtain ⟨wb, hwb⟩ : ∃ wb, wb = wa.alloc (.map #[] 0) := ⟨_, rfl⟩
  obtain ⟨wc, hwc⟩ : ∃ wc, wc = wb.alloc (.map #[] 0) := ⟨_, rfl⟩
  have sa : wa.heap.size = w.heap.size + 1 := by rw [hwa]; simp
  have sb : wb.heap.size = w.heap.size + 2 := by rw [hwb]; simp [sa]
  have sc : wc.heap.size = w.heap.size + 3 := by rw [hwc]; simp [sb]
  obtain ⟨wd, hwd⟩ : ∃ wd, wd = wc.alloc (.cells #[.map (some w.heap.size), .map (some (w.heap.size + 1)), .map (some (w.heap.size + 2))] 56) := ⟨_, rfl⟩
  have sd : wd.heap.size = w.heap.size + 4 := by rw [hwd]; simp [sc]
  have ba : Below w.heap.size w wa := by rw [hwa]; exact (Below.refl _ w).alloc (Nat.le_refl _) _
  have bb : Below wa.heap.size wa wb := by rw [hwb]; exact (Below.refl _ wa).alloc (Nat.le_refl _) _
  have bc : Below wb.heap.size wb wc := by rw [hwc]; exact (Below.refl _ wb).alloc (Nat.le_refl _) _
  have bd : Below wc.heap.size wc wd := by rw [hwd]; exact (Below.refl _ wc).alloc (Nat.le_refl _) _
  have m0 : MapM thV wa 32 w.heap.size (fun _ => none) := by rw [hwa]; exact MapM.made w thV _
  have m1 : MapM iV wb 3 wa.heap.size (fun _ => none) := by rw [hwb]; exact MapM.made wa iV _
  have m2 : MapM iV wc 3 wb.heap.size (fun _ => none) := by rw [hwc]; exact MapM.made wb iV _
  have m0' := ((m0.chg (F := Non) (Chg.of_below bb) (fun h => h)).chg (F := Non) (Chg.of_below bc) (fun h => h)).chg (F := Non) (Chg.of_below bd) (fun h => h)
  have m1' := (m1.chg (F := Non) (Chg.of_below bc) (fun h => h)).chg (F := Non) (Chg.of_below bd) (fun h => h)
  have m2' := m2.chg (F := Non) (Chg.of_below bd) (fun h => h)
  have hbl : Blk wd wc.heap.size 56 #[.map (some w.heap.size), .map (some (w.heap.size + 1)), .map (some (w.heap.size + 2))] := by rw [hwd]; exact Blk.new _ _ _
  rw [sa] at m1'
  rw [sb] at m2'
  rw [sc] at hbl
  have hbel : Below w.heap.size w wd := ((ba.trans (bb.mono (by omega))).trans (bc.mono (by omega))).trans (bd.mono (by omega))
  have HT := Lib.hid (show TI B (fun k => w.heap.size ≤ k ∧ k < w.heap.size + 4) wd (w.heap.size + 3) ⟨[], []⟩ from by
    refine ⟨⟨⟨fun o ho => (by cases ho), List.Pairwise.nil⟩, ⟨fun o ho => (by cases ho), List.Pairwise.nil, fun o ho => (by cases ho)⟩, fun a o b hab => (by cases a <;> simp at hab)⟩, ⟨w.heap.size, w.heap.size + 1, w.heap.size + 2, newO w.heap.size, fun _ => none, fun _ => nilS, fun _ => nilS, fun _ => [], fun _ => [], fun _ => none, fun _ => [], fun _ => none⟩, ?_, ?_⟩
    · exact ⟨hbl, newO_3 _, newO_0 _, newO_1 _, newO_2 _, m0', m1', m2', fun t b hb => (by cases hb), fun t => RowL.nil _ _ _ _, fun t => RowL.nil _ _ _ _, fun x => RowL.nil _ _ _ _, fun k hk => newO_lt hk, fun k hk => by omega, fun x hx => (by cases hx)⟩
    · exact ⟨by funext t; rfl, by funext t; rfl, by funext x; rfl, by funext x; rfl, fun t => rfl, fun o ho => (by cases ho), fun o ho => (by cases ho)⟩)
  have HW := Lib.hid (And.intro hwa (And.intro hwb (And.intro hwc (And.intro hwd hbel))))
  have hmm := @run_makeMap Tryz.prog
  clear ba bb bc bd m0 m1 m2 m0' m1' m2' hbl hbel sd sa sb sc
  go_enter Tryz.func6, Tryz.ntmps6
  go_wp2_with fail
  go_ret
  refine ⟨w.heap.size + 3, (fun k => w.heap.size ≤ k ∧ k < w.heap.size + 4), by simp, ?_, fun k hk => hk.1, ?_⟩
  · have := HT.out
    rw [HW.out.2.2.2.1, HW.out.2.2.1, HW.out.2.1, HW.out.1] at this
    exact this
  · have := HW.out.2.2.2.2
    rw [HW.out.2.2.2.1, HW.out.2.2.1, HW.out.2.1, HW.out.1] at this
    exact this
end Go.Proofs.YthbbheegkhlniaaGreat

/-
  The program's locks: Waiting, Mode.
-/
namespace Go.Proofs.YthbbheegkhlniaaGreat
open Go.RowKit Go.Lib Go.Shelf Go.Maps

theorem waV_agg (l : Lk) (x : Int) : waitR l x = .tuple #[waV (wnL l.W x), .bool (wnL l.W x).isSome] := by
  unfold waitR wnL waV
  cases waitL l.W x with
  | none => rfl
  | some o => rfl
theorem waV_form (q : Option (Th × Int)) : ∃ k t y m, waV q = .agg #[.int .i64 k, .string t, .string y, .int .i64 m] := by
  cases q with
  | none => exact ⟨0, _, _, 0, rfl⟩
  | some q => exact ⟨q.1.k, q.1.t, q.1.y, q.2, rfl⟩
set_option maxRecDepth 100000 in
set_option maxHeartbeats 6400000 in
theorem lwaiting_any {B tb : Nat} {D : Nat → Prop} {w : World} {l : Lk} (x : Int) (h : TI B D w tb l) (hx : NumI x) :
    Calls Tryz.prog 14 #[ptrL tb, .int .i64 x] w fun r w' => r = .returned (waitR l x) ∧ Below w.heap.size w w' := by
  obtain ⟨_, S, hm, hr⟩ := h
  obtain ⟨w1, hw1⟩ : ∃ w1, w1 = w.alloc (.cells #[.int .i64 0, .string ⟨#[]⟩, .string ⟨#[]⟩, .int .i64 0] 34) := ⟨_, rfl⟩
  obtain ⟨b, hb⟩ : ∃ b, b = w.heap.size := ⟨_, rfl⟩
  have hB1 : Below w.heap.size w w1 := by rw [hw1]; exact (Below.refl _ w).alloc (Nat.le_refl _) _
  have hK : Blk w1 b 34 #[.int .i64 0, .string ⟨#[]⟩, .string ⟨#[]⟩, .int .i64 0] := by rw [hw1, hb]; exact Blk.new _ _ _
  have hm1 := hm.below hB1
  have hlk := hm1.look2 hx
  have hres := waV_agg l x
  rw [← hr.wn] at hres
  rw [hres]
  obtain ⟨wk, wt, wy, wm, hwv⟩ := waV_form (S.wn x)
  rw [hwv] at hlk ⊢
  obtain ⟨r, hr'⟩ : ∃ r, r = (S.wn x).isSome := ⟨_, rfl⟩
  rw [← hr'] at hlk ⊢
  have c2 := hm1.c2
  obtain ⟨w2, hw2⟩ : ∃ w2, w2 = w1.alloc (.cells #[.int .i64 wk, .string wt, .string wy, .int .i64 wm] 34) := ⟨_, rfl⟩
  have hK2 : Blk w2 b 34 #[.int .i64 0, .string ⟨#[]⟩, .string ⟨#[]⟩, .int .i64 0] := by rw [hw2]; exact hK.alloc _
  have k0 : w2.cell? ⟨b, 0, none⟩ = some (.int .i64 0) := hK2.cell 0
  have k1 : w2.cell? ⟨b, 1, none⟩ = some (.string ⟨#[]⟩) := hK2.cell 1
  have k2 : w2.cell? ⟨b, 2, none⟩ = some (.string ⟨#[]⟩) := hK2.cell 2
  have k3 : w2.cell? ⟨b, 3, none⟩ = some (.int .i64 0) := hK2.cell 3
  have hK3 : Blk w2 w1.heap.size 34 #[.int .i64 wk, .string wt, .string wy, .int .i64 wm] := by rw [hw2]; exact Blk.new _ _ _
  have y0 : w2.cell? ⟨w1.heap.size, 0, none⟩ = some (.int .i64 wk) := hK3.cell 0
  have y1 : w2.cell? ⟨w1.heap.size, 1, none⟩ = some (.string wt) := hK3.cell 1
  have y2 : w2.cell? ⟨w1.heap.size, 2, none⟩ = some (.string wy) := hK3.cell 2
  have y3 : w2.cell? ⟨w1.heap.size, 3, none⟩ = some (.int .i64 wm) := hK3.cell 3
  have z0 := hK2.frozen 0
  have z1 := hK2.frozen 1
  have z2 := hK2.frozen 2
  have z3 := hK2.frozen 3
  have H := Lib.hid (And.intro hB1 (And.intro hw1 (And.intro hb (And.intro hw2 hK2))))
  clear hm hr hB1 hK hm1 hres hwv hr' hw1 hK2 hK3
  go_enter Tryz.func14, Tryz.ntmps14
  go_upto_region 1 with fail
  rw [← hb, ← H.out.2.1]
  clear hb
  go_upto_region 2 with fail
  rw [← hw2]
  clear hw2
  go_wp2_with fail
  have hk4 := blk_put4 (v0 := .int .i64 wk) (v1 := .string wt) (v2 := .string wy) (v3 := .int .i64 wm) H.out.2.2.2.2
  have hb2 : Below w.heap.size w w2 := by rw [H.out.2.2.2.1]; exact H.out.1.alloc H.out.1.size _
  have hc4 := (chg_put4 w2 b (.int .i64 wk) (.string wt) (.string wy) (.int .i64 wm)).below (B := w.heap.size) (fun q hq => by subst hq; exact Nat.le_of_eq H.out.2.2.1.symm) hb2.size
  exact bodyPost_ret (results_cell_tmp rfl _ _ _ rfl (load_want hk4)) rfl ⟨rfl, hb2.trans hc4⟩
/-! ### Mode -/
theorem hsL_cons (o : Od) (r : List Od) (t : Th) : hsL (o :: r) t = if o.th = t then (o.x, o.m, false) :: hsL r t else hsL r t := by
  unfold hsL
  rw [List.filter_cons]
  by_cases h : o.th = t <;> simp [h]
theorem wsL_cons (o : Od) (r : List Od) (t : Th) : wsL (o :: r) t = if o.th = t then (o.x, o.m, true) :: wsL r t else wsL r t := by
  unfold wsL
  rw [List.filter_cons]
  by_cases h : o.th = t <;> simp [h]
theorem modeL_cons (o : Od) (r : List Od) (x : Int) (t : Th) : modeL (o :: r) x t = if o.th = t ∧ o.x = x then o.m else modeL r x t := by
  unfold modeL
  rw [List.find?_cons]
  unfold isOf
  by_cases h1 : o.th = t <;> by_cases h2 : o.x = x <;> simp [h1, h2]
theorem mdI_none {t : Th} {x : Int} : ∀ {H : List Od}, idxL (ofP x) (hsL H t) = none → modeL H x t = 0
  | [], _ => rfl
  | o :: r, h => by
    rw [modeL_cons]
    rw [hsL_cons] at h
    by_cases h1 : o.th = t
    · rw [if_pos h1, idxL] at h
      by_cases h2 : o.x = x
      · rw [if_pos (by simp [ofP, h2])] at h; cases h
      · rw [if_neg (by simp [ofP, h2])] at h
        rw [if_neg (fun e => h2 e.2)]
        cases hr : idxL (ofP x) (hsL r t) with
        | none => exact mdI_none hr
        | some i => rw [hr] at h; cases h
    · rw [if_neg h1] at h
      rw [if_neg (fun e => h1 e.1)]
      exact mdI_none h
theorem mdI_some {t : Th} {x : Int} : ∀ {H : List Od} {i : Nat}, idxL (ofP x) (hsL H t) = some i → ∃ hi : i < (hsL H t).length, (hsL H t)[i].2.1 = modeL H x t
  | [], i, h => by simp [hsL, idxL] at h
  | o :: r, i, h => by
    have hc := hsL_cons o r t
    rw [modeL_cons]
    by_cases h1 : o.th = t
    · rw [if_pos h1] at hc
      rw [hc, idxL] at h
      by_cases h2 : o.x = x
      · rw [if_pos (by simp [ofP, h2])] at h
        injection h with h
        subst h
        refine ⟨by rw [hc]; simp, ?_⟩
        rw [if_pos ⟨h1, h2⟩]
        simp only [hc, List.getElem_cons_zero]
      · rw [if_neg (by simp [ofP, h2])] at h
        rw [if_neg (fun e => h2 e.2)]
        cases hr : idxL (ofP x) (hsL r t) with
        | none => rw [hr] at h; cases h
        | some j =>
          rw [hr] at h
          injection h with h
          subst h
          obtain ⟨h3, h4⟩ := mdI_some hr
          refine ⟨by rw [hc]; simpa using h3, ?_⟩
          simp only [hc, List.getElem_cons_succ]
          exact h4
    · rw [if_neg h1] at hc
      rw [hc] at h
      rw [if_neg (fun e => h1 e.1)]
      obtain ⟨h3, h4⟩ := mdI_some h
      refine ⟨by rw [hc]; exact h3, ?_⟩
      simp only [hc]
      exact h4
set_option maxRecDepth 100000 in
set_option maxHeartbeats 6400000 in
theorem lmode_any {B tb : Nat} {D : Nat → Prop} {w : World} {l : Lk} (x : Int) (t : Th) (h : TI B D w tb l) (hz : szL l ≤ 1000) (ht : t.In) :
    Calls Tryz.prog 21 #[ptrL tb, .int .i64 x, .agg #[.int .i64 t.k, .string t.t, .string t.y]] w fun r w' => r = .returned (.int .i64 (modeL l.H x t)) ∧ Below w.heap.size w w' := by
  obtain ⟨_, S, hm, hr⟩ := h
  obtain ⟨w1, hw1⟩ : ∃ w1, w1 = w.alloc (.cells #[.int .i64 t.k, .string t.t, .string t.y] 32) := ⟨_, rfl⟩
  obtain ⟨hT, hB1⟩ := tg_new w t
  rw [← hw1] at hT hB1
  have hlt1 : w.heap.size < w1.heap.size := by rw [hw1]; simp
  have HS := Lib.hid (show ∀ w', Below w1.heap.size w1 w' → w'.cell? ⟨tb, 0, none⟩ = some (.map (some S.m0)) ∧ w'.cell? ⟨w.heap.size, 0, none⟩ = some (.int .i64 t.k) ∧ w'.cell? ⟨w.heap.size, 1, none⟩ = some (.string t.t) ∧ w'.cell? ⟨w.heap.size, 2, none⟩ = some (.string t.y) ∧ (Instr.lookup 52 (.map (some S.m0)) (.agg #[.int .i64 t.k, .string t.t, .string t.y]) true).run Tryz.prog w' = .ok (.tuple #[((S.ls t).map pt).getD (.pointer none), .bool (S.ls t).isSome]) w' from fun w' hb => by
    have h1 := (hm.below hB1).below hb
    have h2 := hT.below hb hlt1
    exact ⟨h1.c0, h2.k, h2.t, h2.y, h1.look0 ht.key⟩)
  obtain ⟨md, hmd⟩ : ∃ md, md = modeL l.H x t := ⟨_, rfl⟩
  rw [← hmd]
  have H := Lib.hid (And.intro hm (And.intro hr (And.intro hB1 (And.intro hw1 (And.intro hmd hz)))))
  have q0 := HS.out w1 (Below.refl _ _)
  have hbd : Below w1.heap.size w1 w1.drew := (Below.refl _ w1).drew
  have q1 := HS.out w1.drew hbd
  clear hm hr hB1 hw1 hT hz hmd hbd
  cases hls : S.ls t with
  | none =>
    rw [hls] at q0 q1
    simp only [Option.map_none, Option.getD_none, Option.isSome_none] at q0 q1
    have HQ := Lib.hid (And.intro q0 (And.intro q1 hls))
    clear q0 q1 hls
    go_enter Tryz.func21, Tryz.ntmps21
    go_upto_region 1 with fail
    rw [← H.out.2.2.2.1]
    go_region_held3 (fun w' => w'.cell? ⟨tb, 0, none⟩ = some (.map (some S.m0)) ∧ w'.cell? ⟨w.heap.size, 0, none⟩ = some (.int .i64 t.k) ∧ w'.cell? ⟨w.heap.size, 1, none⟩ = some (.string t.t) ∧ w'.cell? ⟨w.heap.size, 2, none⟩ = some (.string t.y) ∧ (Instr.lookup 52 (.map (some S.m0)) (.agg #[.int .i64 t.k, .string t.t, .string t.y]) true).run Tryz.prog w' = .ok (.tuple #[.pointer none, .bool false]) w')
      (first
        | exact HQ.out.2.1
        | exact HQ.out.1)
      (fail)
    all_goals
      go_wp2_with fail
      go_ret
      refine ⟨?_, H.out.2.2.1.drew⟩
      rw [H.out.2.2.2.2.1, mdI_none (by rw [H.out.2.1.none_ HQ.out.2.2]; rfl)]
      rfl
  | some b =>
    rw [hls] at q0 q1
    simp only [Option.map_some, Option.getD_some, Option.isSome_some] at q0 q1
    obtain ⟨A, c, hv, hL⟩ := (H.out.1.below H.out.2.2.1).readH hls
    have hL2 := hL.below (Below.refl _ w1).drew
    have hz := H.out.2.2.2.2.2
    unfold szL at hz
    rw [H.out.2.1.h] at hL2
    have hhl := hsL_len l.H t
    have hho := holder_any hL2 (by omega) x
    obtain ⟨n, hn⟩ : ∃ n, n = (hsL l.H t).length := ⟨_, rfl⟩
    have HQ := Lib.hid (And.intro q0 (And.intro q1 (And.intro hls (And.intro hL2 hn))))
    cases hi : idxL (ofP x) (hsL l.H t) with
    | none =>
      rw [hi, show idxI none = -1 from rfl] at hho
      have HH := Lib.hid (And.intro hho (mdI_none hi))
      clear hho hi q0 q1 hls hL hL2 hv hz hhl hn
      go_enter Tryz.func21, Tryz.ntmps21
      go_upto_region 1 with fail
      rw [← H.out.2.2.2.1]
      go_region_held3 (fun w' => w'.cell? ⟨tb, 0, none⟩ = some (.map (some S.m0)) ∧ w'.cell? ⟨w.heap.size, 0, none⟩ = some (.int .i64 t.k) ∧ w'.cell? ⟨w.heap.size, 1, none⟩ = some (.string t.t) ∧ w'.cell? ⟨w.heap.size, 2, none⟩ = some (.string t.y) ∧ (Instr.lookup 52 (.map (some S.m0)) (.agg #[.int .i64 t.k, .string t.t, .string t.y]) true).run Tryz.prog w' = .ok (.tuple #[pt b, .bool true]) w')
        (first
          | exact HQ.out.2.1
          | exact HQ.out.1)
        (fail)
      all_goals
        go_wp2_with (go_at_call 29; refine HH.out.1.mono ?_; rintro e w2 ⟨rfl, hb⟩; have H2 := Lib.hid hb; clear hb)
        go_ret
        refine ⟨?_, H.out.2.2.1.drew.trans (H2.out.mono H.out.2.2.1.size)⟩
        rw [H.out.2.2.2.2.1, HH.out.2]
        rfl
    | some i =>
      obtain ⟨hil, hmd⟩ := mdI_some hi
      rw [hi, show idxI (some i) = (i : Int) from rfl] at hho
      have HH := Lib.hid (And.intro hho (And.intro hil hmd))
      have hi0 : (0 : Int) ≤ (i : Int) := Int.natCast_nonneg _
      have hilz : (i : Int) < (n : Int) := by omega
      clear hho hi q0 q1 hls hL hL2 hv hz hhl hn hmd
      go_enter Tryz.func21, Tryz.ntmps21
      go_upto_region 1 with fail
      rw [← H.out.2.2.2.1]
      go_region_held3 (fun w' => w'.cell? ⟨tb, 0, none⟩ = some (.map (some S.m0)) ∧ w'.cell? ⟨w.heap.size, 0, none⟩ = some (.int .i64 t.k) ∧ w'.cell? ⟨w.heap.size, 1, none⟩ = some (.string t.t) ∧ w'.cell? ⟨w.heap.size, 2, none⟩ = some (.string t.y) ∧ (Instr.lookup 52 (.map (some S.m0)) (.agg #[.int .i64 t.k, .string t.t, .string t.y]) true).run Tryz.prog w' = .ok (.tuple #[pt b, .bool true]) w')
        (first
          | exact HQ.out.2.1
          | exact HQ.out.1)
        (fail)
      all_goals
        go_upto_region 5 with (go_at_call 29; refine HH.out.1.mono ?_; rintro e w2 ⟨rfl, hb⟩; have H2 := Lib.hid hb; clear hb)
        have hL3 := HQ.out.2.2.2.1.below H2.out
        have e3 := hL3.cell
        rw [← HQ.out.2.2.2.2] at e3
        obtain ⟨ad, rfl, _, _, a1, _⟩ := hdI_at hL3.row HH.out.2.1
        rw [HH.out.2.2, ← H.out.2.2.2.2.1] at a1
        clear hL3
        go_wp2_with fail
        go_ret
        exact ⟨rfl, H.out.2.2.1.drew.trans (H2.out.mono H.out.2.2.1.size)⟩
end Go.Proofs.YthbbheegkhlniaaGreat

/-
  The program's locks: State, Things.
-/
namespace Go.Proofs.YthbbheegkhlniaaGreat
open Go.RowKit Go.Lib Go.Shelf Go.Maps

theorem stateL_heldV (l : Lk) (t : Th) : (stateL l t).flatMap heldC = heldV (hsL l.H t ++ wsL l.W t) := by
  unfold stateL heldV hsL wsL
  rfl
theorem stateL_eq (l : Lk) (t : Th) : stateL l t = hsL l.H t ++ wsL l.W t := rfl
set_option maxRecDepth 100000 in
set_option maxHeartbeats 6400000 in
theorem lstate_any {B tb : Nat} {D : Nat → Prop} {w : World} {l : Lk} (t : Th) (h : TI B D w tb l) (hz : szL l ≤ 1000) (ht : t.In) :
    Calls Tryz.prog 17 #[ptrL tb, .agg #[.int .i64 t.k, .string t.t, .string t.y]] w fun r w' => ∃ A n c, r = .returned (.slice A n c) ∧ n = (stateL l t).length ∧ w'.ownsRow w.heap.size 62 3 (.slice A n c) n ((stateL l t).flatMap heldC) ∧ Below w.heap.size w w' := by
  obtain ⟨hok, S, hm, hr⟩ := h
  obtain ⟨w1, hw1⟩ : ∃ w1, w1 = w.alloc (.cells #[.int .i64 t.k, .string t.t, .string t.y] 32) := ⟨_, rfl⟩
  obtain ⟨hT, hB1⟩ := tg_new w t
  rw [← hw1] at hT hB1
  have hlt1 : w.heap.size < w1.heap.size := by rw [hw1]; simp
  have HS := Lib.hid (show ∀ w', Below w1.heap.size w1 w' → w'.cell? ⟨tb, 0, none⟩ = some (.map (some S.m0)) ∧ w'.cell? ⟨w.heap.size, 0, none⟩ = some (.int .i64 t.k) ∧ w'.cell? ⟨w.heap.size, 1, none⟩ = some (.string t.t) ∧ w'.cell? ⟨w.heap.size, 2, none⟩ = some (.string t.y) ∧ (Instr.lookup 52 (.map (some S.m0)) (.agg #[.int .i64 t.k, .string t.t, .string t.y]) true).run Tryz.prog w' = .ok (.tuple #[((S.ls t).map pt).getD (.pointer none), .bool (S.ls t).isSome]) w' from fun w' hb => by
    have h1 := (hm.below hB1).below hb
    have h2 := hT.below hb hlt1
    exact ⟨h1.c0, h2.k, h2.t, h2.y, h1.look0 ht.key⟩)
  rw [stateL_heldV, stateL_eq]
  have H := Lib.hid (And.intro hm (And.intro hr (And.intro hB1 (And.intro hw1 (And.intro hok hz)))))
  have q0 := HS.out w1 (Below.refl _ _)
  have hbd : Below w1.heap.size w1 w1.drew := (Below.refl _ w1).drew
  have q1 := HS.out w1.drew hbd
  clear hm hr hB1 hw1 hT hz hbd hok
  cases hls : S.ls t with
  | none =>
    rw [hls] at q0 q1
    simp only [Option.map_none, Option.getD_none, Option.isSome_none] at q0 q1
    have HQ := Lib.hid (And.intro q0 (And.intro q1 hls))
    clear q0 q1 hls
    go_enter Tryz.func17, Tryz.ntmps17
    go_upto_region 1 with fail
    rw [← H.out.2.2.2.1]
    go_region_held3 (fun w' => w'.cell? ⟨tb, 0, none⟩ = some (.map (some S.m0)) ∧ w'.cell? ⟨w.heap.size, 0, none⟩ = some (.int .i64 t.k) ∧ w'.cell? ⟨w.heap.size, 1, none⟩ = some (.string t.t) ∧ w'.cell? ⟨w.heap.size, 2, none⟩ = some (.string t.y) ∧ (Instr.lookup 52 (.map (some S.m0)) (.agg #[.int .i64 t.k, .string t.t, .string t.y]) true).run Tryz.prog w' = .ok (.tuple #[.pointer none, .bool false]) w')
      (first
        | exact HQ.out.2.1
        | exact HQ.out.1)
      (fail)
    all_goals
      go_wp2_with fail
      go_ret
      have e1 := H.out.2.1.none_ HQ.out.2.2
      rw [e1, H.out.2.2.2.2.1.held e1]
      exact ⟨none, 0, 0, rfl, rfl, World.ownsRow_nil _ _ _ _, H.out.2.2.1.drew⟩
  | some b =>
    rw [hls] at q0 q1
    simp only [Option.map_some, Option.getD_some, Option.isSome_some] at q0 q1
    have hm1 := H.out.1.below H.out.2.2.1
    have hz := H.out.2.2.2.2.2
    unfold szL at hz
    have hhl := hsL_len l.H t
    have hwl := wsL_len l.W t
    obtain ⟨w2, hw2⟩ : ∃ w2, w2 = w1.drew := ⟨_, rfl⟩
    have hb2 : Below w.heap.size w w2 := by rw [hw2]; exact H.out.2.2.1.drew
    have hm2 := H.out.1.below hb2
    obtain ⟨A, c, hv, hL⟩ := hm2.readH hls
    obtain ⟨A', c', hv', hL'⟩ := hm2.readW hls
    rw [H.out.2.1.h] at hL
    rw [H.out.2.1.v] at hL'
    obtain ⟨n, hn⟩ : ∃ n, n = (hsL l.H t).length := ⟨_, rfl⟩
    obtain ⟨n', hn'⟩ : ∃ n', n' = (wsL l.W t).length := ⟨_, rfl⟩
    have HF := Lib.hid (show ∀ w', Below w2.heap.size w2 w' → w'.cell? ⟨b, 3, none⟩ = some (.slice A n c) ∧ w'.cell? ⟨b, 4, none⟩ = some (.slice A' n' c') from fun w' hb => ⟨by rw [hn]; exact (hL.below hb).cell, by rw [hn']; exact (hL'.below hb).cell⟩)
    have HG := Lib.hid (show ∀ w' sb, Below w2.heap.size w2 w' → sb < w'.heap.size → w'.cell? ⟨sb, 0, none⟩ = some (.slice A n c) → w'.cell? ⟨sb, 1, none⟩ = some (.slice A' n' c') → Calls Tryz.prog 51 #[.slice (some ⟨sb, 0, none⟩) 2 2] w' fun r w3 => ∃ A n c, r = .returned (.slice A n c) ∧ n = (hsL l.H t ++ wsL l.W t).length ∧ w3.ownsRow w'.heap.size 62 3 (.slice A n c) n (heldV (hsL l.H t ++ wsL l.W t)) ∧ Below w'.heap.size w' w3 from fun w' sb hb hsb h0 h1 =>
      concat_any hsb h0 h1 (hL.below hb).row (hL'.below hb).row hn hn' (by omega) (by omega))
    have HQ := Lib.hid (And.intro q0 (And.intro q1 (And.intro hw2 hb2)))
    clear hm1 hm2 hv hL hv' hL' hn hn' hz hhl hwl q0 q1 hls hb2 hw2
    go_enter Tryz.func17, Tryz.ntmps17
    go_upto_region 1 with fail
    rw [← H.out.2.2.2.1]
    go_region_held3 (fun w' => w'.cell? ⟨tb, 0, none⟩ = some (.map (some S.m0)) ∧ w'.cell? ⟨w.heap.size, 0, none⟩ = some (.int .i64 t.k) ∧ w'.cell? ⟨w.heap.size, 1, none⟩ = some (.string t.t) ∧ w'.cell? ⟨w.heap.size, 2, none⟩ = some (.string t.y) ∧ (Instr.lookup 52 (.map (some S.m0)) (.agg #[.int .i64 t.k, .string t.t, .string t.y]) true).run Tryz.prog w' = .ok (.tuple #[pt b, .bool true]) w')
      (first
        | exact HQ.out.2.1
        | exact HQ.out.1)
      (fail)
    go_upto_region 4 with fail
    rw [← HQ.out.2.2.1]
    have hb2d : Below w2.heap.size w2 w2.drew := (Below.refl _ w2).drew
    have s0 := (HF.out w2 (Below.refl _ _))
    have s1 := (HF.out w2.drew hb2d)
    obtain ⟨w3, hw3⟩ : ∃ w3, w3 = (w2.alloc (.cells #[.slice A n c, .slice A' n' c'] 46)).drew := ⟨_, rfl⟩
    have hb3 : Below w2.heap.size w2 w3 := by rw [hw3]; exact ((Below.refl _ w2).alloc (Nat.le_refl _) _).drew
    have s2 := HF.out w3 hb3
    have hbl : Blk w3 w2.heap.size 46 #[.slice A n c, .slice A' n' c'] := by rw [hw3]; exact (Blk.new w2 _ _).drew
    have HC := Lib.hid (And.intro (HG.out w3 w2.heap.size hb3 hbl.lt (hbl.cell 0) (hbl.cell 1)) hb3)
    rw [hw3] at s2 HC
    clear hb2d hb3 hbl hw3
    go_region_held3 (fun w' => w'.cell? ⟨b, 3, none⟩ = some (.slice A n c) ∧ w'.cell? ⟨b, 4, none⟩ = some (.slice A' n' c'))
      (first
        | exact H4.out.1
        | exact s2
        | exact s1
        | exact s0)
      (first
        | (go_at_call 51; refine HC.out.1.mono ?_; rintro e w4 ⟨A4, n4, c4, rfl, hn4, ho4, hb4⟩; have hbb := HC.out.2.trans (hb4.mono HC.out.2.size); have H4 := Lib.hid (And.intro (HF.out _ hbb) (And.intro hn4 (And.intro ho4 (And.intro hb4 hbb)))); clear hn4 ho4 hb4 hbb))
    all_goals
      go_wp2_with fail
      go_ret
      refine ⟨A4, n4, c4, rfl, H4.out.2.1, own_to_lt H4.out.2.2.1 ?_, HQ.out.2.2.2.trans (H4.out.2.2.2.2.mono HQ.out.2.2.2.size)⟩
      exact Nat.le_trans HQ.out.2.2.2.size HC.out.2.size
end Go.Proofs.YthbbheegkhlniaaGreat
