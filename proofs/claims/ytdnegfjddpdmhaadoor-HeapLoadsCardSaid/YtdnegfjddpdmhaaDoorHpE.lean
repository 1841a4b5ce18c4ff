/-
  append, and what it leaves of an elder slice over the same row; the closures that change a page.
-/
import Derived.Test.YtdnegfjddpdmhaaDoorHpD
import Derived.Maps.AppendAt
namespace Go.Proofs.YtdnegfjddpdmhaaDoor
open Go.RowKit Go.Lib

section
variable {P : Program} (w : World)
theorem own_elder {base : Nat} {e : TypeId} {size g n0 : Nat} {v0 : Value} {xs0 : List Value} {w w' : World} {cur cur' : Array Value} (h0 : w.ownsRow base e size v0 n0 xs0) (hb : v0.ownBlock = some g) (hg : w.heap[g]? = some (.cells cur e (0, 0))) (hg' : w'.heap[g]? = some (.cells cur' e (0, 0)))
    (hs : cur'.size = cur.size) (ht : cur'.toList.take (n0 * size) = cur.toList.take (n0 * size)) : w'.ownsRow base e size v0 n0 xs0 := by
  refine ⟨h0.1, ?_⟩
  rcases h0.2 with ⟨rfl, _⟩ | ⟨g1, cap, cur1, rfl, hbg, hg1, hnc, hcm, hcs, htake⟩
  · cases hb
  · cases hb
    rw [hg] at hg1
    cases hg1
    exact .inr ⟨g1, cap, cur', rfl, hbg, hg', hnc, hcm, by rw [hs, hcs], by rw [ht, htake]⟩
/-- append keeps an elder slice over the same row, too -/
theorem run_append_old (base : Nat) (t ty e : TypeId) (i : TypeInfo) (z : Value) (size bytes : Nat) (ht : P.underlying t = some (.slice e)) (hi : P.info? e = some i) (hz : i.zero = some z)
    (hsize : i.size = size) (hby : i.bytes = bytes) (hzs : z.cells.size = size) (hsz : 0 < size)
    (v : Value) (n : Nat) (xs : List Value) (hown : w.ownsRow base e size v n xs) (v0 : Value) (n0 : Nat) (xs0 : List Value) (h0 : w.ownsRow base e size v0 n0 xs0) (hn0 : n0 ≤ n)
    (a : Addr) (m c : Nat) (news : List Value) (hl : news.length = m * size) (hnews : ∀ j u, news[j]? = some u → w.cell? (a.add j) = some u) (h1 : ∀ u ∈ news, u.oneCell' = true) (hm : 0 < m)
    (h63 : n + m ≤ maxLen) (hbytes : (n + m) * bytes ≤ 140737488355328) (hbase : base ≤ w.heap.size) :
    ∃ v' w', (Builtin.append_ #[t, t] ty #[v, .slice (some a) m c]).run P w = .ok v' w' ∧ w'.ownsRow base e size v' (n + m) (xs ++ news) ∧ w.grownBy w' v.ownBlock ∧
      (v'.ownBlock = v.ownBlock ∨ v'.ownBlock = some w.heap.size) ∧ w'.ownsRow base e size v0 n0 xs0 := by
  obtain ⟨v', w', hr, h2, h3, _, h5⟩ := run_append_own_at (P := P) w base t ty e i z size bytes ht hi hz hsize hby hzs hsz v n xs hown a m c news hl hnews h1 h63 hbytes hbase
  refine ⟨v', w', hr, h2, h3, h5, ?_⟩
  have hfar : (∀ k, v0.ownBlock = some k → v.ownBlock ≠ some k) → w'.ownsRow base e size v0 n0 xs0 := fun h => own_keep h0 fun k hk => h3.block k (h0.lt k hk).2 fun e2 => h k hk e2.symm
  by_cases hne : ∀ k, v0.ownBlock = some k → v.ownBlock ≠ some k
  · exact hfar hne
  · have : ∃ g, v0.ownBlock = some g ∧ v.ownBlock = some g := by
      rcases hv : v0.ownBlock with _ | g
      · exact absurd (fun k hk => by rw [hv] at hk; cases hk) hne
      · refine ⟨g, rfl, ?_⟩
        rcases Classical.em (v.ownBlock = some g) with h | h
        · exact h
        · exact absurd (fun k hk => by rw [hv] at hk; cases hk; exact h) hne
    obtain ⟨g, hv0, hv⟩ := this
    rcases hown.2 with ⟨rfl, _⟩ | ⟨g1, cap, cur, rfl, hbg, hg, hnc, hcm, hcs, htake⟩
    · cases hv
    · cases hv
      subst hsize
      by_cases hroom : n + m ≤ cap
      · have hfit : n * i.size + news.length ≤ cur.size := by rw [hl, hcs, ← Nat.add_mul]; exact Nat.mul_le_mul_right _ hroom
        have hr2 := run_append_room (P := P) w t ty e i ht hi g1 n cap cur hg a m c news hl hnews h1 hroom hfit
        rw [hr] at hr2
        cases hr2
        refine own_elder h0 hv0 hg (setRow_heap w g1 cur _ e _ hg) ?_ ?_
        · simp only [List.size_toArray, List.length_append, List.length_take, List.length_drop, Array.length_toList]
          omega
        · have hle : n0 * i.size ≤ n * i.size := Nat.mul_le_mul_right _ hn0
          simp only [List.append_assoc]
          rw [List.take_append_of_le_length (by simp; omega), List.take_take, Nat.min_eq_left hle]
      · have holds : ∀ j u, xs[j]? = some u → w.cell? ((⟨g1, 0, none⟩ : Addr).add j) = some u := hown.cells (g := g1) rfl
        subst hby
        have hsmall : n + m ≤ 9223372036854775807 := by simp only [maxLen] at h63; omega
        have hr2 := run_append_grow (P := P) w t ty e i z ht hi hz ⟨g1, 0, none⟩ n cap xs hown.1 holds a m c news hl hnews (by omega) (by omega) (growslice_fits (by omega) hbytes)
        rw [hr] at hr2
        cases hr2
        exact own_keep h0 fun k hk => heap_alloc_old w.drew _ (h0.lt k hk).2
theorem wpList_append_old {ops : Array Oper} {rest : List Oper} {o : Oper} {a : Act} {Q : Exit → Act → World → Prop} (hgd : o.guard = none) (s x : Operand) (t : TypeId)
    (ho : o.op = .call { callee := .builtin .append, args := #[s, x], argTypes := #[t, t] })
    (base : Nat) (e : TypeId) (i : TypeInfo) (z : Value) (size bytes : Nat) (ht : P.underlying t = some (.slice e)) (hi : P.info? e = some i) (hz : i.zero = some z)
    (hsize : i.size = size) (hby : i.bytes = bytes) (hzs : z.cells.size = size) (hsz : 0 < size)
    (v : Value) (n : Nat) (xs : List Value) (hs : a.eval s = v) (hown : w.ownsRow base e size v n xs) (v0 : Value) (n0 : Nat) (xs0 : List Value) (h0 : w.ownsRow base e size v0 n0 xs0) (hn0 : n0 ≤ n)
    (ad : Addr) (m c : Nat) (news : List Value) (hx : a.eval x = .slice (some ad) m c) (hl : news.length = m * size) (hnews : ∀ j u, news[j]? = some u → w.cell? (ad.add j) = some u) (h1 : ∀ u ∈ news, u.oneCell' = true) (hm : 0 < m)
    (h63 : n + m ≤ maxLen) (hbytes : (n + m) * bytes ≤ 140737488355328) (hbase : base ≤ w.heap.size)
    (h : ∀ v' w', w'.ownsRow base e size v' (n + m) (xs ++ news) → w.grownBy w' v.ownBlock → (v'.ownBlock = v.ownBlock ∨ v'.ownBlock = some w.heap.size) → w'.ownsRow base e size v0 n0 xs0 → wpList P ops Q rest (a.put o.dst v') w') :
    wpList P ops Q (o :: rest) a w := by
  refine wpList_plain hgd fun K hK => ?_
  obtain ⟨v', w', hr, h2, h3, h4, h5⟩ := run_append_old (P := P) w base t o.type e i z size bytes ht hi hz hsize hby hzs hsz v n xs hown v0 n0 xs0 h0 hn0 ad m c news hl hnews h1 hm h63 hbytes hbase
  unfold Oper.wp execOp
  simp only [ho, resolve, invoke, builtin, Sem.run_bind, Sem.run_pure, Result.andThen_ok, List.map_toArray, List.map_cons, List.map_nil, hs, hx, hr]
  exact hK _ _ (h v' w' h2 h3 h4 h5)
end

/-! ### the closures -/
def addS (s : List Slot) (b : List Int) : Option (List Slot) := if fitsP s b then some (setP s (ffP s) (some b)) else none
def addSk (s : List Slot) (b : List Int) : Nat := if fitsP s b then ffP s else 0
theorem addP_map (s : List Slot) (b : List Int) : addP (some s) b = (addS s b).map imgP := by
  unfold addP putP addS fitsP
  by_cases h : (b.length : Int) ≤ roomI s (ffP s)
  · simp [h]
  · simp [h]
theorem putP_map (s : List Slot) (k : Int) (b : List Int) : putP (some s) k b = (putS s k b).map imgP := by
  show (if _ then some (imgP _) else none) = _
  unfold putS
  split <;> rfl
theorem cutP_map (s : List Slot) (k : Int) : cutP (some s) k = (cutS s k).map imgP := by
  show (if _ then some (imgP _) else none) = _
  unfold cutS
  split <;> rfl
theorem addK_is (s : List Slot) (b : List Int) : addK (some s) b = addSk s b := by
  show (if (addP (some s) b).isSome then ffP s else 0) = _
  rw [addP_map]
  unfold addS addSk
  by_cases h : fitsP s b = true
  · simp [h]
  · simp [h]

/-- what a closure answers: a page, if it makes one -/
def MkRet (r : Option (List Slot)) (C : Nat → Prop) (Post : World → Prop) (w : World) (e : Ending) (w' : World) : Prop :=
  ∃ v, e = .returned (.tuple #[v, .bool r.isSome]) ∧ (∀ s, r = some s → ∃ y : Pv, v = y.val ∧ y.s = s ∧ y.Ok (fun k => w.heap.size ≤ k ∧ k < w'.heap.size) w') ∧ Chg C w w' ∧ Post w'
theorem mk_of {r : Option (List Slot)} {w w' : World} {v : Value} (hr : ∀ s, r = some s → GoodP s) (h : w'.ownsRow w.heap.size 5 1 v ((r.map imgP).getD []).length (cells ((r.map imgP).getD []))) :
    ∀ s, r = some s → ∃ y : Pv, v = y.val ∧ y.s = s ∧ y.Ok (fun k => w.heap.size ≤ k ∧ k < w'.heap.size) w' := by
  rintro s rfl
  exact Pv.Ok.made (D := fun k => w.heap.size ≤ k ∧ k < w'.heap.size) h (hr s rfl) (fun k h1 h2 => ⟨h1, h2⟩)
theorem addS_good {s : List Slot} (hs : GoodP s) {b : List Int} (hb : IsBytes b) : ∀ t, addS s b = some t → GoodP t := by
  intro t ht
  unfold addS at ht
  split at ht
  · rename_i hf
    have h1 := put_some (add_put hf) hs hb
    cases ht
    exact h1.2.2.2.2.1
  · cases ht

set_option maxRecDepth 100000 in
set_option maxHeartbeats 800000 in
theorem mkAdd_any (w : World) (x : Pv) (h : PgOk w x) (bb bs : Nat) (A2 : Option Addr) (n2 c2 : Nat) (b : List Int) (h1 : Blk w bb 33 #[.slice A2 n2 c2]) (z : Int) (h2 : Blk w bs 3 #[.int .i64 z]) (hr : Rd w w.heap.size A2 n2 (cells b)) (hb : IsBytes b) :
    Calls Tryd.prog 46 #[.slice x.A 256 x.c, .pointer (some ⟨bb, 0, none⟩), .pointer (some ⟨bs, 0, none⟩)] w (MkRet (addS x.s b) (fun k => k = bs) (fun w' => Blk w' bs 3 #[.int .i64 (addSk x.s b)]) w) := by
  have HA := Lib.hid (add_any w x.A 256 x.c (imgP x.s) h.1 A2 n2 c2 b hr hb)
  rw [h.of, addP_map, addK_is] at HA
  have HG := Lib.hid (addS_good h.2 hb)
  have HS := Lib.hid (show ((addS x.s b).map imgP).isSome = (addS x.s b).isSome by cases addS x.s b <;> rfl)
  have hc1 := h1.cell 0
  simp only [List.getElem?_toArray, List.getElem?_cons_zero] at hc1
  have H2 := Lib.hid h2
  clear h h1 hr
  go_enter Tryd.func46, Tryd.ntmps46
  go_wp2_with fail
  refine HA.out.mono ?_
  rintro e w1 ⟨v, rfl, hown, hbel⟩
  have hk1 := H2.out.below hbel H2.out.lt
  have hc2 := hk1.cell 0
  simp only [List.getElem?_toArray, List.getElem?_cons_zero] at hc2
  have hfz := hk1.frozen 0
  have hput := hk1.put 0 (.int .i64 (addSk x.s b))
  have HF := Lib.hid (mk_of HG.out hown)
  have HK := Lib.hid (And.intro hput (And.intro hbel hk1.lt))
  rw [HS.out]
  clear hown hbel hput hk1
  go_wp2_with fail
  go_ret2
  have hs : (w1.setCell ⟨bs, 0, none⟩ (.int .i64 (addSk x.s b))).heap.size = w1.heap.size := by simp [World.setCell]
  refine ⟨v, rfl, fun s hs' => ?_, (Chg.of_below (F := fun k => k = bs) HK.out.2.1).setCell (p := ⟨bs, 0, none⟩) (fun _ => rfl) _, HK.out.1⟩
  obtain ⟨y, e1, e2, e3⟩ := HF.out s hs'
  refine ⟨y, e1, e2, (e3.chg ((Chg.refl (fun j => j = bs) w1).setCell (p := ⟨bs, 0, none⟩) (fun _ => rfl) (.int .i64 (addSk x.s b))) (fun j cs hj hb => ?_)).mono fun k hk => ⟨hk.1, by rw [hs]; exact hk.2⟩⟩
  subst hj
  exact Blk.ne (H2.out.below HK.out.2.1 H2.out.lt) hb (by decide) rfl

set_option maxRecDepth 100000 in
set_option maxHeartbeats 800000 in
theorem mkSet_any (w : World) (x : Pv) (h : PgOk w x) (ba bb : Nat) (p k : Int) (A2 : Option Addr) (n2 c2 : Nat) (b : List Int) (h0 : Blk w ba 32 #[.int .i64 p, .int .i64 k]) (h1 : Blk w bb 33 #[.slice A2 n2 c2]) (hr : Rd w w.heap.size A2 n2 (cells b)) (hb : IsBytes b) :
    Calls Tryd.prog 79 #[.slice x.A 256 x.c, .pointer (some ⟨ba, 0, none⟩), .pointer (some ⟨bb, 0, none⟩)] w (MkRet (putS x.s k b) Non (fun _ => True) w) := by
  have HA := Lib.hid (put_any w x.A 256 x.c (imgP x.s) h.1 k A2 n2 c2 b hr hb)
  rw [h.of, putP_map] at HA
  have HG := Lib.hid (show ∀ t, putS x.s k b = some t → GoodP t from fun t ht => (put_some ht h.2 hb).2.2.2.2.1)
  have HS := Lib.hid (show ((putS x.s k b).map imgP).isSome = (putS x.s k b).isSome by cases putS x.s k b <;> rfl)
  have hc0 := h0.cell 1
  have hc1 := h1.cell 0
  simp only [List.getElem?_toArray, List.getElem?_cons_zero, List.getElem?_cons_succ] at hc0 hc1
  clear h h0 h1 hr
  go_enter Tryd.func79, Tryd.ntmps79
  go_wp2_with fail
  refine HA.out.mono ?_
  rintro e w1 ⟨v, rfl, hown, hbel⟩
  have HF := Lib.hid (mk_of HG.out hown)
  have HK := Lib.hid hbel
  rw [HS.out]
  clear hown hbel
  go_wp2_with fail
  go_ret2
  exact ⟨v, rfl, HF.out, Chg.of_below HK.out, trivial⟩

set_option maxRecDepth 100000 in
set_option maxHeartbeats 800000 in
theorem mkCut_any (w : World) (x : Pv) (h : PgOk w x) (ba : Nat) (p k : Int) (h0 : Blk w ba 32 #[.int .i64 p, .int .i64 k]) :
    Calls Tryd.prog 52 #[.slice x.A 256 x.c, .pointer (some ⟨ba, 0, none⟩)] w (MkRet (cutS x.s k) Non (fun _ => True) w) := by
  have HA := Lib.hid (cut_any w x.A 256 x.c (imgP x.s) h.1 k)
  rw [h.of, cutP_map] at HA
  have HG := Lib.hid (show ∀ t, cutS x.s k = some t → GoodP t from fun t ht => by
    unfold cutS at ht
    split at ht
    · rename_i hk
      cases ht
      exact cut_good h.2 hk
    · cases ht)
  have HS := Lib.hid (show ((cutS x.s k).map imgP).isSome = (cutS x.s k).isSome by cases cutS x.s k <;> rfl)
  have hc0 := h0.cell 1
  simp only [List.getElem?_toArray, List.getElem?_cons_zero, List.getElem?_cons_succ] at hc0
  clear h h0
  go_enter Tryd.func52, Tryd.ntmps52
  go_wp2_with fail
  refine HA.out.mono ?_
  rintro e w1 ⟨v, rfl, hown, hbel⟩
  have HF := Lib.hid (mk_of HG.out hown)
  have HK := Lib.hid hbel
  rw [HS.out]
  clear hown hbel
  go_wp2_with fail
  go_ret2
  exact ⟨v, rfl, HF.out, Chg.of_below HK.out, trivial⟩
end Go.Proofs.YtdnegfjddpdmhaaDoor
