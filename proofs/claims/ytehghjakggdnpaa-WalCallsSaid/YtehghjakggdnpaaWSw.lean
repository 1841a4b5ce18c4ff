/-
  The contract of Switch.
-/
import Derived.Test.YtehghjakggdnpaaWKeepM
import Derived.Deep.RegionHeld3
import Derived.Deep.RegionWith
namespace Go.Proofs.Ytehghjakggdnpaa
open Go.RowKit Go.Lib

/-- what is written, where records stand from a sector on -/
def swWs : (sec : Nat) → (next : Int) → List (List Int) → List (Nat × List Int)
  | _, _, [] => []
  | sec, next, r :: R => putWs (recBody r) sec next (List.range (secsOf r.length)) ++ swWs (sec + secsOf r.length) (next + (secsOf r.length : Nat)) R
theorem swWs_snoc (r : List Int) (R : List (List Int)) : ∀ (sec : Nat) (next : Int), swWs sec next (R ++ [r]) = swWs sec next R ++ putWs (recBody r) (sec + totalM R) (next + (totalM R : Nat)) (List.range (secsOf r.length)) := by
  induction R with
  | nil => intro sec next; simp [swWs, totalM]
  | cons q R ih =>
    intro sec next
    show _ ++ swWs _ _ (R ++ [r]) = (_ ++ _) ++ _
    rw [ih, List.append_assoc]
    simp only [totalM]
    rw [Nat.add_assoc, show next + ((secsOf q.length : Nat) : Int) + ((totalM R : Nat) : Int) = next + ((secsOf q.length + totalM R : Nat) : Int) by omega]
theorem swWs_len (R : List (List Int)) : ∀ (sec : Nat) (next : Int), (swWs sec next R).length = totalM R := by
  induction R with
  | nil => intro sec next; rfl
  | cons q R ih => intro sec next; simp only [swWs, totalM, List.length_append, putWs_len, List.length_range, ih]
/-- is there too little for records that take so many sectors? -/
def swFull (s : DS) (n : Nat) (gen next : Int) : Prop := s.half < n ∨ hasSt next n = false ∨ 2147483648 ≤ gen + 1
/-- the disk behind a switch -/
def swS (s : DS) (area gen next : Int) (R : List (List Int)) : DS := ((⟨s.last, s.wr ++ swWs (2 + (1 - area).toNat * s.half) next R⟩ : DS).flush.write ((gen + 1) % 2).toNat (headB (gen + 1) (1 - area) next)).flush
def SwRet (w : World) (g l : Nat) (F : Nat → Prop) (s : DS) (gen area next : Int) (xs : List Sl) (e : Ending) (w' : World) : Prop :=
  ((∃ x ∈ xs, 4096 < x.n) ∧ e = .returned (.int .i64 41) ∧ ∃ p, w' = w.drewN p) ∨
  ((∀ x ∈ xs, x.n ≤ 4096) ∧ swFull s (totalM (lists xs)) gen next ∧ e = .returned (.int .i64 36) ∧ ∃ p, w' = w.drewN p) ∨
  ((∀ x ∈ xs, x.n ≤ 4096) ∧ ¬ swFull s (totalM (lists xs)) gen next ∧ e = .returned (.int .i64 0) ∧ DiskAt w' g (Ext F w w') (swS s area gen next (lists xs)) ∧ LogAt w' l g (gen + 1) (1 - area) ((totalM (lists xs) : Nat) : Int) (next + ((totalM (lists xs) : Nat) : Int)) ∧ Chg (FL F l) w w')
def NdRel (xs : List Sl) (w : World) (n i : Value) (wr : World) : Prop :=
  ∃ k : Nat, k ≤ xs.length ∧ n = .int .i64 ((totalM (lists (xs.take k)) : Nat) : Int) ∧ i = .int .i64 k ∧ w = wr ∧ (∀ x ∈ xs.take k, x.n ≤ 4096) ∧ totalM (lists (xs.take k)) ≤ 74 * k
/-- the disk and the log, some calls behind -/
def SwSt (w : World) (g l : Nat) (F : Nat → Prop) (s : DS) (gen area used next : Int) (wr : World) : Prop := DiskAt wr g (Ext F w wr) s ∧ LogAt wr l g gen area used next ∧ Chg (FL F l) w wr
theorem SwSt.nf {w wr : World} {g l : Nat} {F : Nat → Prop} {s : DS} {gen area used next : Int} (_h : SwSt w g l F s gen area used next wr) (hnf : ¬ F l) (hlw : l < w.heap.size) : ¬ Ext F w wr l := fun h => h.elim hnf fun h => by omega
theorem SwSt.step {w wr w' : World} {g l : Nat} {F : Nat → Prop} {s s' : DS} {gen area used next gen' area' used' next' : Int} (h : SwSt w g l F s gen area used next wr) (hF : ∀ k, F k → k < w.heap.size) (hd : DiskAt w' g (Ext (Ext F w wr) wr w') s') (hl : LogAt w' l g gen' area' used' next') (hc : Chg (FL (Ext F w wr) l) wr w') : SwSt w g l F s' gen' area' used' next' w' := by
  have s1 := h.2.2.size
  have s2 := hc.size
  refine ⟨hd.ext (fun k hk => hk.elim (fun hk => hk.elim .inl fun hk => .inr ⟨hk.1, by omega⟩) fun hk => .inr ⟨by omega, hk.2⟩) (fun k hk => hk.elim (fun hf => by have := hF k hf; omega) fun h => h.2), hl, h.2.2.trans' hc fun k hk hg => ?_⟩
  rcases hg with (hg | hg) | hg
  · exact .inl hg
  · omega
  · exact .inr hg
def PtRel (w : World) (g l : Nat) (F : Nat → Prop) (s : DS) (gen area used next : Int) (st : Nat) (xs : List Sl) (sec i : Value) (wr : World) : Prop :=
  ∃ k : Nat, k ≤ xs.length ∧ sec = .int .i64 ((st + totalM (lists (xs.take k)) : Nat) : Int) ∧ i = .int .i64 k ∧ SwSt w g l F ⟨s.last, s.wr ++ swWs st next (lists (xs.take k))⟩ gen area used (next + ((totalM (lists (xs.take k)) : Nat) : Int)) wr
theorem lists_take_succ {xs : List Sl} {k : Nat} (h : k < xs.length) : lists (xs.take (k + 1)) = lists (xs.take k) ++ [(xs[k]'h).l] := by
  unfold lists; rw [List.take_succ_eq_append_getElem h, List.map_append]; rfl
theorem total_le_take (R : List (List Int)) (k : Nat) : totalM (R.take k) ≤ totalM R := by
  have h := total_append (R.take k) (R.drop k)
  rw [List.take_append_drop] at h
  omega
theorem lists_take (xs : List Sl) (k : Nat) : lists (xs.take k) = (lists xs).take k := by simp [lists, List.map_take]

set_option maxRecDepth 100000 in
set_option maxHeartbeats 3200000 in
theorem switch_any {w : World} {g l : Nat} {F : Nat → Prop} {s : DS} {gen area used next : Int} (h : DiskAt w g F s) (hl : LogAt w l g gen area used next) (hnf : ¬ F l) (h2 : 2 ≤ s.last.length) (ha : area = 0 ∨ area = 1) (hg : 0 ≤ gen ∧ gen < 4294967290) (hx : 0 ≤ next ∧ next < 4294967296)
    (B : Nat) (A : Option Addr) (c : Nat) (xs : List Sl) (hr : Rd w B A xs.length (vals xs)) (hs : SlsIn w B xs) (hB : B ≤ w.heap.size) (hlo : ∀ k, FL F l k → B ≤ k) (hln : xs.length ≤ 100000) (few : s.wr.length + 40000 < 1000000) :
    Calls Try.prog 21 #[.pointer (some ⟨l, 0, none⟩), .slice A xs.length c] w (SwRet w g l F s gen area next xs) := by
  have hh := h.half_le
  have hlw := hl.lt
  have hle := h.ok.le
  obtain ⟨c0, c1, c2, c3, c4⟩ := hl.c
  have HR := Lib.hid (And.intro h (And.intro hl (And.intro hr (And.intro hs hlo))))
  clear h hl hr hs hlo
  go_enter Try.func21, Try.ntmps21
  go_wp2_with fail
  go_loopw [5, 15] (fun n i wr => NdRel xs w n i wr) (fun _ i _ => xs.length - (intOf i).toNat)
  case atStart => exact ⟨0, by omega, rfl, rfl, rfl, by simp, by simp [lists, totalM]⟩
  case round =>
    obtain ⟨k, hk, rfl, rfl, rfl, hall, hbd⟩ := hrel
    obtain ⟨need, hnd⟩ : ∃ need, need = totalM (lists (xs.take k)) := ⟨_, rfl⟩
    rw [← hnd] at hbd ⊢
    have HN := Lib.hid (And.intro hnd hall)
    clear hnd hall
    by_cases hlt : k < xs.length
    · obtain ⟨ad, v, rfl, _, hv, hc⟩ := HR.out.2.2.1.at_ hlt
      obtain ⟨x, hx⟩ : ∃ x, x = xs[k]'hlt := ⟨_, rfl⟩
      have hxv : v = .slice x.A x.n x.c := by
        simp only [vals, List.getElem?_map, List.getElem?_eq_getElem hlt, Option.map_some, Option.some.injEq] at hv
        rw [← hv, hx]; rfl
      subst hxv
      have hmem : x ∈ xs := by rw [hx]; exact List.getElem_mem _
      have hxl : x.l.length = x.n := by have := (HR.out.2.2.2.1 x hmem).1.len; rwa [cells_len] at this
      have htk := total_append (lists (xs.take k)) [x.l]
      rw [show lists (xs.take k) ++ [x.l] = lists (xs.take (k + 1)) by rw [lists_take_succ hlt, hx]] at htk
      have hk0 : (0 : Int) ≤ (k : Int) := Int.natCast_nonneg _
      have hk1 : (k : Int) < (xs.length : Int) := by omega
      have HT := Lib.hid (And.intro htk (And.intro hx (And.intro hmem hxl)))
      clear hv hx htk hmem hxl
      by_cases hbig : 4096 < x.n
      · have hbi : (4096 : Int) < (x.n : Int) := by omega
        go_wp2
        go_ret
        exact .inl ⟨⟨x, HT.out.2.2.1, hbig⟩, rfl, 0, rfl⟩
      · have hbi : ¬ (4096 : Int) < (x.n : Int) := by omega
        obtain ⟨m, hm⟩ : ∃ m, m = secsOf x.n := ⟨_, rfl⟩
        have hmb : m ≤ 74 := by rw [hm]; unfold secsOf; omega
        have HM := Lib.hid hm
        clear hm
        go_wp2_with fail
        refine (sectorsOf_any x.n (by omega) _).mono ?_
        rw [show (x.n + 57) / 56 = m from HM.out.symm]
        rintro e w1 ⟨rfl, rfl⟩
        have HF : Hid (NdRel xs w (.int .i64 ((need : Int) + (m : Int))) (.int .i64 ((k : Int) + 1)) w) := by
          have e1 : totalM (lists (xs.take (k + 1))) = need + m := by
            rw [HT.out.1, ← HN.out.1]
            simp only [totalM]
            rw [HT.out.2.2.2, ← HM.out]
            omega
          refine Lib.hid ⟨k + 1, by omega, by rw [e1]; congr 1, by congr 1, rfl, ?_, by rw [e1]; omega⟩
          intro y hy
          rw [List.take_succ_eq_append_getElem hlt] at hy
          rcases List.mem_append.1 hy with hy | hy
          · exact HN.out.2 y hy
          · rw [List.mem_singleton.1 hy, ← HT.out.2.1]; omega
        go_wp2
        go_roundw
        case rel => exact HF.out
        case measure => simp [intOf]; omega
    · have hkn : ¬ ((k : Int) < (xs.length : Int)) := by omega
      have hkl : k = xs.length := by omega
      have htk : xs.take k = xs := List.take_of_length_le (by omega)
      have hall : ∀ x ∈ xs, x.n ≤ 4096 := fun x hx => HN.out.2 x (by rw [htk]; exact hx)
      have hnd : need = totalM (lists xs) := by rw [HN.out.1, htk]
      have hne0 : need = 0 → xs = [] := fun e => by
        cases xs with
        | nil => rfl
        | cons y ys =>
          rw [hnd] at e
          simp only [lists, List.map_cons, totalM] at e
          unfold secsOf at e
          omega
      have HD := Lib.hid (And.intro hall (And.intro hnd (And.intro hne0 hkl)))
      have hnb : need ≤ 7400000 := by omega
      clear HN hall hnd hne0 htk hbd
      go_wp2_with fail
      refine (half_any HR.out.1 h2).mono ?_
      rw [show (s.last.length - 2) / 2 = s.half from rfl]
      rintro e w1 ⟨rfl, rfl⟩
      by_cases g1 : s.half < need
      · have g1i : (s.half : Int) < (need : Int) := by omega
        go_wp2
        go_ret
        exact .inr (.inl ⟨HD.out.1, by unfold swFull; rw [← HD.out.2.1]; exact .inl g1, rfl, 0, rfl⟩)
      have g1i : ¬ (s.half : Int) < (need : Int) := by omega
      go_wp2_with fail
      refine (hasStamps_any (hl := by exact HR.out.2.1) need (by omega) ⟨by omega, by omega⟩).mono ?_
      rintro e w2 ⟨rfl, rfl⟩
      cases hst : hasSt next need with
      | false =>
        go_wp2
        go_ret
        exact .inr (.inl ⟨HD.out.1, by unfold swFull; rw [← HD.out.2.1]; exact .inr (.inl hst), rfl, 0, rfl⟩)
      | true =>
        go_wp2_with fail
        refine (isLast_any (hl := by exact HR.out.2.1) ⟨by omega, by omega⟩).mono ?_
        rintro e w3 ⟨rfl, rfl⟩
        by_cases g3 : 2147483648 ≤ gen + 1
        · rw [decide_eq_true g3]
          go_wp2
          go_ret
          exact .inr (.inl ⟨HD.out.1, by unfold swFull; exact .inr (.inr g3), rfl, 0, rfl⟩)
        rw [decide_eq_false g3]
        obtain ⟨st, hst2⟩ : ∃ st : Nat, st = 2 + (1 - area).toNat * s.half := ⟨_, rfl⟩
        have hsi : 2 + (1 - area) * (s.half : Int) = (st : Int) := by
          rcases ha with rfl | rfl
          · simp at hst2 ⊢; omega
          · simp at hst2 ⊢; omega
        have hhl : 2 + 2 * s.half ≤ s.last.length := by unfold DS.half; omega
        have hstb : st + s.half ≤ s.last.length := by rcases ha with rfl | rfl <;> simp at hst2 <;> omega
        have hxn : need = 0 ∨ next + (need : Int) ≤ 2147483648 := by
          unfold hasSt at hst
          simp only [Bool.or_eq_true, decide_eq_true_eq] at hst
          omega
        have HS := Lib.hid (And.intro hst (And.intro hst2 (And.intro hsi hhl)))
        clear hst hst2 hsi hhl
        go_wp2_with fail
        go_region
        go_wp2_with fail
        obtain ⟨wd, hwd⟩ : ∃ wd, wd = w.drew := ⟨_, rfl⟩
        have h0 : SwSt w g l F s gen area used next wd := by
          rw [hwd]
          exact ⟨HR.out.1.drew.ext (fun k hk => .inl hk) (fun k hk => hk.elim (fun hf => HR.out.1.foot k hf) fun h => h.2), HR.out.2.1.drew, (Chg.refl _ _).drewN 1⟩
        rw [← hwd]
        have H0 := Lib.hid h0
        have hfoot : ∀ k, F k → k < w.heap.size := HR.out.1.foot
        clear hwd h0
        refine (start_any (h := by exact H0.out.1) (hl := by exact H0.out.2.1) h2 (1 - area) (by omega)).mono ?_
        rw [HS.out.2.2.1]
        rintro e w4 ⟨rfl, rfl⟩
        go_wp2_with fail
        go_loopw [10, 59] (fun sec i wr => PtRel w g l F s gen area used next st xs sec i wr) (fun _ i _ => xs.length - (intOf i).toNat)
        case atStart => exact ⟨0, by omega, by simp [lists, totalM], rfl, by simpa [lists, totalM, swWs] using H0.out⟩
        case round =>
          obtain ⟨j, hj, rfl, rfl, hst⟩ := hrel
          have hsl := HR.out.2.2.2.1.chg hst.2.2 hB (fun k hk hf => by have := HR.out.2.2.2.2 k hf; omega)
          have hrr := HR.out.2.2.1.chg hst.2.2 hB (fun k hk hf => by have := HR.out.2.2.2.2 k hf; omega)
          have hsz := hst.2.2.size
          have htl : totalM (lists (xs.take j)) ≤ need := by rw [HD.out.2.1, lists_take]; exact total_le_take _ _
          obtain ⟨tj, htj⟩ : ∃ tj, tj = totalM (lists (xs.take j)) := ⟨_, rfl⟩
          rw [← htj] at hst htl ⊢
          by_cases hlt : j < xs.length
          · obtain ⟨ad, v, rfl, _, hv, hc⟩ := hrr.at_ hlt
            obtain ⟨x, hx⟩ : ∃ x, x = xs[j]'hlt := ⟨_, rfl⟩
            have hxv : v = .slice x.A x.n x.c := by
              simp only [vals, List.getElem?_map, List.getElem?_eq_getElem hlt, Option.map_some, Option.some.injEq] at hv
              rw [← hv, hx]; rfl
            subst hxv
            have hmem : x ∈ xs := by rw [hx]; exact List.getElem_mem _
            have hxl : x.l.length = x.n := by have := (hsl x hmem).1.len; rwa [cells_len] at this
            have hxn := HD.out.1 x hmem
            have htk := total_append (lists (xs.take j)) [x.l]
            have hls : lists (xs.take (j + 1)) = lists (xs.take j) ++ [x.l] := by rw [lists_take_succ hlt, hx]
            rw [← hls, ← htj] at htk
            simp only [totalM, Nat.add_zero] at htk
            have htl2 : totalM (lists (xs.take (j + 1))) ≤ need := by rw [HD.out.2.1, lists_take]; exact total_le_take _ _
            obtain ⟨m, hm⟩ : ∃ m, m = secsOf x.n := ⟨_, rfl⟩
            have hpm : pcs (2 + x.n) = m := by rw [pcs_secs, hm]
            rw [hxl, ← hm] at htk
            rw [htk] at htl2
            have hmb : 1 ≤ m ∧ m ≤ 74 := by rw [hm]; unfold secsOf; omega
            have hk0 : (0 : Int) ≤ (j : Int) := Int.natCast_nonneg _
            have hk1 : (j : Int) < (xs.length : Int) := by omega
            have HX := Lib.hid (And.intro hst (And.intro ((hsl x hmem).1.more (Nat.le_trans hB hsz)) (And.intro hxl (And.intro hls (And.intro htk (And.intro hpm (And.intro hm htj)))))))
            have hnx : next + (need : Int) ≤ 2147483648 := by omega
            clear hst hsl hrr hv hx hmem hxl htk hls hm hpm htj
            go_wp2_with fail
            refine (put_at _ (st + tj) (by rfl) (h := by exact HX.out.1.1) (hl := by exact HX.out.1.2.1) (HX.out.1.nf hnf hlw) x.A x.n x.c x.l (by exact HX.out.2.1) hxn ⟨by omega, by omega⟩ (by rw [HX.out.2.2.2.2.2.1]; show st + tj + m ≤ s.last.length; omega) (by rw [List.length_append, swWs_len, ← HX.out.2.2.2.2.2.2.2]; omega)).mono ?_
            rw [HX.out.2.2.2.2.2.1]
            rintro e w5 ⟨rfl, hd5, hl5, hc5⟩
            have h5 := HX.out.1.step hfoot hd5 hl5 hc5
            have HF : Hid (PtRel w g l F s gen area used next st xs (.int .i64 ((st + tj + m : Nat) : Int)) (.int .i64 ((j : Int) + 1)) w5) := by
              refine Lib.hid ⟨j + 1, by omega, ?_, by congr 1, ?_⟩
              · rw [HX.out.2.2.2.2.1, Nat.add_assoc]
              · rw [HX.out.2.2.2.1, swWs_snoc, ← HX.out.2.2.2.2.2.2.2, HX.out.2.2.1, ← HX.out.2.2.2.2.2.2.1]
                rw [← HX.out.2.2.2.1, HX.out.2.2.2.2.1]
                rw [List.append_assoc] at h5
                rw [show next + ((tj + m : Nat) : Int) = next + (tj : Int) + (m : Int) by omega]
                exact h5
            clear h5 hd5 hl5 hc5
            go_wp2
            go_roundw
            case rel => exact HF.out
            case measure => simp [intOf]; omega
          · have hkn : ¬ ((j : Int) < (xs.length : Int)) := by omega
            have hxt : xs.take j = xs := List.take_of_length_le (by omega)
            rw [hxt] at hst htj
            rw [← HD.out.2.1] at htj
            obtain rfl : need = tj := htj.symm
            obtain ⟨d0, d1, d2, d3, d4⟩ := hst.2.1.c
            have HT := Lib.hid hst
            clear hst hsl hrr hxt
            go_wp2_with fail
            refine (flush_any HT.out.1).mono ?_
            rintro e w5 ⟨rfl, hd5, hc5⟩
            have h5 := HT.out.step hfoot hd5 (HT.out.2.1.chg hc5 (HT.out.nf hnf hlw)) (hc5.mono fun k _ hk => .inl hk)
            have H5 := Lib.hid h5
            clear h5 hd5 hc5 d0 d1 d2 d3 d4
            go_wp2_with fail
            refine (lead_any (h := by exact H5.out.1) (hl := by exact H5.out.2.1) (H5.out.nf hnf hlw) ⟨by omega, by omega⟩ (1 - area) next (by omega) ⟨by omega, by omega⟩ (by simp [DS.flush]) (by simp [DS.flush, lay_len]; omega)).mono ?_
            rintro e w6 ⟨rfl, hd6, hl6, hc6⟩
            have h6 := H5.out.step hfoot hd6 hl6 hc6
            obtain ⟨d0, d1, d2, d3, d4⟩ := h6.2.1.c
            have f3 := h6.2.1.frozen 3
            have HF : Hid (SwSt w g l F (swS s area gen next (lists xs)) (gen + 1) (1 - area) ((need : Nat) : Int) (next + ((need : Nat) : Int)) (w6.setCell ⟨l, 3, none⟩ (.int .i64 (need : Int)))) := by
              have sz : (w6.setCell ⟨l, 3, none⟩ (.int .i64 (need : Int))).heap.size = w6.heap.size := by simp [World.setCell]
              unfold swS
              rw [← HS.out.2.1]
              refine Lib.hid ⟨(h6.1.chg ((Chg.refl (fun k => k = l) w6).setCell (p := ⟨l, 3, none⟩) (fun _ => rfl) _) fun k hk e => h6.nf hnf hlw (e ▸ hk)).ext (fun k hk => ?_) (fun k hk => ?_), Blk.put h6.2.1 3 _, h6.2.2.setCell (p := ⟨l, 3, none⟩) (fun _ => .inr rfl) _⟩
              · rcases hk with h | h
                · exact .inl h
                · exact .inr ⟨h.1, by rw [sz]; exact h.2⟩
              · rcases hk with h | h
                · have h1 := hfoot k h
                  have h3 := h6.2.2.size
                  omega
                · exact h.2
            clear h6 hd6 hl6 hc6
            go_wp2
            go_ret
            refine .inr (.inr ⟨HD.out.1, ?_, rfl, ?_⟩)
            · unfold swFull
              rw [← HD.out.2.1, HS.out.1]
              rintro (h | h | h)
              · omega
              · cases h
              · omega
            · rw [← HD.out.2.1]
              exact HF.out
end Go.Proofs.Ytehghjakggdnpaa
