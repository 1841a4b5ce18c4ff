/-
  The document's Switch.
  The document's record.
-/
import Derived.Test.YtehghjakggdnpaaWQa
import Derived.Test.YtehghjakggdnpaaWNext
namespace Go.Proofs.Ytehghjakggdnpaa
open Go.RowKit Go.Lib

/-- what the document's Switch answers -/
def RSwRet (w : World) (g l : Nat) (G : Nat → Prop) (s : DS) (gen area next : Int) (xs : List Sl) (e : Ending) (w' : World) : Prop :=
  ((∃ x ∈ xs, 4096 < x.n) ∧ e = .returned (.int .i64 41) ∧ ∃ p, w' = w.drewN p) ∨
  ((∀ x ∈ xs, x.n ≤ 4096) ∧ swFull s (totalM (lists xs)) gen next ∧ e = .returned (.int .i64 36) ∧ ∃ p, w' = w.drewN p) ∨
  ((∀ x ∈ xs, x.n ≤ 4096) ∧ ¬ swFull s (totalM (lists xs)) gen next ∧ e = .returned (.int .i64 0) ∧ RSt w g l G (swS s area gen next (lists xs)) (gen + 1) (1 - area) ((totalM (lists xs) : Nat) : Int) (next + ((totalM (lists xs) : Nat) : Int)) w')
def RPtRel (w : World) (g l : Nat) (G : Nat → Prop) (s : DS) (gen area used next : Int) (st : Nat) (xs : List Sl) (p i : Value) (wr : World) : Prop :=
  ∃ k : Nat, k ≤ xs.length ∧ p = .int .i64 ((totalM (lists (xs.take k)) : Nat) : Int) ∧ i = .int .i64 k ∧ RSt w g l G ⟨s.last, s.wr ++ swWs st next (lists (xs.take k))⟩ gen area used (next + ((totalM (lists (xs.take k)) : Nat) : Int)) wr

theorem RSt.join {w wr w5 : World} {g l : Nat} {G : Nat → Prop} {s s' : DS} {gen area pos stamp gen' area' pos' stamp' : Int} (h : RSt w g l G s gen area pos stamp wr) (hF : ∀ k, G k → k < w.heap.size) (h5 : RSt wr g l (Ext G w wr) s' gen' area' pos' stamp' w5) : RSt w g l G s' gen' area' pos' stamp' w5 :=
  h.step hF h5.1 h5.2.1 h5.2.2
theorem RSt.undrew {w w5 : World} {g l : Nat} {G : Nat → Prop} {s : DS} {gen area pos stamp : Int} (h : RSt w.drew g l G s gen area pos stamp w5) : RSt w g l G s gen area pos stamp w5 := ⟨h.1, h.2.1, ⟨h.2.2.os, h.2.2.tape, h.2.2.output, h.2.2.size, h.2.2.block⟩⟩

set_option maxRecDepth 100000 in
set_option maxHeartbeats 6400000 in
theorem refSwitch_any {w : World} {g l : Nat} {G : Nat → Prop} {s : DS} {gen area used next : Int} (h : RefAt w g G s) (hl : RLogAt w l g gen area used next) (hnf : ¬ G l) (h2 : 2 ≤ s.last.length) (ha : area = 0 ∨ area = 1) (hg : 0 ≤ gen ∧ gen < 4294967280) (hx : 0 ≤ next ∧ next < 2147483648)
    (B : Nat) (A : Option Addr) (c : Nat) (xs : List Sl) (hr : Rd w B A xs.length (vals xs)) (hs : SlsIn w B xs) (hB : B ≤ w.heap.size) (hlo : ∀ k, FL G l k → B ≤ k) (hln : xs.length ≤ 100000) (few : s.wr.length + 40000 < 1000000) :
    Calls Try.prog 22 #[.pointer (some ⟨l, 0, none⟩), .slice A xs.length c] w (RSwRet w g l G s gen area next xs) := by
  have hh := h.half_le
  have hlw := hl.lt
  have hle := h.ok.le
  have HFO := Lib.hid h.foot
  obtain ⟨c0, c1, c2, c3, c4⟩ := hl.c
  have HR := Lib.hid (And.intro h (And.intro hl (And.intro hr (And.intro hs hlo))))
  clear h hl hr hs hlo
  go_enter Try.func22, Try.ntmps22
  go_wp2_with fail
  go_loopw [5, 6] (fun n i wr => NdRel xs w n i wr) (fun _ i _ => xs.length - (intOf i).toNat)
  case atStart => exact ⟨0, by omega, rfl, rfl, rfl, by simp, by simp [lists, totalM]⟩
  case round =>
    obtain ⟨k, hk, rfl, rfl, rfl, hall, hbd⟩ := hrel
    obtain ⟨need, hnd⟩ : ∃ need, need = totalM (lists (xs.take k)) := ⟨_, rfl⟩
    rw [← hnd] at hbd ⊢
    have HN := Lib.hid (And.intro hnd hall)
    clear hnd hall
    by_cases hlt : k < xs.length
    · obtain ⟨ad, v, rfl, _, hv, hc⟩ := HR.out.2.2.1.at_ hlt
      obtain ⟨x, hx⟩ : ∃ x, x = xs[k]'hlt := ⟨_, rfl⟩
      have hxv : v = .slice x.A x.n x.c := by
        simp only [vals, List.getElem?_map, List.getElem?_eq_getElem hlt, Option.map_some, Option.some.injEq] at hv
        rw [← hv, hx]; rfl
      subst hxv
      have hmem : x ∈ xs := by rw [hx]; exact List.getElem_mem _
      have hxl : x.l.length = x.n := by have := (HR.out.2.2.2.1 x hmem).1.len; rwa [cells_len] at this
      have htk := total_append (lists (xs.take k)) [x.l]
      rw [show lists (xs.take k) ++ [x.l] = lists (xs.take (k + 1)) by rw [lists_take_succ hlt, hx]] at htk
      have hk0 : (0 : Int) ≤ (k : Int) := Int.natCast_nonneg _
      have hk1 : (k : Int) < (xs.length : Int) := by omega
      have HT := Lib.hid (And.intro htk (And.intro hx (And.intro hmem hxl)))
      clear hv hx htk hmem hxl
      by_cases hbig : 4096 < x.n
      · have hbi : (4096 : Int) < (x.n : Int) := by omega
        go_wp2
        go_ret
        exact .inl ⟨⟨x, HT.out.2.2.1, hbig⟩, rfl, 0, rfl⟩
      · have hbi : ¬ (4096 : Int) < (x.n : Int) := by omega
        obtain ⟨m, hm⟩ : ∃ m, m = secsOf x.n := ⟨_, rfl⟩
        have hmb : m ≤ 74 := by rw [hm]; unfold secsOf; omega
        have HM := Lib.hid hm
        clear hm
        go_wp2_with fail
        refine (refPieces_any x.n (by omega) _).mono ?_
        rw [← HM.out]
        rintro e w1 ⟨rfl, rfl⟩
        have HF : Hid (NdRel xs w (.int .i64 ((need : Int) + (m : Int))) (.int .i64 ((k : Int) + 1)) w) := by
          have e1 : totalM (lists (xs.take (k + 1))) = need + m := by
            rw [HT.out.1, ← HN.out.1]
            simp only [totalM]
            rw [HT.out.2.2.2, ← HM.out]
            omega
          refine Lib.hid ⟨k + 1, by omega, by rw [e1]; congr 1, by congr 1, rfl, ?_, by rw [e1]; omega⟩
          intro y hy
          rw [List.take_succ_eq_append_getElem hlt] at hy
          rcases List.mem_append.1 hy with hy | hy
          · exact HN.out.2 y hy
          · rw [List.mem_singleton.1 hy, ← HT.out.2.1]; omega
        go_wp2
        go_roundw
        case rel => exact HF.out
        case measure => simp [intOf]; omega
    · have hkn : ¬ ((k : Int) < (xs.length : Int)) := by omega
      have hkl : k = xs.length := by omega
      have htk : xs.take k = xs := List.take_of_length_le (by omega)
      have hall : ∀ x ∈ xs, x.n ≤ 4096 := fun x hx => HN.out.2 x (by rw [htk]; exact hx)
      have hnd : need = totalM (lists xs) := by rw [HN.out.1, htk]
      have HD := Lib.hid (And.intro hall (And.intro hnd hkl))
      have hnb : need ≤ 7400000 := by omega
      clear HN hall hnd htk hbd
      have hh2 := hh
      obtain ⟨hf1, hhf⟩ : ∃ z : Nat, z = s.half := ⟨_, rfl⟩
      have HHF := Lib.hid hhf
      rw [← hhf] at hh hh2
      clear hhf
      go_wp2_with fail
      refine (refHalf_any HR.out.1 h2).mono ?_
      rw [← HHF.out]
      rintro e w1 ⟨rfl, rfl⟩
      by_cases g1 : hf1 < need
      · have g1i : (hf1 : Int) < (need : Int) := by omega
        go_wp2
        go_ret
        exact .inr (.inl ⟨HD.out.1, by unfold swFull; rw [← HD.out.2.1, ← HHF.out]; exact .inl g1, rfl, 0, rfl⟩)
      have g1i : ¬ (hf1 : Int) < (need : Int) := by omega
      have q1 : IntKind.i64.wrap (next + (need : Int)) = next + (need : Int) := wri (by omega) (by omega)
      by_cases g2 : 2147483648 < next + (need : Int)
      · go_wp2
        go_ret
        refine .inr (.inl ⟨HD.out.1, ?_, rfl, 0, rfl⟩)
        unfold swFull
        rw [← HD.out.2.1]
        refine .inr (.inl ?_)
        unfold hasSt
        rw [decide_eq_false (by omega), decide_eq_false (by omega)]
        rfl
      have g2n : ¬ 2147483648 ≤ next := by omega
      by_cases g3 : 2147483648 ≤ gen + 1
      · go_wp2
        go_ret
        exact .inr (.inl ⟨HD.out.1, by unfold swFull; exact .inr (.inr g3), rfl, 0, rfl⟩)
      obtain ⟨st, hst2⟩ : ∃ st : Nat, st = 2 + (1 - area).toNat * s.half := ⟨_, rfl⟩
      have hsi : (st : Int) = 2 + (1 - area) * (s.half : Int) := by
        rcases ha with rfl | rfl
        · simp at hst2 ⊢; omega
        · simp at hst2 ⊢; omega
      have hhl : 2 + 2 * s.half ≤ s.last.length := by unfold DS.half; omega
      have hstb : st + s.half ≤ s.last.length := by rcases ha with rfl | rfl <;> simp at hst2 <;> omega
      rw [← HHF.out] at hhl hstb hsi
      have hst : hasSt next need = true := by
        unfold hasSt
        rw [decide_eq_true (show next + (need : Int) ≤ 2147483648 by omega), Bool.or_true]
      have HS := Lib.hid (And.intro hst (And.intro hst2 hsi))
      clear hst hst2 hsi
      have hab : 0 ≤ area ∧ area ≤ 1 := by omega
      have q5 : IntKind.i64.wrap (1 - area) = 1 - area := wri (by omega) (by omega)
      go_wp2_with fail
      go_loopw [8, 9] (fun p i wr => RPtRel w g l G s gen area used next st xs p i wr) (fun _ i _ => xs.length - (intOf i).toNat)
      case atStart => exact ⟨0, by omega, by simp [lists, totalM], rfl, by simpa [lists, totalM, swWs] using (RSt.refl HR.out.1 HR.out.2.1)⟩
      case round =>
        obtain ⟨j, hj, rfl, rfl, hst⟩ := hrel
        have hsl := HR.out.2.2.2.1.chg hst.2.2 hB (fun k hk hf => by have := HR.out.2.2.2.2 k hf; omega)
        have hrr := HR.out.2.2.1.chg hst.2.2 hB (fun k hk hf => by have := HR.out.2.2.2.2 k hf; omega)
        have hsz := hst.2.2.size
        have htl : totalM (lists (xs.take j)) ≤ need := by rw [HD.out.2.1, lists_take]; exact total_le_take _ _
        obtain ⟨tj, htj⟩ : ∃ tj, tj = totalM (lists (xs.take j)) := ⟨_, rfl⟩
        rw [← htj] at hst htl ⊢
        obtain ⟨d0, d1, d2, d3, d4⟩ := hst.2.1.c
        by_cases hlt : j < xs.length
        · obtain ⟨ad, v, rfl, _, hv, hc⟩ := hrr.at_ hlt
          obtain ⟨x, hx⟩ : ∃ x, x = xs[j]'hlt := ⟨_, rfl⟩
          have hxv : v = .slice x.A x.n x.c := by
            simp only [vals, List.getElem?_map, List.getElem?_eq_getElem hlt, Option.map_some, Option.some.injEq] at hv
            rw [← hv, hx]; rfl
          subst hxv
          have hmem : x ∈ xs := by rw [hx]; exact List.getElem_mem _
          have hxl : x.l.length = x.n := by have := (hsl x hmem).1.len; rwa [cells_len] at this
          have hxn := HD.out.1 x hmem
          have htk := total_append (lists (xs.take j)) [x.l]
          have hls : lists (xs.take (j + 1)) = lists (xs.take j) ++ [x.l] := by rw [lists_take_succ hlt, hx]
          rw [← hls, ← htj] at htk
          simp only [totalM, Nat.add_zero] at htk
          have htl2 : totalM (lists (xs.take (j + 1))) ≤ need := by rw [HD.out.2.1, lists_take]; exact total_le_take _ _
          obtain ⟨m, hm⟩ : ∃ m, m = secsOf x.n := ⟨_, rfl⟩
          rw [hxl, ← hm] at htk
          rw [htk] at htl2
          have hmb : 1 ≤ m ∧ m ≤ 74 := by rw [hm]; unfold secsOf; omega
          have hk0 : (0 : Int) ≤ (j : Int) := Int.natCast_nonneg _
          have hk1 : (j : Int) < (xs.length : Int) := by omega
          have HX := Lib.hid (And.intro hst (And.intro ((hsl x hmem).1.more (Nat.le_trans hB hsz)) (And.intro hxl (And.intro hls (And.intro htk (And.intro hm (And.intro htj (And.intro hv hx))))))))
          have hnx : next + (need : Int) ≤ 2147483648 := by omega
          clear hst hsl hrr hv hx hmem hxl htk hls hm htj
          go_wp2_with fail
          go_still_tail 11, (by kernel_rfl)
          repeat still_step
          go_wp2_with fail
          refine (refRecWrite_any (by exact HX.out.1.1.drew) (by exact HX.out.1.2.1.drew) (HX.out.1.nf hnf hlw) (by exact h2) (1 - area) tj (st + tj) (by omega) (by omega) (by have h9 := HS.out.2.2; rw [HHF.out] at h9; show ((st + tj : Nat) : Int) = 2 + (1 - area) * (s.half : Int) + (tj : Int); rw [show ((st + tj : Nat) : Int) = (st : Int) + (tj : Int) by omega, h9]) x.A x.n x.c x.l (by exact HX.out.2.1) hxn ⟨by omega, by omega⟩ (by rw [← HX.out.2.2.2.2.2.1]; show st + tj + m ≤ s.last.length; omega) (by show (s.wr ++ _).length + 100 < _; rw [List.length_append, swWs_len, ← HX.out.2.2.2.2.2.2.1]; omega)).mono ?_
          rw [← HX.out.2.2.2.2.2.1]
          rintro e w5 ⟨rfl, h5⟩
          have H5 := Lib.hid (HX.out.1.join HFO.out h5.undrew)
          clear h5 hc
          obtain ⟨ad', v', e', _, hv', hc'⟩ := (HR.out.2.2.1.chg H5.out.2.2 hB (fun k hk hf => by have := HR.out.2.2.2.2 k hf; omega)).at_ hlt
          obtain rfl := Option.some.inj e'
          obtain rfl : v' = .slice x.A x.n x.c := by
            have := HX.out.2.2.2.2.2.2.2.1
            rw [hv'] at this
            exact Option.some.inj this
          clear hv' e'
          go_wp2_with fail
          refine (refPieces_any x.n (by omega) _).mono ?_
          rw [← HX.out.2.2.2.2.2.1]
          rintro e w6 ⟨rfl, rfl⟩
          have HF : Hid (RPtRel w g l G s gen area used next st xs (.int .i64 ((tj : Int) + (m : Int))) (.int .i64 ((j : Int) + 1)) w5) := by
            refine Lib.hid ⟨j + 1, by omega, ?_, by congr 1, ?_⟩
            · rw [HX.out.2.2.2.2.1]; congr 1
            · rw [HX.out.2.2.2.1, swWs_snoc, ← HX.out.2.2.2.2.2.2.1, HX.out.2.2.1, ← HX.out.2.2.2.2.2.1]
              rw [← HX.out.2.2.2.1, HX.out.2.2.2.2.1]
              have h5 := H5.out
              rw [List.append_assoc] at h5
              rw [show next + ((tj + m : Nat) : Int) = next + (tj : Int) + (m : Int) by omega]
              exact h5
          go_wp2
          go_roundw
          case rel => exact HF.out
          case measure => simp [intOf]; omega
        · have hkn : ¬ ((j : Int) < (xs.length : Int)) := by omega
          have hxt : xs.take j = xs := List.take_of_length_le (by omega)
          rw [hxt] at hst htj
          rw [← HD.out.2.1] at htj
          obtain rfl : need = tj := htj.symm
          have HT := Lib.hid hst
          clear hst hsl hrr hxt
          go_wp2_with fail
          refine (refFlush_any HT.out.1).mono ?_
          rintro e w5 ⟨rfl, hd5, hc5⟩
          have H5 := Lib.hid (HT.out.step HFO.out hd5 (HT.out.2.1.chg hc5 (HT.out.nf hnf hlw)) (hc5.mono fun k _ hk => .inl hk))
          clear hd5 hc5 d0 d1 d2 d3 d4
          have hlog := H5.out.2.1
          obtain ⟨d0, d1, d2, d3, d4⟩ := hlog.c
          have f1 := hlog.frozen 1
          have f2 := hlog.frozen 2
          have f3 := hlog.frozen 3
          clear hlog
          have H6 := Lib.hid ((((H5.out.put HFO.out hnf hlw 1 (.int .i64 (gen + 1)) (H5.out.2.1.put1 _))).put HFO.out hnf hlw 2 (.int .i64 (1 - area)) ((H5.out.2.1.put1 _).put2 _)).put HFO.out hnf hlw 3 (.int .i64 (need : Int)) (((H5.out.2.1.put1 _).put2 _).put3 _))
          go_wp2_with fail
          refine (refHead_any (by exact H6.out.1) (by exact H6.out.2.1) (H6.out.nf hnf hlw) ⟨by omega, by omega⟩ (by omega) next ⟨by omega, by omega⟩ (by simp [DS.flush]) (by show 2 ≤ (lay s.last _).length; rw [lay_len]; exact h2)).mono ?_
          rintro e w7 ⟨rfl, h7⟩
          have H7 := Lib.hid (H6.out.join HFO.out h7)
          clear h7
          go_wp2
          go_ret
          refine .inr (.inr ⟨HD.out.1, ?_, rfl, ?_⟩)
          · unfold swFull
            rw [← HD.out.2.1, HS.out.1, ← HHF.out]
            rintro (h | h | h)
            · omega
            · cases h
            · omega
          · rw [← HD.out.2.1]
            unfold swS
            rw [← HS.out.2.1]
            exact H7.out
end Go.Proofs.Ytehghjakggdnpaa

namespace Go.Proofs.Ytehghjakggdnpaa
open Go.RowKit Go.Lib

def stmsR (C : List (List Int)) (k : Nat) (first : Int) : Nat → Bool
  | 0 => true
  | m + 1 => stmsR C k first m && decide (stmM (C.getD (k + m) []) = first + (m : Int))
theorem stms_eq {C : List (List Int)} {k : Nat} {first : Int} (h : 1 ≤ first) : ∀ m, stmsR C k first m = stampsM C k first m := by
  intro m
  induction m with
  | zero => rfl
  | succ m ih =>
    simp only [stmsR, stampsM, ih]
    congr 1
    generalize C.getD (k + m) [] = b
    unfold stmM stampedB
    have h1 : (1 : Int) ≤ first + (m : Int) := by omega
    generalize first + (m : Int) = n at *
    generalize num4 b 0 = x at *
    generalize num4 b 60 = y at *
    rw [Bool.eq_iff_iff]
    simp only [decide_eq_true_eq, Bool.and_eq_true]
    split <;> omega
theorem stmsR_no {C : List (List Int)} {k i : Nat} {first : Int} (h : stmM (C.getD (k + i) []) ≠ first + (i : Int)) : ∀ m, i < m → stmsR C k first m = false := by
  intro m
  induction m with
  | zero => intro h; omega
  | succ m ih =>
    intro hi
    simp only [stmsR]
    by_cases e : i = m
    · subst e; rw [decide_eq_false h, Bool.and_false]
    · rw [ih (by omega), Bool.false_and]
def recR (C : List (List Int)) (k room : Nat) (least : Int) : Option (List Int × Int) :=
  if stmM (C.getD k []) < 1 ∨ stmM (C.getD k []) < least ∨ 4096 < lenAt (C.getD k []) ∨ room < secsOf (lenAt (C.getD k [])) then none
  else if stmsR C k (stmM (C.getD k [])) (secsOf (lenAt (C.getD k []))) then
    some (((bodyM C k (secsOf (lenAt (C.getD k [])))).drop 2).take (lenAt (C.getD k [])), stmM (C.getD k []))
  else none
theorem recR_eq {C : List (List Int)} {k room : Nat} {least : Int} (h : 1 ≤ least) : recR C k room least = nextRec C k room least := by
  unfold recR nextRec
  by_cases hv : num4 (C.getD k []) 0 = num4 (C.getD k []) 60 ∧ num4 (C.getD k []) 0 < 2147483648
  · have e : stmM (C.getD k []) = num4 (C.getD k []) 0 := if_pos hv
    rw [e]
    by_cases hc : num4 (C.getD k []) 0 < least ∨ 4096 < lenAt (C.getD k []) ∨ room < secsOf (lenAt (C.getD k []))
    · rw [if_pos hc, if_pos (.inr hc)]
    · rw [if_neg hc, if_neg (fun h1 => h1.elim (fun h2 => hc (.inl (by omega))) hc), stms_eq (by omega)]
  · have e : stmM (C.getD k []) = 0 := if_neg hv
    rw [e, if_pos (.inl (by omega))]
    split
    · rfl
    · rw [if_neg]
      rw [stampsM_no (i := 0) (m := secsOf (lenAt (C.getD k []))) _ (by unfold secsOf; omega)]
      · simp
      · rw [Nat.add_zero]
        unfold stampedB
        rw [Bool.eq_false_iff]
        simp only [ne_eq, Bool.and_eq_true, decide_eq_true_eq]
        intro h1
        apply hv
        omega

def RecRet (o : Option (List Int × Int)) (w : World) (e : Ending) (w' : World) : Prop :=
  Below w.heap.size w w' ∧ match o with
    | none => e = .returned (.tuple #[.slice none 0 0, .int .i64 0, .int .i64 0])
    | some (r, first) => ∃ A c, e = .returned (.tuple #[.slice A r.length c, .int .i64 (secsOf r.length : Nat), .int .i64 (first + ((secsOf r.length : Nat) : Int) - 1)]) ∧ Rd w' w'.heap.size A r.length (cells r) ∧ r.length ≤ c ∧ c ≤ maxLen ∧ ∀ ad, A = some ad → w.heap.size ≤ ad.block
def RrecRel (w : World) (C : List (List Int)) (k : Nat) (first : Int) (need : Nat) (v i : Value) (wr : World) : Prop :=
  ∃ j : Nat, j ≤ need ∧ i = .int .i64 j ∧ wr.ownsRow w.heap.size 5 1 v (56 * j) (cells (bodyM C k j)) ∧ stmsR C k first j = true ∧ Below w.heap.size w wr

section
variable {w wr w' : World} {g l : Nat} {G : Nat → Prop} {s : DS} {gen area next : Int} {u : Nat}
set_option maxRecDepth 100000 in
theorem refRecord_end {used : Int} (h : RefAt w g G s) (hl : RLogAt w l g gen area used next) (h2 : 2 ≤ s.last.length) (p least : Int) (hp : (s.half : Int) ≤ p) :
    Calls Try.prog 55 #[.pointer (some ⟨l, 0, none⟩), .int .i64 p, .int .i64 least] w (RecRet none w) := by
  obtain ⟨c0, c1, c2, c3, c4⟩ := hl.c
  have H := Lib.hid h
  clear h hl
  go_enter Try.func55, Try.ntmps55
  go_wp2_with fail
  refine (refHalf_any H.out h2).mono ?_
  rintro e w1 ⟨rfl, rfl⟩
  go_wp2
  go_ret3
  exact ⟨Below.refl _ _, rfl⟩

set_option maxRecDepth 100000 in
set_option maxHeartbeats 6400000 in
theorem refRecord_any {used : Int} (h : RefAt w g G s) (hl : RLogAt w l g gen area used next) (hb : AllBytes s.cur) (h2 : 2 ≤ s.last.length) (ha : area = 0 ∨ area = 1) (hu : u < s.half) (least : Int) :
    Calls Try.prog 55 #[.pointer (some ⟨l, 0, none⟩), .int .i64 u, .int .i64 least] w (RecRet (recR s.cur (2 + area.toNat * s.half + u) (s.half - u) least) w) := by
  obtain ⟨c0, c1, c2, c3, c4⟩ := hl.c
  have hlen := h.ok.le
  have hhl : 2 + 2 * s.half ≤ s.last.length := by unfold DS.half; omega
  have hh := h.half_le
  obtain ⟨st, hst⟩ : ∃ st : Nat, st = 2 + area.toNat * s.half := ⟨_, rfl⟩
  have hsi : (st : Int) = 2 + area * (s.half : Int) := by
    rcases ha with rfl | rfl
    · simp at hst ⊢; omega
    · simp at hst ⊢; omega
  have hstb : st + s.half ≤ s.last.length := by rcases ha with rfl | rfl <;> simp at hst <;> omega
  rw [← hst]
  have hcl : ∀ b ∈ s.cur, b.length = 64 := lay_all h.ok.len (fun p hp => (h.ok.wlen p hp).2)
  have hk : st + u < s.last.length := by omega
  obtain ⟨k, hke⟩ : ∃ k, k = st + u := ⟨_, rfl⟩
  have hkr : k + (s.half - u) ≤ s.last.length := by omega
  rw [← hke]
  obtain ⟨rm, hrm⟩ : ∃ rm, rm = s.half - u := ⟨_, rfl⟩
  rw [← hrm] at hkr ⊢
  have hrmu : u + rm = s.half := by omega
  have hki : ∀ j : Nat, ((k + j : Nat) : Int) = 2 + area * (s.half : Int) + ((u : Int) + (j : Int)) := fun j => by
    rw [show ((k + j : Nat) : Int) = (st : Int) + ((u : Int) + (j : Int)) by omega, hsi]
  have hB := hb.at_ k
  obtain ⟨b, hbe⟩ : ∃ b, b = s.cur.getD k [] := ⟨_, rfl⟩
  have H := Lib.hid (And.intro h (And.intro hl (And.intro hb (And.intro hcl (And.intro hbe (And.intro hki hrmu))))))
  have hx0 := num4_bd hB 0
  have hL := lenAt_bd hB
  have hb4 := hB.at_ 4
  have hb5 := hB.at_ 5
  have hM : recR s.cur k rm least = (if stmM b < 1 ∨ stmM b < least ∨ 4096 < lenAt b ∨ rm < secsOf (lenAt b) then none
    else if stmsR s.cur k (stmM b) (secsOf (lenAt b)) then some (((bodyM s.cur k (secsOf (lenAt b))).drop 2).take (lenAt b), stmM b) else none) := by rw [hbe]; rfl
  obtain ⟨o, ho⟩ : ∃ o, o = recR s.cur k rm least := ⟨_, rfl⟩
  rw [← ho]
  rw [← ho] at hM
  clear ho
  rw [← hbe] at hB hx0 hL hb4 hb5
  have hxx : 0 ≤ stmM b ∧ stmM b < 2147483648 := by unfold stmM; split <;> omega
  have hor : b.getD 4 0 + 256 * b.getD 5 0 = ((lenAt b : Nat) : Int) := by unfold lenAt; omega
  obtain ⟨x, hxe⟩ : ∃ x, x = stmM b := ⟨_, rfl⟩
  obtain ⟨L, hLe⟩ : ∃ L, L = lenAt b := ⟨_, rfl⟩
  obtain ⟨x4, h4e⟩ : ∃ x4, x4 = b.getD 4 0 := ⟨_, rfl⟩
  obtain ⟨x5, h5e⟩ : ∃ x5, x5 = b.getD 5 0 := ⟨_, rfl⟩
  rw [← hxe] at hxx hM
  rw [← hLe] at hL hor hM
  rw [← h4e] at hb4 hor
  rw [← h5e] at hb5 hor
  obtain ⟨need, hne⟩ : ∃ need, need = secsOf L := ⟨_, rfl⟩
  rw [← hne] at hM
  have HM := Lib.hid hM
  have hneb : 1 ≤ need ∧ need ≤ 1172 ∧ 2 + L ≤ 56 * need := by rw [hne]; unfold secsOf; omega
  have HE := Lib.hid (And.intro hxe (And.intro h4e (And.intro h5e (And.intro hne hB))))
  have HB := Lib.hid hB
  obtain ⟨hf1, hhf⟩ : ∃ z : Nat, z = s.half := ⟨_, rfl⟩
  have HHF := Lib.hid hhf
  rw [← hhf] at hh hu
  have hrm2 : u + rm = hf1 := by rw [hhf]; exact hrmu
  have HK := Lib.hid (show ∀ w0, Below w.heap.size w w0 → Calls Try.prog 42 #[.pointer (some ⟨g, 0, none⟩)] w0 fun e w' => e = .returned (.int .i64 (hf1 : Nat)) ∧ w0 = w' from fun w0 hb0 => by rw [hhf]; exact refHalf_any (h.below hb0) h2)
  clear hM h hl hb hcl hbe hxe hLe h4e h5e hne hB hsi hst hx0 hki hrmu hhf hke hrm
  have hui : ¬ (hf1 : Int) ≤ (u : Int) := by omega
  go_enter Try.func55, Try.ntmps55
  go_wp2_with fail
  refine (HK.out _ (Below.refl _ _)).mono ?_
  rintro e w1 ⟨rfl, rfl⟩
  go_wp2_with fail
  refine (refSector_any H.out.1 H.out.2.1 h2 area u k ha (by omega) (by have := H.out.2.2.2.2.2.1 0; simpa using this) (by omega) b H.out.2.2.2.2.1).mono ?_
  rintro e w1 ⟨q1, c1', rfl, hr1, hc1, hm1, hq1, hl1⟩
  have H1 := Lib.hid (And.intro hr1 hl1)
  have hlog := H.out.2.1.below hl1
  clear c0 c1 c2 c3 c4
  obtain ⟨c0, c1, c2, c3, c4⟩ := hlog.c
  obtain ⟨ad, ea, e4⟩ := hr1.cellAt (k := 4) (by omega)
  obtain rfl := Option.some.inj ea
  obtain ⟨ad, ea5, e5⟩ := hr1.cellAt (k := 5) (by omega)
  obtain rfl := Option.some.inj ea5
  rw [addr_pos, ← HE.out.2.1] at e4
  rw [addr_pos, ← HE.out.2.2.1] at e5
  simp only [Nat.zero_add] at e4 e5
  clear hr1 hl1 hlog ea ea5
  go_wp2_with fail
  refine (refStamped_any _ c1' b w1 _ H1.out.1 HB.out).mono ?_
  rw [← HE.out.1]
  rintro e w2 ⟨rfl, p2, rfl⟩
  have q6 : IntKind.i64.wrap (256 * x5) = 256 * x5 := wri (by omega) (by omega)
  go_wp2_with fail
  go_quiet (fail)
  go_wp2_with fail
  refine (refPieces_any L (by omega) _).mono ?_
  rw [← HE.out.2.2.2.1]
  rintro e w3 ⟨rfl, rfl⟩
  obtain ⟨wq, hwq⟩ : ∃ wq, wq = w1.drewN (p2 + nq) := ⟨_, rfl⟩
  have hlq : Below w.heap.size w wq := by rw [hwq]; exact ⟨H1.out.2.os, H1.out.2.tape, H1.out.2.output, H1.out.2.size, H1.out.2.block⟩
  rw [← hwq]
  clear hwq c0 c1 c2 c3 c4 e4 e5
  have HQ := Lib.hid hlq
  obtain ⟨c0, c1, c2, c3, c4⟩ := (H.out.2.1.below hlq).c
  clear hlq
  by_cases g0 : x < 1
  · have ho : o = none := by rw [HM.out, if_pos (.inl g0)]
    subst ho
    go_wp2
    go_ret3
    exact ⟨HQ.out, rfl⟩
  by_cases g1 : x < least
  · have ho : o = none := by rw [HM.out, if_pos (.inr (.inl g1))]
    subst ho
    go_wp2
    go_ret3
    exact ⟨HQ.out, rfl⟩
  by_cases g2 : 4096 < L
  · have ho : o = none := by rw [HM.out, if_pos (.inr (.inr (.inl g2)))]
    subst ho
    have g2i : (4096 : Int) < (L : Int) := by omega
    go_wp2
    go_ret3
    exact ⟨HQ.out, rfl⟩
  have g2i : ¬ ((4096 : Int) < (L : Int)) := by omega
  have q7 : IntKind.i64.wrap ((u : Int) + (need : Int)) = (u : Int) + (need : Int) := wri (by omega) (by omega)
  go_wp2_with fail
  refine (HK.out _ HQ.out).mono ?_
  rintro e w4 ⟨rfl, rfl⟩
  by_cases g3 : rm < need
  · have ho : o = none := by rw [HM.out, if_pos (.inr (.inr (.inr g3)))]
    subst ho
    have g3i : (hf1 : Int) < (u : Int) + (need : Int) := by omega
    go_wp2
    go_ret3
    exact ⟨HQ.out, rfl⟩
  have g3i : ¬ ((hf1 : Int) < (u : Int) + (need : Int)) := by omega
  have HM2 := Lib.hid (HM.out.trans (if_neg (by omega)))
  have hneed : k + need ≤ s.last.length := by omega
  clear HM
  obtain ⟨i0, hi, hz0, hz1, hz2⟩ := info_parts Try.dkinfo5
  have HI := Lib.hid (And.intro hi (And.intro hz0 (And.intro hz1 hz2)))
  clear hi hz0 hz1 hz2
  go_wp2_with fail
  go_loopw [13, 14] (fun v i wr => RrecRel w s.cur k x need v i wr) (fun _ i _ => need - (intOf i).toNat)
  case atStart =>
    refine ⟨0, by omega, rfl, ?_, rfl, HQ.out.alloc HQ.out.size _⟩
    exact World.ownsRow_lit wq #[] 0 HQ.out.size (by simp [maxLen]) (by simp)
  case round =>
    obtain ⟨j, hj, rfl, hown, hst, hbel⟩ := hrel
    obtain ⟨A, c, rfl, hnc, hcm⟩ := own_shape hown
    have hdw := H.out.1.below hbel
    have hlw := H.out.2.1.below hbel
    clear c0 c1 c2 c3 c4
    obtain ⟨c0, c1, c2, c3, c4⟩ := hlw.c
    by_cases hjn : j < need
    · have hji : (j : Int) < (need : Int) := by omega
      have hbj := H.out.2.2.1.at_ (k + j)
      have hlj : (s.cur.getD (k + j) []).length = 64 := by
        rw [List.getD_eq_getElem?_getD, List.getElem?_eq_getElem (by rw [cur_len]; omega)]
        exact H.out.2.2.2.1 _ (List.getElem_mem _)
      obtain ⟨bj, hbje⟩ : ∃ bj, bj = s.cur.getD (k + j) [] := ⟨_, rfl⟩
      rw [← hbje] at hbj hlj
      have HW := Lib.hid (And.intro hown (And.intro hst (And.intro hbel (And.intro hdw (And.intro hbj (And.intro hlj (And.intro hbje hlw)))))))
      clear hown hst hbel hdw hlw hbj hlj hbje
      go_wp2_with fail
      refine (refSector_any HW.out.2.2.2.1 HW.out.2.2.2.2.2.2.2 h2 area ((u : Int) + (j : Int)) (k + j) ha (by omega) (H.out.2.2.2.2.2.1 j) (by omega) bj HW.out.2.2.2.2.2.2.1).mono ?_
      rintro e w4 ⟨q4, c4', rfl, hr4, hc4, hm4, hq4, hl4⟩
      have H4 := Lib.hid (And.intro hr4 hl4)
      clear hr4 hl4
      have hsx : 0 ≤ stmM bj ∧ stmM bj < 2147483648 := by have := num4_bd HW.out.2.2.2.2.1 0; unfold stmM; split <;> omega
      go_wp2_with fail
      refine (refStamped_any _ c4' bj w4 _ H4.out.1 HW.out.2.2.2.2.1).mono ?_
      rintro e w5 ⟨rfl, p5, rfl⟩
      obtain ⟨sj, hsj⟩ : ∃ sj, sj = stmM bj := ⟨_, rfl⟩
      rw [← hsj] at hsx ⊢
      have HSJ := Lib.hid hsj
      clear hsj
      have q9 : IntKind.i64.wrap (x + (j : Int)) = x + (j : Int) := wri (by omega) (by omega)
      have hne4 : ¬ c4' = 4 := by omega
      have hlt4 : ¬ c4' < 60 := by omega
      have hle4 : (60 : Int) ≤ (c4' : Int) := by omega
      have hle5 : 60 ≤ c4' := by omega
      by_cases hne : sj = x + (j : Int)
      · subst hne
        have hown4 := own_below HW.out.1 H4.out.2 (Nat.le_refl _)
        have hr46 : Rd w4 w4.heap.size (some ⟨q4, 4, none⟩) 56 (cells ((bj.drop 4).take 56)) := by
          have h1 := (H4.out.1.cutl (k := 4) (cap := c4') (by omega) (by omega)).cuth (k := 56) (by omega)
          rw [if_neg (by omega)] at h1
          rw [show ((cells bj).drop 4).take 56 = cells ((bj.drop 4).take 56) by simp [cells, List.map_take, List.map_drop]] at h1
          exact h1
        have hsz4 : w.heap.size ≤ w4.heap.size := Nat.le_trans HW.out.2.2.1.size H4.out.2.size
        go_wp2_with (at_builtin; refine wpList_append_rd _ rfl (.tmp 87) (.tmp 89) 38 rfl w.heap.size 5 i0 (.int .u8 0) 1 Try.underlying38 HI.out.1 HI.out.2.1 HI.out.2.2.1 HI.out.2.2.2 rfl _ _ _ rfl (by exact hown4) w4.heap.size (some ⟨q4, 4, none⟩) 56 (c4' - 4) _ rfl (by exact hr46) (cells_one _) ?e3 ?e4 ?e5 ?_)
        case e3 => unfold maxLen; omega
        case e4 => omega
        case e5 => exact hsz4
        intro v6 w6 ho6 hg6
        have HF : Hid (RrecRel w s.cur k x need v6 (.int .i64 ((j : Int) + 1)) w6) := Lib.hid ⟨j + 1, by omega, by go_num, by
          have e1 : 56 * j + 56 = 56 * (j + 1) := by omega
          have e2 : cells (bodyM s.cur k j) ++ cells ((bj.drop 4).take 56) = cells (bodyM s.cur k (j + 1)) := by rw [← cells_append, HW.out.2.2.2.2.2.2.1]; rfl
          rw [← e1, ← e2]; exact ho6, by simp only [stmsR]; rw [HW.out.2.1, Bool.true_and, ← HW.out.2.2.2.2.2.2.1, ← HSJ.out]; exact decide_eq_true rfl, by
          exact (bdr (HW.out.2.2.1.trans (H4.out.2.mono HW.out.2.2.1.size)) p5).trans (below_own (w := w4.drewN p5) hown4 hg6 hsz4)⟩
        clear ho6 hg6 hown4 hr46
        go_wp2
        go_roundw
        case rel => exact HF.out
        case measure => simp [intOf]; omega
      · have ho : o = none := by
          rw [HM2.out, if_neg]
          rw [stmsR_no (i := j) (by rw [← HW.out.2.2.2.2.2.2.1, ← HSJ.out]; exact hne) need hjn]
          simp
        subst ho
        go_wp2
        go_ret3
        exact ⟨bdr (HW.out.2.2.1.trans (H4.out.2.mono HW.out.2.2.1.size)) _, rfl⟩
    · obtain rfl : j = need := by omega
      obtain ⟨gb, cap, hv, hgb0, hgb⟩ := hown.form (by omega)
      obtain ⟨rfl, rfl⟩ : A = some ⟨gb, 0, none⟩ ∧ c = cap := by injection hv with h1 h2 h3; exact ⟨h1, h3⟩
      have ho : o = some (((bodyM s.cur k j).drop 2).take L, x) := by rw [HM2.out, if_pos hst]
      have hbl : (bodyM s.cur k j).length = 56 * j := bodyM_len H.out.2.2.2.1 j (by rw [cur_len]; omega)
      have hrl : (((bodyM s.cur k j).drop 2).take L).length = L := by rw [List.length_take, List.length_drop, hbl]; omega
      have hrr : Rd wr wr.heap.size (some ⟨gb, 2, none⟩) L (cells (((bodyM s.cur k j).drop 2).take L)) := by
        have h1 := ((Rd.own hown).cutl (k := 2) (cap := c) (by omega) hnc).cuth (k := L) (by omega)
        rw [if_neg (by omega)] at h1
        rw [show ((cells (bodyM s.cur k j)).drop 2).take L = cells (((bodyM s.cur k j).drop 2).take L) by simp [cells, List.map_take, List.map_drop]] at h1
        exact h1
      subst ho
      have HF := Lib.hid (And.intro hrr hbel)
      have HRL := Lib.hid hrl
      clear hrr hbel hown hst hdw hlw hrl hbl hv
      have hm : c ≤ 9223372036854775807 := hcm
      have q8 : IntKind.i64.wrap (2 + (L : Int)) = 2 + (L : Int) := wri (by omega) (by omega)
      go_wp2
      go_ret3
      have e2 : (((bodyM s.cur k j).drop 2).take L).length = 2 + L - 2 := by rw [HRL.out]; omega
      refine ⟨HF.out.2, some ⟨gb, 2, none⟩, c - 2, ?_, ?_, ?_, Nat.le_trans (Nat.sub_le _ _) hcm, fun ad e => by cases e; exact hgb0⟩
      · have e3 : secsOf (((bodyM s.cur k j).drop 2).take L).length = j := by rw [HRL.out]; exact HE.out.2.2.2.1.symm
        rw [e3, e2]
        rfl
      · rw [HRL.out]; exact HF.out.1
      · rw [HRL.out]; omega
end
end Go.Proofs.Ytehghjakggdnpaa
