/-
  The contract of Switch once more: the rows that it is told lie wherever they don't turn.
  The contract of CopyLists.
  Both logs, apart; what each call leaves of them.
  Format where other memory lies beside; Open, on both sides.
-/
import Derived.Test.YtehghjakggdnpaaWSw
import Derived.Test.YtehghjakggdnpaaWRecs
import Derived.Test.YtehghjakggdnpaaWQd
import Derived.Test.YtehghjakggdnpaaWSameL
import Derived.Test.YtehghjakggdnpaaWQe
namespace Go.Proofs.Ytehghjakggdnpaa
open Go.RowKit Go.Lib

set_option maxRecDepth 100000 in
set_option maxHeartbeats 3200000 in
theorem switch_any2 {w : World} {g l : Nat} {F : Nat → Prop} {s : DS} {gen area used next : Int} (h : DiskAt w g F s) (hl : LogAt w l g gen area used next) (hnf : ¬ F l) (h2 : 2 ≤ s.last.length) (ha : area = 0 ∨ area = 1) (hg : 0 ≤ gen ∧ gen < 4294967290) (hx : 0 ≤ next ∧ next < 4294967296)
    (A : Option Addr) (c : Nat) (xs : List Sl) (hR : ∀ w', Chg (FL F l) w w' → Rd w' w'.heap.size A xs.length (vals xs) ∧ SlsIn w' w'.heap.size xs) (hln : xs.length ≤ 100000) (few : s.wr.length + 40000 < 1000000) :
    Calls Try.prog 21 #[.pointer (some ⟨l, 0, none⟩), .slice A xs.length c] w (SwRet w g l F s gen area next xs) := by
  have hh := h.half_le
  have hlw := hl.lt
  have hle := h.ok.le
  obtain ⟨c0, c1, c2, c3, c4⟩ := hl.c
  have HR := Lib.hid (And.intro h (And.intro hl (And.intro (hR w (Chg.refl _ _)).1 (And.intro (hR w (Chg.refl _ _)).2 hR))))
  clear h hl hR
  go_enter Try.func21, Try.ntmps21
  go_wp2_with fail
  go_loopw [5, 15] (fun n i wr => NdRel xs w n i wr) (fun _ i _ => xs.length - (intOf i).toNat)
  case atStart => exact ⟨0, by omega, rfl, rfl, rfl, by simp, by simp [lists, totalM]⟩
  case round =>
    obtain ⟨k, hk, rfl, rfl, rfl, hall, hbd⟩ := hrel
    obtain ⟨need, hnd⟩ : ∃ need, need = totalM (lists (xs.take k)) := ⟨_, rfl⟩
    rw [← hnd] at hbd ⊢
    have HN := Lib.hid (And.intro hnd hall)
    clear hnd hall
    by_cases hlt : k < xs.length
    · obtain ⟨ad, v, rfl, _, hv, hc⟩ := HR.out.2.2.1.at_ hlt
      obtain ⟨x, hx⟩ : ∃ x, x = xs[k]'hlt := ⟨_, rfl⟩
      have hxv : v = .slice x.A x.n x.c := by
        simp only [vals, List.getElem?_map, List.getElem?_eq_getElem hlt, Option.map_some, Option.some.injEq] at hv
        rw [← hv, hx]; rfl
      subst hxv
      have hmem : x ∈ xs := by rw [hx]; exact List.getElem_mem _
      have hxl : x.l.length = x.n := by have := (HR.out.2.2.2.1 x hmem).1.len; rwa [cells_len] at this
      have htk := total_append (lists (xs.take k)) [x.l]
      rw [show lists (xs.take k) ++ [x.l] = lists (xs.take (k + 1)) by rw [lists_take_succ hlt, hx]] at htk
      have hk0 : (0 : Int) ≤ (k : Int) := Int.natCast_nonneg _
      have hk1 : (k : Int) < (xs.length : Int) := by omega
      have HT := Lib.hid (And.intro htk (And.intro hx (And.intro hmem hxl)))
      clear hv hx htk hmem hxl
      by_cases hbig : 4096 < x.n
      · have hbi : (4096 : Int) < (x.n : Int) := by omega
        go_wp2
        go_ret
        exact .inl ⟨⟨x, HT.out.2.2.1, hbig⟩, rfl, 0, rfl⟩
      · have hbi : ¬ (4096 : Int) < (x.n : Int) := by omega
        obtain ⟨m, hm⟩ : ∃ m, m = secsOf x.n := ⟨_, rfl⟩
        have hmb : m ≤ 74 := by rw [hm]; unfold secsOf; omega
        have HM := Lib.hid hm
        clear hm
        go_wp2_with fail
        refine (sectorsOf_any x.n (by omega) _).mono ?_
        rw [show (x.n + 57) / 56 = m from HM.out.symm]
        rintro e w1 ⟨rfl, rfl⟩
        have HF : Hid (NdRel xs w (.int .i64 ((need : Int) + (m : Int))) (.int .i64 ((k : Int) + 1)) w) := by
          have e1 : totalM (lists (xs.take (k + 1))) = need + m := by
            rw [HT.out.1, ← HN.out.1]
            simp only [totalM]
            rw [HT.out.2.2.2, ← HM.out]
            omega
          refine Lib.hid ⟨k + 1, by omega, by rw [e1]; congr 1, by congr 1, rfl, ?_, by rw [e1]; omega⟩
          intro y hy
          rw [List.take_succ_eq_append_getElem hlt] at hy
          rcases List.mem_append.1 hy with hy | hy
          · exact HN.out.2 y hy
          · rw [List.mem_singleton.1 hy, ← HT.out.2.1]; omega
        go_wp2
        go_roundw
        case rel => exact HF.out
        case measure => simp [intOf]; omega
    · have hkn : ¬ ((k : Int) < (xs.length : Int)) := by omega
      have hkl : k = xs.length := by omega
      have htk : xs.take k = xs := List.take_of_length_le (by omega)
      have hall : ∀ x ∈ xs, x.n ≤ 4096 := fun x hx => HN.out.2 x (by rw [htk]; exact hx)
      have hnd : need = totalM (lists xs) := by rw [HN.out.1, htk]
      have hne0 : need = 0 → xs = [] := fun e => by
        cases xs with
        | nil => rfl
        | cons y ys =>
          rw [hnd] at e
          simp only [lists, List.map_cons, totalM] at e
          unfold secsOf at e
          omega
      have HD := Lib.hid (And.intro hall (And.intro hnd (And.intro hne0 hkl)))
      have hnb : need ≤ 7400000 := by omega
      clear HN hall hnd hne0 htk hbd
      go_wp2_with fail
      refine (half_any HR.out.1 h2).mono ?_
      rw [show (s.last.length - 2) / 2 = s.half from rfl]
      rintro e w1 ⟨rfl, rfl⟩
      by_cases g1 : s.half < need
      · have g1i : (s.half : Int) < (need : Int) := by omega
        go_wp2
        go_ret
        exact .inr (.inl ⟨HD.out.1, by unfold swFull; rw [← HD.out.2.1]; exact .inl g1, rfl, 0, rfl⟩)
      have g1i : ¬ (s.half : Int) < (need : Int) := by omega
      go_wp2_with fail
      refine (hasStamps_any (hl := by exact HR.out.2.1) need (by omega) ⟨by omega, by omega⟩).mono ?_
      rintro e w2 ⟨rfl, rfl⟩
      cases hst : hasSt next need with
      | false =>
        go_wp2
        go_ret
        exact .inr (.inl ⟨HD.out.1, by unfold swFull; rw [← HD.out.2.1]; exact .inr (.inl hst), rfl, 0, rfl⟩)
      | true =>
        go_wp2_with fail
        refine (isLast_any (hl := by exact HR.out.2.1) ⟨by omega, by omega⟩).mono ?_
        rintro e w3 ⟨rfl, rfl⟩
        by_cases g3 : 2147483648 ≤ gen + 1
        · rw [decide_eq_true g3]
          go_wp2
          go_ret
          exact .inr (.inl ⟨HD.out.1, by unfold swFull; exact .inr (.inr g3), rfl, 0, rfl⟩)
        rw [decide_eq_false g3]
        obtain ⟨st, hst2⟩ : ∃ st : Nat, st = 2 + (1 - area).toNat * s.half := ⟨_, rfl⟩
        have hsi : 2 + (1 - area) * (s.half : Int) = (st : Int) := by
          rcases ha with rfl | rfl
          · simp at hst2 ⊢; omega
          · simp at hst2 ⊢; omega
        have hhl : 2 + 2 * s.half ≤ s.last.length := by unfold DS.half; omega
        have hstb : st + s.half ≤ s.last.length := by rcases ha with rfl | rfl <;> simp at hst2 <;> omega
        have hxn : need = 0 ∨ next + (need : Int) ≤ 2147483648 := by
          unfold hasSt at hst
          simp only [Bool.or_eq_true, decide_eq_true_eq] at hst
          omega
        have HS := Lib.hid (And.intro hst (And.intro hst2 (And.intro hsi hhl)))
        clear hst hst2 hsi hhl
        go_wp2_with fail
        go_region
        go_wp2_with fail
        obtain ⟨wd, hwd⟩ : ∃ wd, wd = w.drew := ⟨_, rfl⟩
        have h0 : SwSt w g l F s gen area used next wd := by
          rw [hwd]
          exact ⟨HR.out.1.drew.ext (fun k hk => .inl hk) (fun k hk => hk.elim (fun hf => HR.out.1.foot k hf) fun h => h.2), HR.out.2.1.drew, (Chg.refl _ _).drewN 1⟩
        rw [← hwd]
        have H0 := Lib.hid h0
        have hfoot : ∀ k, F k → k < w.heap.size := HR.out.1.foot
        clear hwd h0
        refine (start_any (h := by exact H0.out.1) (hl := by exact H0.out.2.1) h2 (1 - area) (by omega)).mono ?_
        rw [HS.out.2.2.1]
        rintro e w4 ⟨rfl, rfl⟩
        go_wp2_with fail
        go_loopw [10, 59] (fun sec i wr => PtRel w g l F s gen area used next st xs sec i wr) (fun _ i _ => xs.length - (intOf i).toNat)
        case atStart => exact ⟨0, by omega, by simp [lists, totalM], rfl, by simpa [lists, totalM, swWs] using H0.out⟩
        case round =>
          obtain ⟨j, hj, rfl, rfl, hst⟩ := hrel
          have hsl := (HR.out.2.2.2.2 _ hst.2.2).2
          have hrr := (HR.out.2.2.2.2 _ hst.2.2).1
          have hsz := hst.2.2.size
          have htl : totalM (lists (xs.take j)) ≤ need := by rw [HD.out.2.1, lists_take]; exact total_le_take _ _
          obtain ⟨tj, htj⟩ : ∃ tj, tj = totalM (lists (xs.take j)) := ⟨_, rfl⟩
          rw [← htj] at hst htl ⊢
          by_cases hlt : j < xs.length
          · obtain ⟨ad, v, rfl, _, hv, hc⟩ := hrr.at_ hlt
            obtain ⟨x, hx⟩ : ∃ x, x = xs[j]'hlt := ⟨_, rfl⟩
            have hxv : v = .slice x.A x.n x.c := by
              simp only [vals, List.getElem?_map, List.getElem?_eq_getElem hlt, Option.map_some, Option.some.injEq] at hv
              rw [← hv, hx]; rfl
            subst hxv
            have hmem : x ∈ xs := by rw [hx]; exact List.getElem_mem _
            have hxl : x.l.length = x.n := by have := (hsl x hmem).1.len; rwa [cells_len] at this
            have hxn := HD.out.1 x hmem
            have htk := total_append (lists (xs.take j)) [x.l]
            have hls : lists (xs.take (j + 1)) = lists (xs.take j) ++ [x.l] := by rw [lists_take_succ hlt, hx]
            rw [← hls, ← htj] at htk
            simp only [totalM, Nat.add_zero] at htk
            have htl2 : totalM (lists (xs.take (j + 1))) ≤ need := by rw [HD.out.2.1, lists_take]; exact total_le_take _ _
            obtain ⟨m, hm⟩ : ∃ m, m = secsOf x.n := ⟨_, rfl⟩
            have hpm : pcs (2 + x.n) = m := by rw [pcs_secs, hm]
            rw [hxl, ← hm] at htk
            rw [htk] at htl2
            have hmb : 1 ≤ m ∧ m ≤ 74 := by rw [hm]; unfold secsOf; omega
            have hk0 : (0 : Int) ≤ (j : Int) := Int.natCast_nonneg _
            have hk1 : (j : Int) < (xs.length : Int) := by omega
            have HX := Lib.hid (And.intro hst (And.intro (hsl x hmem).1 (And.intro hxl (And.intro hls (And.intro htk (And.intro hpm (And.intro hm htj)))))))
            have hnx : next + (need : Int) ≤ 2147483648 := by omega
            clear hst hsl hrr hv hx hmem hxl htk hls hm hpm htj
            go_wp2_with fail
            refine (put_at _ (st + tj) (by rfl) (h := by exact HX.out.1.1) (hl := by exact HX.out.1.2.1) (HX.out.1.nf hnf hlw) x.A x.n x.c x.l (by exact HX.out.2.1) hxn ⟨by omega, by omega⟩ (by rw [HX.out.2.2.2.2.2.1]; show st + tj + m ≤ s.last.length; omega) (by rw [List.length_append, swWs_len, ← HX.out.2.2.2.2.2.2.2]; omega)).mono ?_
            rw [HX.out.2.2.2.2.2.1]
            rintro e w5 ⟨rfl, hd5, hl5, hc5⟩
            have h5 := HX.out.1.step hfoot hd5 hl5 hc5
            have HF : Hid (PtRel w g l F s gen area used next st xs (.int .i64 ((st + tj + m : Nat) : Int)) (.int .i64 ((j : Int) + 1)) w5) := by
              refine Lib.hid ⟨j + 1, by omega, ?_, by congr 1, ?_⟩
              · rw [HX.out.2.2.2.2.1, Nat.add_assoc]
              · rw [HX.out.2.2.2.1, swWs_snoc, ← HX.out.2.2.2.2.2.2.2, HX.out.2.2.1, ← HX.out.2.2.2.2.2.2.1]
                rw [← HX.out.2.2.2.1, HX.out.2.2.2.2.1]
                rw [List.append_assoc] at h5
                rw [show next + ((tj + m : Nat) : Int) = next + (tj : Int) + (m : Int) by omega]
                exact h5
            clear h5 hd5 hl5 hc5
            go_wp2
            go_roundw
            case rel => exact HF.out
            case measure => simp [intOf]; omega
          · have hkn : ¬ ((j : Int) < (xs.length : Int)) := by omega
            have hxt : xs.take j = xs := List.take_of_length_le (by omega)
            rw [hxt] at hst htj
            rw [← HD.out.2.1] at htj
            obtain rfl : need = tj := htj.symm
            obtain ⟨d0, d1, d2, d3, d4⟩ := hst.2.1.c
            have HT := Lib.hid hst
            clear hst hsl hrr hxt
            go_wp2_with fail
            refine (flush_any HT.out.1).mono ?_
            rintro e w5 ⟨rfl, hd5, hc5⟩
            have h5 := HT.out.step hfoot hd5 (HT.out.2.1.chg hc5 (HT.out.nf hnf hlw)) (hc5.mono fun k _ hk => .inl hk)
            have H5 := Lib.hid h5
            clear h5 hd5 hc5 d0 d1 d2 d3 d4
            go_wp2_with fail
            refine (lead_any (h := by exact H5.out.1) (hl := by exact H5.out.2.1) (H5.out.nf hnf hlw) ⟨by omega, by omega⟩ (1 - area) next (by omega) ⟨by omega, by omega⟩ (by simp [DS.flush]) (by simp [DS.flush, lay_len]; omega)).mono ?_
            rintro e w6 ⟨rfl, hd6, hl6, hc6⟩
            have h6 := H5.out.step hfoot hd6 hl6 hc6
            obtain ⟨d0, d1, d2, d3, d4⟩ := h6.2.1.c
            have f3 := h6.2.1.frozen 3
            have HF : Hid (SwSt w g l F (swS s area gen next (lists xs)) (gen + 1) (1 - area) ((need : Nat) : Int) (next + ((need : Nat) : Int)) (w6.setCell ⟨l, 3, none⟩ (.int .i64 (need : Int)))) := by
              have sz : (w6.setCell ⟨l, 3, none⟩ (.int .i64 (need : Int))).heap.size = w6.heap.size := by simp [World.setCell]
              unfold swS
              rw [← HS.out.2.1]
              refine Lib.hid ⟨(h6.1.chg ((Chg.refl (fun k => k = l) w6).setCell (p := ⟨l, 3, none⟩) (fun _ => rfl) _) fun k hk e => h6.nf hnf hlw (e ▸ hk)).ext (fun k hk => ?_) (fun k hk => ?_), Blk.put h6.2.1 3 _, h6.2.2.setCell (p := ⟨l, 3, none⟩) (fun _ => .inr rfl) _⟩
              · rcases hk with h | h
                · exact .inl h
                · exact .inr ⟨h.1, by rw [sz]; exact h.2⟩
              · rcases hk with h | h
                · have h1 := hfoot k h
                  have h3 := h6.2.2.size
                  omega
                · exact h.2
            clear h6 hd6 hl6 hc6
            go_wp2
            go_ret
            refine .inr (.inr ⟨HD.out.1, ?_, rfl, ?_⟩)
            · unfold swFull
              rw [← HD.out.2.1, HS.out.1]
              rintro (h | h | h)
              · omega
              · cases h
              · omega
            · rw [← HD.out.2.1]
              exact HF.out
end Go.Proofs.Ytehghjakggdnpaa

namespace Go.Proofs.Ytehghjakggdnpaa
open Go.RowKit Go.Lib

def CopyRet (xs : List Sl) (w : World) (e : Ending) (w' : World) : Prop :=
  ∃ A c zs, e = .returned (.slice A xs.length c) ∧ zs.length = xs.length ∧ w'.ownsRow w.heap.size 38 1 (.slice A xs.length c) xs.length (vals zs) ∧ SlsIn w' w'.heap.size zs ∧ lists zs = lists xs ∧
    (∀ z ∈ zs, 0 < z.n → ∀ ad, z.A = some ad → w.heap.size ≤ ad.block) ∧ Below w.heap.size w w'
def CpRel (xs : List Sl) (w : World) (v i : Value) (wr : World) : Prop :=
  ∃ (zs : List Sl) (k : Nat) (A : Option Addr) (c : Nat), k ≤ xs.length ∧ zs.length = k ∧ i = .int .i64 k ∧ v = .slice A k c ∧
    wr.ownsRow w.heap.size 38 1 v k (vals zs) ∧ SlsIn wr wr.heap.size zs ∧ lists zs = lists (xs.take k) ∧ Far w.heap.size v.ownBlock zs ∧ Below w.heap.size w wr

set_option maxRecDepth 100000 in
set_option maxHeartbeats 3200000 in
theorem copyLists_any (A0 : Option Addr) (c0 : Nat) (xs : List Sl) (w : World) (hr : Rd w w.heap.size A0 xs.length (vals xs)) (hs : SlsIn w w.heap.size xs) (hb : ∀ x ∈ xs, x.n ≤ 20000) (hxl : xs.length ≤ 40000) :
    Calls Try.prog 20 #[.slice A0 xs.length c0] w (CopyRet xs w) := by
  obtain ⟨i0, hi, hz0, hz1, hz2⟩ := info_parts Try.info38
  have HI := Lib.hid (And.intro hi (And.intro hz0 (And.intro hz1 hz2)))
  have H := Lib.hid (And.intro hr (And.intro hs hb))
  clear hi hz0 hz1 hz2 hr hs hb
  go_enter Try.func20, Try.ntmps20
  go_wp2_with fail
  go_loopw [3, 4] (fun v i wr => CpRel xs w v i wr) (fun _ i _ => xs.length - (intOf i).toNat)
  case atStart =>
    exact ⟨[], 0, some ⟨w.heap.size, 0, none⟩, 0, by omega, rfl, rfl, rfl, World.ownsRow_lit w #[] 0 (Nat.le_refl _) (by simp [maxLen]) (by simp), fun x hx => by simp at hx, by simp [lists], fun x hx => by simp at hx, (Below.refl _ _).alloc (Nat.le_refl _) _⟩
  case round =>
    obtain ⟨zs, k, A, c, hk, hzl, rfl, rfl, hown, hsl, hls, hfar, hbel⟩ := hrel
    by_cases hlt : k < xs.length
    · obtain ⟨ad, v, rfl, _, hv, hc⟩ := (H.out.1.below hbel (Nat.le_refl _)).at_ hlt
      obtain ⟨x, hx⟩ : ∃ x, x = xs[k]'hlt := ⟨_, rfl⟩
      have hxv : v = .slice x.A x.n x.c := by
        simp only [vals, List.getElem?_map, List.getElem?_eq_getElem hlt, Option.map_some, Option.some.injEq] at hv
        rw [← hv, hx]; rfl
      subst hxv
      have hmem : x ∈ xs := by rw [hx]; exact List.getElem_mem _
      have hxn := H.out.2.2 x hmem
      have hrx := ((H.out.2.1 x hmem).1.below hbel (Nat.le_refl _)).more hbel.size
      have hlx : x.l.length = x.n := by have := hrx.len; rwa [cells_len] at this
      have hls2 : lists (xs.take (k + 1)) = lists (xs.take k) ++ [x.l] := by
        unfold lists; rw [List.take_succ_eq_append_getElem hlt, List.map_append, hx]; rfl
      have hk0 : (0 : Int) ≤ (k : Int) := Int.natCast_nonneg _
      have hk1 : (k : Int) < (xs.length : Int) := by omega
      have HW := Lib.hid (And.intro hown (And.intro hsl (And.intro hls (And.intro hfar (And.intro hbel (And.intro hrx (And.intro hlx (And.intro hls2 hzl))))))))
      have hsw : w.heap.size ≤ wr.heap.size := hbel.size
      clear hown hsl hls hfar hbel hrx hlx hls2 hzl hv hx
      go_wp2_with fail
      refine (dkcopyBytes_any x.A x.n x.c x.l wr HW.out.2.2.2.2.2.1 (by omega)).mono ?_
      rintro e w5 ho
      obtain ⟨v2, rfl, o5, hb5⟩ := ho
      obtain ⟨A2, c2, rfl, hsh1, hsh2⟩ := own_shape o5
      rw [HW.out.2.2.2.2.2.2.1] at o5 hsh1 ⊢
      have hsh : x.n ≤ c2 ∧ c2 ≤ maxLen := ⟨hsh1, hsh2⟩
      clear hsh1 hsh2
      have hown5 := own_below HW.out.1 hb5 (Nat.le_refl _)
      have hs5 : wr.heap.size ≤ w5.heap.size := hb5.size
      have HN := Lib.hid (And.intro o5 (And.intro hsh (And.intro hb5 hown5)))
      clear o5 hsh hb5 hown5
      go_wp2_with (at_builtin; refine wpList_append_lies _ rfl (.tmp 12) (.tmp 18) 39 rfl w.heap.size 38 i0 (.slice none 0 0) 1 24 Try.underlying39 HI.out.1 HI.out.2.1 HI.out.2.2.1 HI.out.2.2.2 rfl (by omega) _ _ _ rfl (by exact HN.out.2.2.2.alloc _) ⟨w5.heap.size, 0, none⟩ 1 1 [.slice A2 x.n c2] rfl rfl ?e2 (by simp [Value.oneCell']) (by omega) ?e3 ?e4 ?e5 (w5.heap.size + 1) (World.size_alloc _ _) ?_)
      case e2 =>
        intro j u hu
        rcases j with _ | j
        · obtain rfl := Option.some.inj hu
          exact (Blk.new w5 38 #[.slice A2 x.n c2]).cell 0
        · simp at hu
      case e3 => unfold maxLen; omega
      case e4 => omega
      case e5 => rw [World.size_alloc]; omega
      intro g3 cap3 w3 ho3 hg3 hat3 hlt3
      have hB3 : Below w.heap.size (w5.alloc (.cells #[.slice A2 x.n c2] 38)) w3 := below_own (HN.out.2.2.2.alloc _) hg3 (by rw [World.size_alloc]; omega)
      have hbw : Below w.heap.size w w3 := (((HW.out.2.2.2.2.1.trans (HN.out.2.2.1.mono hsw)).alloc (by omega) _).trans hB3)
      have hfr : 0 < x.n → ∀ ad, A2 = some ad → w.heap.size ≤ ad.block ∧ (Value.slice A k c).ownBlock ≠ some ad.block := fun h0 ad had => by
        subst had
        have h1 := HN.out.1.lt ad.block rfl
        refine ⟨by omega, fun e => ?_⟩
        have h3 := (HW.out.1.lt _ e).2
        omega
      have hcar : ∀ (A' : Option Addr) (n' : Nat) (ys : List Value), Rd w5 w5.heap.size A' n' ys → (0 < n' → ∀ ad, A' = some ad → (Value.slice A k c).ownBlock ≠ some ad.block) → Rd w3 w3.heap.size A' n' ys := fun A' n' ys h1 h2 => by
        have h3 := ((h1.alloc (Nat.le_refl _) (.cells #[.slice A2 x.n c2] 38)).grown (by rw [World.size_alloc]; omega) hg3 fun h0 ad had => h2 h0 ad had)
        exact h3.more (by have e1 := hg3.size; rw [World.size_alloc] at e1; omega)
      have HF : Hid (CpRel xs w (.slice (some ⟨g3, 0, none⟩) (k + 1) cap3) (.int .i64 ((k : Int) + 1)) w3) := by
        refine Lib.hid ⟨zs ++ [⟨A2, x.n, c2, x.l⟩], k + 1, some ⟨g3, 0, none⟩, cap3, by omega, by simp [HW.out.2.2.2.2.2.2.2.2], by congr 1, rfl, ?_, ?_, ?_, ?_, hbw⟩
        · rw [show vals (zs ++ [⟨A2, x.n, c2, x.l⟩]) = vals zs ++ [.slice A2 x.n c2] by simp [vals, Sl.val]]
          exact ho3
        · intro y hy
          rcases List.mem_append.1 hy with hy | hy
          · obtain ⟨h1, h2⟩ := HW.out.2.1 y hy
            exact ⟨hcar _ _ _ ((h1.below HN.out.2.2.1 (Nat.le_refl _)).more hs5) (fun h0 ad had => (HW.out.2.2.2.1 y hy h0 ad had).2), h2⟩
          · rw [List.mem_singleton.1 hy]
            exact ⟨hcar _ _ _ (Rd.own HN.out.1) (fun h0 ad had => (hfr h0 ad had).2), HN.out.2.1⟩
        · rw [HW.out.2.2.2.2.2.2.2.1]
          unfold lists
          rw [List.map_append]
          congr 1
          exact HW.out.2.2.1
        · intro y hy h0 ad had
          rcases List.mem_append.1 hy with hy | hy
          · have h1 := HW.out.2.2.2.1 y hy h0 ad had
            refine ⟨h1.1, ?_⟩
            obtain ⟨_, e, hlt, _⟩ := (HW.out.2.1 y hy).1.2 h0
            rw [had] at e
            obtain rfl := Option.some.inj e
            rcases hat3 with e | e
            · rw [e] at h1; exact h1.2
            · simp only [Value.ownBlock, ne_eq, Option.some.injEq]
              omega
          · have hx' := List.mem_singleton.1 hy
            subst hx'
            change A2 = some ad at had
            have h1 := hfr h0 ad had
            refine ⟨h1.1, ?_⟩
            have h2 := HN.out.1.lt ad.block (by rw [had]; rfl)
            rcases hat3 with e | e
            · rw [e] at h1; exact h1.2
            · simp only [Value.ownBlock, ne_eq, Option.some.injEq]
              omega
      clear hB3 hbw ho3 hg3 hat3 hcar hfr
      go_wp2
      go_roundw
      case rel => exact HF.out
      case measure => simp [intOf]; omega
    · obtain rfl : k = xs.length := by omega
      have HF := Lib.hid (show CopyRet xs w (.returned (.slice A xs.length c)) wr from ⟨A, c, zs, rfl, hzl, hown, hsl, by rw [hls, List.take_length], fun z hz h0 ad had => (hfar z hz h0 ad had).1, hbel⟩)
      clear hown hsl hls hfar hbel
      go_wp2
      go_ret
      exact HF.out
end Go.Proofs.Ytehghjakggdnpaa

namespace Go.Proofs.Ytehghjakggdnpaa
open Go.RowKit Go.Lib

/-- a log, as it is -/
structure LgS where
  s : DS
  gen : Int
  area : Int
  u : Nat
  nx : Int
/-- both logs, apart: the program's is p, the document's is q -/
structure W2 (w0 w : World) (g l gr lr : Nat) (F G : Nat → Prop) (p q : LgS) : Prop where
  d : DiskAt w g F p.s
  lg : LogAt w l g p.gen p.area p.u p.nx
  nf : ¬ F l
  r : RefAt w gr G q.s
  rl : RLogAt w lr gr q.gen q.area q.u q.nx
  ng : ¬ G lr
  dis : ∀ k, F k → ¬ G k
  fr : ¬ F lr
  gl : ¬ G l
  ne : l ≠ lr
  lof : ∀ k, F k → w0.heap.size ≤ k
  lor : ∀ k, G k → w0.heap.size ≤ k
  lol : w0.heap.size ≤ l
  lolr : w0.heap.size ≤ lr
  b : Below w0.heap.size w0 w
/-- blocks that are neither's -/
def Kept (w : World) (F G : Nat → Prop) (l lr : Nat) (K : Nat → Prop) : Prop := ∀ k, K k → k < w.heap.size ∧ ¬ F k ∧ ¬ G k ∧ k ≠ l ∧ k ≠ lr
section
variable {w0 w w' : World} {g l gr lr : Nat} {F G K : Nat → Prop} {p q p' q' : LgS}
theorem W2.below (h : W2 w0 w g l gr lr F G p q) (hb : Below w.heap.size w w') : W2 w0 w' g l gr lr F G p q :=
  { h with d := h.d.below hb, lg := h.lg.below hb, r := h.r.below hb, rl := h.rl.below hb, b := h.b.trans (hb.mono h.b.size) }
theorem W2.drew (h : W2 w0 w g l gr lr F G p q) : W2 w0 w.drew g l gr lr F G p q := h.below ⟨rfl, rfl, rfl, Nat.le_refl _, fun _ _ => rfl⟩
theorem W2.drewN (h : W2 w0 w g l gr lr F G p q) (n : Nat) : W2 w0 (w.drewN n) g l gr lr F G p q := h.below ⟨rfl, rfl, rfl, Nat.le_refl _, fun _ _ => rfl⟩
theorem W2.lofl (h : W2 w0 w g l gr lr F G p q) : ∀ k, FL F l k → w0.heap.size ≤ k := fun k hk => hk.elim (h.lof k) fun e => e ▸ h.lol
theorem W2.lorl (h : W2 w0 w g l gr lr F G p q) : ∀ k, FL G lr k → w0.heap.size ≤ k := fun k hk => hk.elim (h.lor k) fun e => e ▸ h.lolr
theorem W2.stepP (h : W2 w0 w g l gr lr F G p q) (hd : DiskAt w' g (Ext F w w') p'.s) (hl : LogAt w' l g p'.gen p'.area p'.u p'.nx) (hc : Chg (FL F l) w w') : W2 w0 w' g l gr lr (Ext F w w') G p' q :=
  { d := hd, lg := hl
    nf := fun hk => hk.elim h.nf fun hf => (by have := h.lg.lt; omega)
    r := h.r.chg hc fun k hg hf => hf.elim (fun hf => h.dis k hf hg) fun e => h.gl (e ▸ hg)
    rl := h.rl.chg hc fun hf => hf.elim h.fr fun e => h.ne e.symm
    ng := h.ng
    dis := fun k hk hg => hk.elim (fun hf => h.dis k hf hg) fun hf => (by have := h.r.foot k hg; omega)
    fr := fun hk => hk.elim h.fr fun hf => (by have := h.rl.lt; omega)
    gl := h.gl, ne := h.ne
    lof := fun k hk => hk.elim (h.lof k) fun hf => Nat.le_trans h.b.size hf.1
    lor := h.lor, lol := h.lol, lolr := h.lolr
    b := h.b.trans (hc.below h.lofl h.b.size) }
theorem W2.stepR (h : W2 w0 w g l gr lr F G p q) (hd : RefAt w' gr (Ext G w w') q'.s) (hl : RLogAt w' lr gr q'.gen q'.area q'.u q'.nx) (hc : Chg (FL G lr) w w') : W2 w0 w' g l gr lr F (Ext G w w') p q' :=
  { d := h.d.chg hc fun k hf hg => hg.elim (fun hg => h.dis k hf hg) fun e => h.fr (e ▸ hf)
    lg := h.lg.chg hc fun hg => hg.elim h.gl fun e => h.ne e
    nf := h.nf
    r := hd, rl := hl
    ng := fun hk => hk.elim h.ng fun hf => (by have := h.rl.lt; omega)
    dis := fun k hf hk => hk.elim (fun hg => h.dis k hf hg) fun hg => (by have := h.d.foot k hf; omega)
    fr := h.fr
    gl := fun hk => hk.elim h.gl fun hf => (by have := h.lg.lt; omega)
    ne := h.ne, lof := h.lof
    lor := fun k hk => hk.elim (h.lor k) fun hf => Nat.le_trans h.b.size hf.1
    lol := h.lol, lolr := h.lolr
    b := h.b.trans (hc.below h.lorl h.b.size) }
theorem Kept.stepP (h : Kept w F G l lr K) (hc : Chg (FL F l) w w') : Kept w' (Ext F w w') G l lr K ∧ ∀ k, K k → w'.heap[k]? = w.heap[k]? :=
  ⟨fun k hk => by
    obtain ⟨a, b, c, d, e⟩ := h k hk
    exact ⟨Nat.lt_of_lt_of_le a hc.size, fun hf => hf.elim b fun hf => (by omega), c, d, e⟩, fun k hk => by
    obtain ⟨a, b, c, d, e⟩ := h k hk
    exact hc.block k a fun hf => hf.elim b d⟩
theorem Kept.stepR (h : Kept w F G l lr K) (hc : Chg (FL G lr) w w') : Kept w' F (Ext G w w') l lr K ∧ ∀ k, K k → w'.heap[k]? = w.heap[k]? :=
  ⟨fun k hk => by
    obtain ⟨a, b, c, d, e⟩ := h k hk
    exact ⟨Nat.lt_of_lt_of_le a hc.size, b, fun hf => hf.elim c fun hf => (by omega), d, e⟩, fun k hk => by
    obtain ⟨a, b, c, d, e⟩ := h k hk
    exact hc.block k a fun hf => hf.elim c e⟩
theorem Kept.below (h : Kept w F G l lr K) (hb : Below w.heap.size w w') : Kept w' F G l lr K ∧ ∀ k, K k → w'.heap[k]? = w.heap[k]? :=
  ⟨fun k hk => ⟨Nat.lt_of_lt_of_le (h k hk).1 hb.size, (h k hk).2⟩, fun k hk => hb.block k (h k hk).1⟩
/-- blocks that were made just now -/
theorem W2.fresh (h : W2 w0 w g l gr lr F G p q) (hb : Below w.heap.size w w') (hK : ∀ k, K k → w.heap.size ≤ k ∧ k < w'.heap.size) : Kept w' F G l lr K := fun k hk => by
  have h1 := hK k hk
  exact ⟨h1.2, fun hf => (by have := h.d.foot k hf; omega), fun hf => (by have := h.r.foot k hf; omega), fun e => (by have := h.lg.lt; omega), fun e => (by have := h.rl.lt; omega)⟩

/-! ### Append -/
open Classical in
noncomputable def papp (p : LgS) (n : Nat) (r : List Int) : Int × LgS :=
  if 4096 < n then (41, p) else if isFull p.s p.u n p.nx then (36, p) else (0, ⟨appS p.s p.area p.u p.nx r, p.gen, p.area, p.u + secsOf n, p.nx + (secsOf n : Nat)⟩)
theorem append_q {x : Int} (h : W2 w0 w g l gr lr F G p q) (h2 : 2 ≤ p.s.last.length) (ha : p.area = 0 ∨ p.area = 1) (hu : p.u ≤ p.s.half) (hx : 0 ≤ p.nx ∧ p.nx ≤ 4294967296) (A : Option Addr) (n c : Nat) (r : List Int) (hr : Rd w w.heap.size A n (cells r)) (few : p.s.wr.length + 100 < 1000000) (hq : papp p n r = (x, p')) :
    Calls Try.prog 15 #[.pointer (some ⟨l, 0, none⟩), .slice A n c] w fun e w' => e = .returned (.int .i64 x) ∧ DiskAt w' g (Ext F w w') p'.s ∧ LogAt w' l g p'.gen p'.area p'.u p'.nx ∧ Chg (FL F l) w w' := by
  unfold papp at hq
  split at hq
  · obtain ⟨rfl, rfl⟩ := Prod.mk.inj hq
    exact (append_range A n c (by assumption)).mono fun e w' ⟨h1, h2⟩ => by subst h2; exact ⟨h1, h.d.ext (fun k hk => .inl hk) (fun k hk => hk.elim (h.d.foot k) fun h => h.2), h.lg, Chg.refl _ _⟩
  · split at hq
    · obtain ⟨rfl, rfl⟩ := Prod.mk.inj hq
      exact (append_full h.d h.lg h2 hu hx A n c (by omega) (by assumption)).mono fun e w' ⟨h1, m, h2⟩ => by
        subst h2; exact ⟨h1, (h.d.drewN m).ext (fun k hk => .inl hk) (fun k hk => hk.elim (h.d.foot k) fun h => h.2), h.lg.drewN m, (Chg.refl _ _).drewN m⟩
    · obtain ⟨rfl, rfl⟩ := Prod.mk.inj hq
      exact append_ok h.d h.lg h.nf h2 ha hu hx A n c r hr (by omega) (by assumption) few
theorem refAppend_q {x : Int} (h : W2 w0 w g l gr lr F G p q) (h2 : 2 ≤ q.s.last.length) (ha : q.area = 0 ∨ q.area = 1) (hu : q.u ≤ q.s.half) (hx : 0 ≤ q.nx ∧ q.nx ≤ 4294967296) (A : Option Addr) (n c : Nat) (r : List Int) (hr : Rd w w.heap.size A n (cells r)) (few : q.s.wr.length + 100 < 1000000) (hq : papp q n r = (x, q')) :
    Calls Try.prog 16 #[.pointer (some ⟨lr, 0, none⟩), .slice A n c] w fun e w' => e = .returned (.int .i64 x) ∧ RefAt w' gr (Ext G w w') q'.s ∧ RLogAt w' lr gr q'.gen q'.area q'.u q'.nx ∧ Chg (FL G lr) w w' := by
  unfold papp at hq
  split at hq
  · obtain ⟨rfl, rfl⟩ := Prod.mk.inj hq
    exact (refAppend_range A n c (by assumption)).mono fun e w' ⟨h1, h2⟩ => by subst h2; exact ⟨h1, h.r.same_ext, h.rl, Chg.refl _ _⟩
  · split at hq
    · obtain ⟨rfl, rfl⟩ := Prod.mk.inj hq
      exact (refAppend_full h.r h.rl h2 hu hx A n c (by omega) (by assumption)).mono fun e w' ⟨h1, m, h2⟩ => by
        subst h2; exact ⟨h1, (h.r.drewN m).ext (fun k hk => .inl hk) (fun k hk => hk.elim (h.r.foot k) fun h => h.2), h.rl.drewN m, (Chg.refl _ _).drewN m⟩
    · obtain ⟨rfl, rfl⟩ := Prod.mk.inj hq
      exact refAppend_ok h.r h.rl h.ng h2 ha hu hx A n c r hr (by omega) (by assumption) few
/-! ### Switch -/
open Classical in
noncomputable def pswi (p : LgS) (xs : List Sl) : Int × LgS :=
  if ∃ x ∈ xs, 4096 < x.n then (41, p) else if swFull p.s (totalM (lists xs)) p.gen p.nx then (36, p) else (0, ⟨swS p.s p.area p.gen p.nx (lists xs), p.gen + 1, 1 - p.area, totalM (lists xs), p.nx + (totalM (lists xs) : Nat)⟩)
theorem switch_q {x : Int} (h : W2 w0 w g l gr lr F G p q) (h2 : 2 ≤ p.s.last.length) (ha : p.area = 0 ∨ p.area = 1) (hg : 0 ≤ p.gen ∧ p.gen < 4294967280) (hx : 0 ≤ p.nx ∧ p.nx < 2147483648) (A : Option Addr) (c n : Nat) (xs : List Sl) (hn : n = xs.length)
    (hR : ∀ w', Chg (FL F l) w w' → Rd w' w'.heap.size A xs.length (vals xs) ∧ SlsIn w' w'.heap.size xs) (hln : xs.length ≤ 100000) (few : p.s.wr.length + 40000 < 1000000) (hq : pswi p xs = (x, p')) :
    Calls Try.prog 21 #[.pointer (some ⟨l, 0, none⟩), .slice A n c] w fun e w' => e = .returned (.int .i64 x) ∧ DiskAt w' g (Ext F w w') p'.s ∧ LogAt w' l g p'.gen p'.area p'.u p'.nx ∧ Chg (FL F l) w w' := by
  subst hn
  refine (switch_any2 h.d h.lg h.nf h2 ha ⟨hg.1, by omega⟩ ⟨hx.1, by omega⟩ A c xs hR hln few).mono ?_
  unfold pswi at hq
  rintro e w' (⟨h1, h2, m, h3⟩ | ⟨h1, h2, h3, m, h4⟩ | ⟨h1, h2, h3, h4, h5, h6⟩)
  · rw [if_pos h1] at hq
    obtain ⟨rfl, rfl⟩ := Prod.mk.inj hq
    subst h3
    exact ⟨h2, (h.d.drewN m).ext (fun k hk => .inl hk) (fun k hk => hk.elim (h.d.foot k) fun h => h.2), h.lg.drewN m, (Chg.refl _ _).drewN m⟩
  · rw [if_neg (fun ⟨y, hy, hl⟩ => by have := h1 y hy; omega), if_pos h2] at hq
    obtain ⟨rfl, rfl⟩ := Prod.mk.inj hq
    subst h4
    exact ⟨h3, (h.d.drewN m).ext (fun k hk => .inl hk) (fun k hk => hk.elim (h.d.foot k) fun h => h.2), h.lg.drewN m, (Chg.refl _ _).drewN m⟩
  · rw [if_neg (fun ⟨y, hy, hl⟩ => by have := h1 y hy; omega), if_neg h2] at hq
    obtain ⟨rfl, rfl⟩ := Prod.mk.inj hq
    exact ⟨h3, h4, h5, h6⟩
theorem refSwitch_q {x : Int} (h : W2 w0 w g l gr lr F G p q) (h2 : 2 ≤ q.s.last.length) (ha : q.area = 0 ∨ q.area = 1) (hg : 0 ≤ q.gen ∧ q.gen < 4294967280) (hx : 0 ≤ q.nx ∧ q.nx < 2147483648) (A : Option Addr) (c : Nat) (xs : List Sl)
    (hr : Rd w w0.heap.size A xs.length (vals xs)) (hs : SlsIn w w0.heap.size xs) (hln : xs.length ≤ 100000) (few : q.s.wr.length + 40000 < 1000000) (hq : pswi q xs = (x, q')) :
    Calls Try.prog 22 #[.pointer (some ⟨lr, 0, none⟩), .slice A xs.length c] w fun e w' => e = .returned (.int .i64 x) ∧ RefAt w' gr (Ext G w w') q'.s ∧ RLogAt w' lr gr q'.gen q'.area q'.u q'.nx ∧ Chg (FL G lr) w w' := by
  refine (refSwitch_any h.r h.rl h.ng h2 ha hg hx w0.heap.size A c xs hr hs h.b.size h.lorl hln few).mono ?_
  unfold pswi at hq
  rintro e w' (⟨h1, h2, m, h3⟩ | ⟨h1, h2, h3, m, h4⟩ | ⟨h1, h2, h3, h4⟩)
  · rw [if_pos h1] at hq
    obtain ⟨rfl, rfl⟩ := Prod.mk.inj hq
    subst h3
    exact ⟨h2, (h.r.drewN m).ext (fun k hk => .inl hk) (fun k hk => hk.elim (h.r.foot k) fun h => h.2), h.rl.drewN m, (Chg.refl _ _).drewN m⟩
  · rw [if_neg (fun ⟨y, hy, hl⟩ => by have := h1 y hy; omega), if_pos h2] at hq
    obtain ⟨rfl, rfl⟩ := Prod.mk.inj hq
    subst h4
    exact ⟨h3, (h.r.drewN m).ext (fun k hk => .inl hk) (fun k hk => hk.elim (h.r.foot k) fun h => h.2), h.rl.drewN m, (Chg.refl _ _).drewN m⟩
  · rw [if_neg (fun ⟨y, hy, hl⟩ => by have := h1 y hy; omega), if_neg h2] at hq
    obtain ⟨rfl, rfl⟩ := Prod.mk.inj hq
    exact ⟨h3, h4.1, h4.2.1, h4.2.2⟩
/-! ### the invariant -/
def LInv (i m : Nat) (p : LgS) : Prop := ∃ first, CInv i m p.s p.gen p.area p.u p.nx first
theorem LInv.up {i m : Nat} (h : LInv i m p) : LInv (i + 1) m p := h.imp fun _ h => h.up
theorem LInv.app {i m n : Nat} {r : List Int} {x : Int} (h : LInv i m p) (hi : i ≤ 100) (hr : IsBytes r) (hn : r.length = n) (hq : papp p n r = (x, p')) : LInv (i + 1) m p' := by
  obtain ⟨f, h⟩ := h
  subst hn
  unfold papp at hq
  split at hq
  · obtain ⟨rfl, rfl⟩ := Prod.mk.inj hq
    exact ⟨f, h.up⟩
  · split at hq
    · obtain ⟨rfl, rfl⟩ := Prod.mk.inj hq
      exact ⟨f, h.up⟩
    · obtain ⟨rfl, rfl⟩ := Prod.mk.inj hq
      exact ⟨f, h.app hi hr (by omega) (by assumption)⟩
theorem LInv.swi {i m : Nat} {xs : List Sl} {x : Int} (h : LInv i m p) (hi : i ≤ 100) (hb : ∀ y ∈ xs, IsBytes y.l) (hl : ∀ y ∈ xs, y.l.length = y.n) (hq : pswi p xs = (x, p')) : LInv (i + 1) m p' := by
  obtain ⟨f, h⟩ := h
  unfold pswi at hq
  split at hq
  · obtain ⟨rfl, rfl⟩ := Prod.mk.inj hq
    exact ⟨f, h.up⟩
  · rename_i hno
    split at hq
    · obtain ⟨rfl, rfl⟩ := Prod.mk.inj hq
      exact ⟨f, h.up⟩
    · obtain ⟨rfl, rfl⟩ := Prod.mk.inj hq
      refine ⟨p.nx, h.switch hi (fun r hr => ?_) (by assumption)⟩
      obtain ⟨y, hy, rfl⟩ := List.mem_map.1 hr
      refine ⟨hb y hy, ?_⟩
      rw [hl y hy]
      exact Nat.le_of_not_lt fun e => hno ⟨y, hy, e⟩
end
end Go.Proofs.Ytehghjakggdnpaa

namespace Go.Proofs.Ytehghjakggdnpaa
open Go.RowKit Go.Lib

def FormRet2 (g : Nat) (F : Nat → Prop) (s : DS) (gen next : Int) (w : World) (e : Ending) (w' : World) : Prop :=
  ∃ l F', e = .returned (.tuple #[.pointer (some ⟨l, 0, none⟩), .int .i64 0]) ∧ DiskAt w' g F' s ∧ LogAt w' l g gen 0 0 next ∧ ¬ F' l ∧ w.heap.size ≤ l ∧ (∀ k, F' k → F k ∨ w.heap.size ≤ k) ∧ Chg F w w'

set_option maxRecDepth 100000 in
set_option maxHeartbeats 1600000 in
theorem format_any2 {w : World} {g : Nat} {F : Nat → Prop} {s : DS} (h : DiskAt w g F s) (hb : AllBytes s.cur) (h10 : 10 ≤ s.last.length) (few : s.wr.length < 1000000)
    (gen next : Int) (hgen : gen = great4 s.cur 0 2) (hnext : next = great4 s.cur 2 (2 * s.half) + 1) (hg : gen + 1 < 2147483648) (hx : next < 2147483648) :
    Calls Try.prog 12 #[.pointer (some ⟨g, 0, none⟩)] w (FormRet2 g F (s.write ((gen + 1) % 2).toNat (headB (gen + 1) 0 next)).flush (gen + 1) next w) := by
  have hle := h.ok.le
  have hgb := great4_bd hb 0 2
  have hxb := great4_bd hb 2 (2 * s.half)
  rw [← hgen] at hgb
  have hxb2 : 1 ≤ next := by omega
  have H := Lib.hid (And.intro h (And.intro hb (And.intro hgen hnext)))
  have h10i : (10 : Int) ≤ (s.last.length : Int) := by omega
  clear h hb hgen hnext hxb
  go_enter Try.func12, Try.ntmps12
  go_wp2_with fail
  refine (size_any H.out.1).mono ?_
  rintro e w' ⟨rfl, rfl⟩
  go_wp2_with fail
  refine (greatest_at H.out.1 H.out.2.1 0 2 0 2 rfl rfl (by omega) (by omega) gen H.out.2.2.1.symm).mono ?_
  rintro e w1 ⟨rfl, hl1⟩
  have HL1 := Lib.hid hl1
  clear hl1
  go_wp2_with fail
  refine (nextStamp_w next H.out.2.2.2 (H.out.1.below HL1.out) H.out.2.1 (by omega)).mono ?_
  rintro e w2 ⟨rfl, hl2⟩
  have HL2 := Lib.hid (HL1.out.trans (hl2.mono HL1.out.size))
  clear hl2
  go_wp2_with fail
  obtain ⟨w3, hw3⟩ : ∃ w3, w3 = w2.alloc (.cells #[.pointer (some ⟨g, 0, none⟩), .int .i64 gen, .int .i64 0, .int .i64 0, .int .i64 next] 71) := ⟨_, rfl⟩
  have hlg3 : LogAt w3 w2.heap.size g gen 0 0 next := by rw [hw3]; exact Blk.new _ _ _
  have hl3 : Below w.heap.size w w3 := by rw [hw3]; exact HL2.out.alloc HL2.out.size _
  have sz3 : w3.heap.size = w2.heap.size + 1 := by rw [hw3]; exact World.size_alloc _ _
  rw [← hw3]
  clear hw3
  obtain ⟨c0, c1, c2, c3, c4⟩ := hlg3.c
  have hnf : ¬ F w2.heap.size := fun e => by
    have h1 := H.out.1.foot _ e
    have h2 := HL2.out.size
    omega
  have H3 := Lib.hid (And.intro hlg3 (And.intro (H.out.1.below hl3) (And.intro hl3 sz3)))
  clear hlg3 hl3 sz3
  refine (isLast_any H3.out.1 ⟨by omega, by omega⟩).mono ?_
  rw [decide_eq_false (by omega)]
  rintro e w3' ⟨rfl, rfl⟩
  go_wp2_with fail
  refine (lead_any H3.out.2.1 H3.out.1 hnf ⟨by omega, by omega⟩ 0 next (by omega) ⟨by omega, by omega⟩ few (by omega)).mono ?_
  rintro e w4 ⟨rfl, hd4, hlg4, hc4⟩
  have h2 := HL2.out.size
  have H4 := Lib.hid (show FormRet2 g F (s.write ((gen + 1) % 2).toNat (headB (gen + 1) 0 next)).flush (gen + 1) next w (.returned (.tuple #[.pointer (some ⟨w2.heap.size, 0, none⟩), .int .i64 0])) w4 from by
    have s3 := H3.out.2.2.2
    refine ⟨w2.heap.size, Ext F w3 w4, rfl, hd4, hlg4, ?_, h2, ?_, ?_⟩
    · rintro (h | h)
      · exact hnf h
      · omega
    · rintro k (h | h)
      · exact .inl h
      · exact .inr (by omega)
    · refine (Chg.of_below H3.out.2.2.1).trans' hc4 ?_
      rintro k hk (h | h)
      · exact h
      · omega)
  clear hd4 hlg4 hc4
  go_wp2
  go_ret2
  exact H4.out
theorem format_new2 {w : World} {g : Nat} {F : Nat → Prop} {m : Nat} (h : DiskAt w g F (newS m)) (h10 : 10 ≤ m) :
    Calls Try.prog 12 #[.pointer (some ⟨g, 0, none⟩)] w (FormRet2 g F (fmtS m) 1 1 w) := by
  have hl : (newS m).last.length = m := secs_len [] m
  have hz := newS_nil (m := m)
  exact format_any2 h (newS_bytes m) (by rw [hl]; exact h10) (by show 0 < 1000000; omega) 0 1 (great4_zero hz 0 2).symm (by rw [great4_zero hz]; rfl) (by omega) (by omega)
set_option maxRecDepth 100000 in
theorem format_small {w : World} {g : Nat} {F : Nat → Prop} {s : DS} (h : DiskAt w g F s) (h10 : s.last.length < 10) :
    Calls Try.prog 12 #[.pointer (some ⟨g, 0, none⟩)] w fun e w' => e = .returned (.tuple #[.pointer none, .int .i64 41]) ∧ w = w' := by
  have hle := h.ok.le
  have h10i : (s.last.length : Int) < 10 := by omega
  have H := Lib.hid h
  clear h
  go_enter Try.func12, Try.ntmps12
  go_wp2_with fail
  refine (size_any H.out).mono ?_
  rintro e w' ⟨rfl, rfl⟩
  go_wp2
  go_ret2
  exact ⟨rfl, rfl⟩
/-- both logs behind their Formats -/
theorem W2.made {w0 w2 w3 w4 : World} {g gr l lr : Nat} {F G F' G' : Nat → Prop} {s : DS} {gen nx : Int} (hb : Below w0.heap.size w0 w2) (hd : DiskAt w2 g F s) (hr : RefAt w2 gr G s) (hdis : ∀ k, F k → ¬ G k) (lo : ∀ k, F k → w0.heap.size ≤ k) (lor : ∀ k, G k → w0.heap.size ≤ k)
    {s' : DS} (h1 : DiskAt w3 g F' s') (h2 : LogAt w3 l g gen 0 0 nx) (h3 : ¬ F' l) (h4 : w2.heap.size ≤ l) (h5 : ∀ k, F' k → F k ∨ w2.heap.size ≤ k) (h6 : Chg F w2 w3)
    (k1 : RefAt w4 gr G' s') (k2 : RLogAt w4 lr gr gen 0 0 nx) (k3 : ¬ G' lr) (k4 : w3.heap.size ≤ lr) (k5 : ∀ k, G' k → G k ∨ w3.heap.size ≤ k) (k6 : Chg G w3 w4) : W2 w0 w4 g l gr lr F' G' ⟨s', gen, 0, 0, nx⟩ ⟨s', gen, 0, 0, nx⟩ := by
  have e1 := hb.size
  have e2 := h6.size
  have e3 := k6.size
  have fg : ∀ k, F' k → ¬ G k := fun k hf hg => (h5 k hf).elim (fun hf => hdis k hf hg) fun hf => by have := hr.foot k hg; omega
  refine { d := h1.chg k6 fg, lg := h2.chg k6 (fun hg => by have := hr.foot l hg; omega), nf := h3, r := k1, rl := k2, ng := k3, dis := ?_, fr := ?_, gl := ?_, ne := ?_, lof := ?_, lor := ?_, lol := by omega, lolr := by omega, b := ?_ }
  · intro k hf hg
    rcases k5 k hg with hg | hg
    · exact fg k hf hg
    · have := h1.foot k hf; omega
  · intro hf
    have := h1.foot _ hf; omega
  · intro hg
    rcases k5 _ hg with hg | hg
    · have := hr.foot _ hg; omega
    · have := h2.lt; omega
  · have := h2.lt; omega
  · intro k hf
    rcases h5 k hf with hf | hf
    · exact lo k hf
    · omega
  · intro k hg
    rcases k5 k hg with hg | hg
    · exact lor k hg
    · omega
  · exact (hb.trans (h6.below lo e1)).trans (k6.below lor (by omega))

section
variable {w0 w w' : World} {g l gr lr : Nat} {F G K : Nat → Prop} {p q p' q' : LgS}
theorem W2.openP {l' : Nat} (h : W2 w0 w g l gr lr F G p q) (hb : Below w.heap.size w w') (hl : LogAt w' l' g p'.gen p'.area p'.u p'.nx) (hs : p'.s = p.s) (hlo : w.heap.size ≤ l') : W2 w0 w' g l' gr lr F G p' q :=
  { h.below hb with
    d := by rw [hs]; exact h.d.below hb
    lg := hl
    nf := fun hf => (by have := h.d.foot _ hf; omega)
    gl := fun hf => (by have := h.r.foot _ hf; omega)
    ne := (by have := h.rl.lt; omega)
    lol := Nat.le_trans h.b.size hlo }
theorem W2.openR {l' : Nat} (h : W2 w0 w g l gr lr F G p q) (hb : Below w.heap.size w w') (hl : RLogAt w' l' gr q'.gen q'.area q'.u q'.nx) (hs : q'.s = q.s) (hlo : w.heap.size ≤ l') : W2 w0 w' g l gr l' F G p q' :=
  { h.below hb with
    r := by rw [hs]; exact h.r.below hb
    rl := hl
    ng := fun hf => (by have := h.r.foot _ hf; omega)
    fr := fun hf => (by have := h.d.foot _ hf; omega)
    ne := (by have := h.lg.lt; omega)
    lolr := Nat.le_trans h.b.size hlo }
/-- what is opened behind a crash -/
def opn (p : LgS) (keep torn first : Int) : LgS :=
  ⟨p.s.crash keep torn, p.gen, p.area, (recsM (p.s.crash keep torn).cur ((p.s.crash keep torn).half + 1) (2 + p.area.toNat * (p.s.crash keep torn).half) (p.s.crash keep torn).half first).2, nextM (p.s.crash keep torn) first⟩
def opnR (p : LgS) (keep torn first : Int) : List (List Int) := (recsM (p.s.crash keep torn).cur ((p.s.crash keep torn).half + 1) (2 + p.area.toNat * (p.s.crash keep torn).half) (p.s.crash keep torn).half first).1
theorem recs_all {C : List (List Int)} (hC : ∀ b ∈ C, b.length = 64) (hb : AllBytes C) : ∀ (fuel k room : Nat) (least : Int), k + room ≤ C.length → (recsM C fuel k room least).1.length ≤ (recsM C fuel k room least).2 ∧ ∀ r ∈ (recsM C fuel k room least).1, r.length ≤ 4096 := by
  intro fuel
  induction fuel with
  | zero => intro k room least _; simp [recsM]
  | succ f ih =>
    intro k room least hk
    unfold recsM
    split
    · simp
    · cases hn : nextRec C k room least with
      | none => simp
      | some x =>
        obtain ⟨r, first⟩ := x
        obtain ⟨q1, q2, _⟩ := nextRec_some hC hb hk hn
        obtain ⟨i1, i2⟩ := ih (k + secsOf r.length) (room - secsOf r.length) (first + secsOf r.length) (by omega)
        have hs : 1 ≤ secsOf r.length := by unfold secsOf; omega
        refine ⟨by simp only [List.length_cons]; omega, fun y hy => ?_⟩
        rcases List.mem_cons.1 hy with rfl | hy
        · exact q1
        · exact i2 y hy
theorem LInv.crash {i m : Nat} (h : LInv i m p) (hi : i ≤ 100) (ok : p.s.Ok) (keep torn : Int) (okc : (p.s.crash keep torn).Ok) :
    ∃ first, LInv (i + 1) m (opn p keep torn first) ∧ AllBytes (p.s.crash keep torn).cur ∧ 10 ≤ (p.s.crash keep torn).last.length ∧ headOfM (p.s.crash keep torn).cur = some (p.gen, p.area, first) ∧ (p.area = 0 ∨ p.area = 1) ∧ (1 ≤ p.gen ∧ p.gen < 4294967296) ∧ (1 ≤ first ∧ first < 4294967296) ∧ (opnR p keep torn first).length ≤ 200 ∧ ∀ r ∈ opnR p keep torn first, r.length ≤ 4096 := by
  obtain ⟨f, h⟩ := h
  obtain ⟨c0, c1, c2⟩ := h.crash ok keep torn (u' := 0) (by omega)
  have hcur : (p.s.crash keep torn).cur = (p.s.crash keep torn).last := by unfold DS.cur; rw [c1]; rfl
  have hg := h.ge
  have hf := h.fst
  have hm := h.m10
  have ha := h.ar
  have hhl := h.half_le
  have h64 : ∀ b ∈ (p.s.crash keep torn).cur, b.length = 64 := lay_all okc.len fun q hq => (okc.wlen q hq).2
  have hle : 2 + p.area.toNat * (p.s.crash keep torn).half + (p.s.crash keep torn).half ≤ (p.s.crash keep torn).cur.length := by
    rw [cur_len, c0.len]
    have h9 := c0.half
    rcases ha with e | e <;> rw [e] <;> simp <;> omega
  have r1 := recs_le h64 c0.isC ((p.s.crash keep torn).half + 1) (2 + p.area.toNat * (p.s.crash keep torn).half) (p.s.crash keep torn).half f hle
  have r2 := recs_all h64 c0.isC ((p.s.crash keep torn).half + 1) (2 + p.area.toNat * (p.s.crash keep torn).half) (p.s.crash keep torn).half f hle
  refine ⟨f, ⟨f, (h.crash ok keep torn (by rw [← c2]; exact r1)).1.up⟩, c0.isC, by rw [c0.len]; exact hm, ?_, ha, by omega, by omega, ?_, r2.2⟩
  · exact c0.heads hi (fun k hk => by rw [hcur])
  · show (recsM _ _ _ _ _).1.length ≤ 200
    have h7 := r2.1
    have h8 : (p.s.crash keep torn).half ≤ 99 := by rw [c2]; exact hhl
    omega
end
end Go.Proofs.Ytehghjakggdnpaa
