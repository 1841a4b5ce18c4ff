/-
  WalAgain returns true for all rows of records and all crashes behind them: behind crashes a log goes on: what is appended and flushed then stands behind what it had, though torn records stand there; what is handed in is left as it was.
  No condition but the reach of the statement's form (a slice that is read takes fewer than 2^47 bytes).
-/
import Derived.Test.YtehghjakggdnpaaWWeigh
import Derived.Test.YtehghjakggdnpaaWAgainL
import Derived.Deep.CutRange
import Derived.Test.YtehghjakggdnpaaRows
namespace Go.Proofs.Ytehghjakggdnpaa
open Go.RowKit Go.Lib

theorem total_take {R : List (List Int)} (k : Nat) : totalM (R.take k) ≤ totalM R := by
  have h := total_append (R.take k) (R.drop k)
  rw [List.take_append_drop] at h
  omega
theorem total_weigh : ∀ {xs : List Sl}, (∀ x ∈ xs, x.l.length = x.n) → 56 * totalM (lists xs) ≤ weighM xs + 56 * xs.length := by
  intro xs
  induction xs with
  | nil => intro _; simp [lists, totalM]
  | cons x xs ih =>
    intro h
    have h1 := ih fun y hy => h y (by simp [hy])
    have h2 := h x (by simp)
    simp only [lists, List.map_cons, totalM, weighM, List.length_cons] at h1 ⊢
    rw [h2]
    unfold secsOf
    omega
theorem lists_length (a : List Sl) : (lists a).length = a.length := by simp [lists]
theorem total_mem {W : List (List Int)} {r : List Int} (h : r ∈ W) : secsOf r.length ≤ totalM W := by
  obtain ⟨a, b, rfl⟩ := List.append_of_mem h
  rw [total_append]
  simp only [totalM]
  omega
theorem ASt.cast {w wr : World} {g l B B' : Nat} {W : List (List Int)} {v : Value} {ws : List Sl} (h : ASt w wr g l B W v ws) (e : B = B') : ASt w wr g l B' W v ws := e ▸ h
theorem and_one : ∀ k : Nat, k < 41 → bits .and .i64 (k : Int) 1 = ((k % 2 : Nat) : Int) := by decide
/-- what holds between two rounds -/
def AgRel (w : World) (g : Nat) (xs : List Sl) (lv v i : Value) (wr : World) : Prop :=
  ∃ (k l N c : Nat) (A : Option Addr) (ws : List Sl), k ≤ xs.length ∧ i = .int .i64 k ∧ lv = .pointer (some ⟨l, 0, none⟩) ∧ v = .slice A N c ∧ N = ws.length ∧ ASt w wr g l (totalM (lists (xs.take k))) (lists ws) v ws
theorem AgRel.drewN {w wr : World} {g : Nat} {xs : List Sl} {lv v i : Value} (h : AgRel w g xs lv v i wr) (d : Nat) : AgRel w g xs lv v i (wr.drewN d) := by
  obtain ⟨k, l, N, c, A, ws, a1, a2, a3, a4, a5, F, s, b1, b2, b3, b4⟩ := h
  exact ⟨k, l, N, c, A, ws, a1, a2, a3, a4, a5, F, s, b1, b2.drewN d, b3, b4⟩
theorem ASt.b {w wr : World} {g l B : Nat} {W : List (List Int)} {v : Value} {ws : List Sl} (h : ASt w wr g l B W v ws) : Below w.heap.size w wr := by obtain ⟨F, s, _, h, _⟩ := h; exact h.b
theorem ASt.own {w wr : World} {g l B : Nat} {W : List (List Int)} {v : Value} {ws : List Sl} (h : ASt w wr g l B W v ws) : wr.ownsRow w.heap.size 38 1 v ws.length (vals ws) := by obtain ⟨F, s, _, _, _, h⟩ := h; exact h.1
theorem ASt.sls {w wr : World} {g l B : Nat} {W : List (List Int)} {v : Value} {ws : List Sl} (h : ASt w wr g l B W v ws) : SlsIn wr wr.heap.size ws := by obtain ⟨F, s, _, _, _, h⟩ := h; exact h.sls
theorem ASt.few {w wr : World} {g l B : Nat} {W : List (List Int)} {v : Value} {ws : List Sl} (h : ASt w wr g l B W v ws) : totalM W ≤ B := by obtain ⟨F, s, _, _, h, _⟩ := h; exact h.few
theorem AMid.b {w wr : World} {g l B : Nat} {W : List (List Int)} {r : List Int} {fl : Bool} {v : Value} {ws : List Sl} (h : AMid w wr g l B W r fl v ws) : Below w.heap.size w wr := by obtain ⟨F, s, u, x, _, h, _⟩ := h; exact h.b
theorem len_total (W : List (List Int)) : W.length ≤ totalM W := by
  induction W with
  | nil => simp
  | cons r W ih => simp only [List.length_cons, totalM]; unfold secsOf; omega

set_option maxRecDepth 100000 in
set_option maxHeartbeats 25600000 in
theorem walAgain_walk (A : Option Addr) (len c : Nat) (xs : List Sl) (A' : Option Addr) (len' c' : Nat) (ks : List Int) (w : World) (hr : Rd w w.heap.size A len (vals xs)) (hs : SlsIn w w.heap.size xs) (hy : ∀ x ∈ xs, IsBytes x.l) (he : xs.length = len) (_hl : len ≤ c) (_hm : c ≤ maxLen) (hb : ∀ x ∈ xs, x.n ≤ 140737488355328)
    (hr' : Rd w w.heap.size A' len' (ks.map (Value.int .i64))) (_hw' : ∀ z ∈ ks, (Lit.int .i64 z).wf = true) (he' : ks.length = len') (_hl' : len' ≤ c') (_hm' : c' ≤ maxLen) :
    Calls Try.prog 5 #[.slice A len c, .slice A' len' c'] w (YesB w) := by
  subst he
  subst he'
  have HX := Lib.hid (And.intro hr (And.intro hs hb))
  have HY := Lib.hid hr'
  have HB := Lib.hid hy
  clear hr hs hb hr' hy
  go_enter Try.func5, Try.ntmps5
  go_wp2_with fail
  refine (alive_any w).mono ?_
  rintro e w1 ⟨rfl, h1⟩
  have HA := Lib.hid h1
  clear h1
  have hr1 : Rd w1 w1.heap.size A xs.length (vals xs) := (HX.out.1.below HA.out (Nat.le_refl _)).more HA.out.size
  have hs1 : SlsIn w1 w1.heap.size xs := (HX.out.2.1.below HA.out (Nat.le_refl _)).more HA.out.size
  have HW := Lib.hid (And.intro hr1 hs1)
  clear hr1 hs1
  go_wp2_with fail
  refine (weigh_any A c xs 3000 (by omega) w1 HW.out.1 HW.out.2 HX.out.2.2).mono ?_
  rintro e w1' ⟨rfl, q, rfl, hq⟩
  by_cases g1 : 3000 < q
  · have g1i : (3000 : Int) < (q : Int) := by omega
    clear hq
    go_wp2
    go_ret
    exact ⟨rfl, HA.out⟩
  have g1i : ¬ ((3000 : Int) < (q : Int)) := by omega
  have hwx := hq (by omega)
  by_cases g2 : 40 < xs.length
  · have g2i : (40 : Int) < (xs.length : Int) := by omega
    clear hq hwx
    go_wp2
    go_ret
    exact ⟨rfl, HA.out⟩
  have g2i : ¬ ((40 : Int) < (xs.length : Int)) := by omega
  by_cases g3 : 80 < ks.length
  · have g3i : (80 : Int) < (ks.length : Int) := by omega
    clear hq hwx
    go_wp2
    go_ret
    exact ⟨rfl, HA.out⟩
  have g3i : ¬ ((80 : Int) < (ks.length : Int)) := by omega
  have hlx : ∀ x ∈ xs, x.l.length = x.n := fun x hx => by have h1 := (HX.out.2.1 x hx).1.len; rwa [cells_len] at h1
  have HT := Lib.hid (And.intro (show totalM (lists xs) ≤ 100 by have := total_weigh hlx; omega) (And.intro hlx (show ∀ x ∈ xs, x.n ≤ 3000 from fun x hx => by
    obtain ⟨a, b, e⟩ := List.append_of_mem hx
    rw [e, weighM_append] at hwx
    simp only [weighM] at hwx
    omega)))
  clear hq hwx hlx
  go_wp2_with fail
  refine (dknew_any w1 400 (by omega) (by omega)).mono ?_
  rintro e w2 ⟨g, rfl, hd, hb2⟩
  have lo2 : ∀ k, Ext Non w1 w2 k → w.heap.size ≤ k := fun k hk => hk.elim (fun h => h.elim) fun h => by have := HA.out.size; omega
  have H2 := Lib.hid (And.intro (show DiskAt w2 g (Ext Non w1 w2) (newS 400) from hd) (And.intro lo2 (HA.out.trans (hb2.mono HA.out.size))))
  clear hd hb2 lo2
  go_wp2_with fail
  refine (format_new H2.out.1 H2.out.2.1 H2.out.2.2 (by omega)).mono ?_
  rintro e w3 ⟨l0, F3, rfl, h3⟩
  have H3 := Lib.hid h3
  clear h3
  go_wp2_with fail
  have hg0 : gr (fmtS 400).last + 1 = 1 := by
    have h1 := fmt_inv.big
    have h2 : 0 ≤ gr (fmtS 400).last := (great4_bd fmt_inv.is 2 398).1
    omega
  have HK := Lib.hid (show AgRel w g xs (.pointer (some ⟨l0, 0, none⟩)) (.slice (some ⟨w3.heap.size, 0, none⟩) 0 0) (.int .i64 0) (w3.alloc (.cells #[] 38)) from
    ⟨0, l0, 0, 0, _, [], by omega, rfl, rfl, rfl, rfl, F3, fmtS 400, rfl, by rw [hg0]; exact H3.out.alloc _, fmt_inv, World.ownsRow_lit w3 #[] 0 H3.out.b.size (by simp [maxLen]) (by simp), fun b hb hf => by
      obtain rfl : w3.heap.size = b := by simpa [Value.ownBlock] using hb
      exact absurd (H3.out.d.foot _ hf) (by omega), fun x hx => by simp at hx⟩)
  clear hg0
  go_loopw [7, 8, 9] (fun lv v i wr => AgRel w g xs lv v i wr) (fun _ _ i _ => xs.length - (intOf i).toNat)
  case atStart => exact HK.out
  case round =>
    obtain ⟨k, l, N, c1, A1, ws, hk, rfl, rfl, rfl, hN, hst⟩ := hrel
    by_cases hlt : k < xs.length
    · obtain ⟨ad, v, rfl, hadb, hv, hcw⟩ := HX.out.1.at_ hlt
      obtain ⟨x, hx⟩ : ∃ x, x = xs[k]'hlt := ⟨_, rfl⟩
      have hxm : x ∈ xs := by rw [hx]; exact List.getElem_mem _
      obtain rfl := vals_at hlt hv
      rw [← hx] at hcw
      have hc := (hst.b.cell (p := ad.add k) (by rw [addr_block]; exact hadb)).trans hcw
      have hrx := ((HX.out.2.1 x hxm).1.below hst.b (Nat.le_refl _)).more hst.b.size
      obtain ⟨Bd, hBd⟩ : ∃ Bd, Bd = totalM (lists (xs.take k)) := ⟨_, rfl⟩
      have hxl := HT.out.2.1 x hxm
      have hnext : totalM (lists (xs.take (k + 1))) = Bd + secsOf x.n := by
        rw [List.take_succ_eq_append_getElem hlt, ← hx, hBd]
        simp only [lists, List.map_append, List.map_cons, List.map_nil]
        rw [total_append]
        simp only [totalM]
        rw [hxl]; omega
      have hBb : Bd + secsOf x.n ≤ 100 := by
        have h1 : totalM (lists (xs.take (k + 1))) ≤ totalM (lists xs) := by
          have e : lists (xs.take (k + 1)) = (lists xs).take (k + 1) := by simp [lists, List.map_take]
          rw [e]; exact total_take _
        have := HT.out.1
        omega
      rw [← hBd] at hst
      have hN5 : N ≤ 100 := by
        have h1 := hst.few
        have h2 := len_total (lists ws)
        rw [lists_length] at h2
        omega
      have hk0 : (0 : Int) ≤ (k : Int) := Int.natCast_nonneg _
      have hk1 : (k : Int) < (xs.length : Int) := by omega
      have HL := Lib.hid (And.intro hst (And.intro hrx (And.intro hN (And.intro hnext (And.intro hBb (And.intro hxm (And.intro hadb (And.intro hcw hxl))))))))
      have hand := and_one k (by omega)
      clear hst hrx hN hnext hBb hxm hx hv hadb hcw hBd hxl
      go_wp2_with fail
      refine (ast_append HL.out.1 x.A x.n x.c x.l HL.out.2.1 (by have := HT.out.2.2 x HL.out.2.2.2.2.2.1; omega) (by have := HL.out.2.2.2.2.1; omega)).mono ?_
      rintro e w6 ⟨rfl, h6⟩
      have H6 := Lib.hid h6
      clear h6 hc
      by_cases hev : k % 2 = 0
      · rw [hev] at hand
        have hand2 : bits .and .i64 (k : Int) 1 = 0 := hand
        clear hand
        go_wp2_with fail
        refine (ast_flush H6.out).mono ?_
        rintro e w7 ⟨rfl, h7⟩
        have H7 := Lib.hid h7
        clear h7
        go_upto_if 77 with fail
        go_cut [10] from 46 to 150 (fun kk wx => (∃ z, kk = .int .i64 z) ∧ wx = w7)
        case first =>
          by_cases hkl : k < ks.length
          · obtain ⟨ad2, u2, rfl, had2, hu2, hcu⟩ := HY.out.at_ hkl
            obtain ⟨kk, rfl⟩ : ∃ kk, u2 = .int .i64 kk := by
              rw [List.getElem?_map, List.getElem?_eq_getElem hkl] at hu2
              exact ⟨_, (Option.some.inj hu2).symm⟩
            have hc2 := (H7.out.b.cell (p := ad2.add k) (by rw [addr_block]; exact had2)).trans hcu
            have hk2 : (k : Int) < (ks.length : Int) := by omega
            clear hcu hu2 had2
            go_wp2_with fail
            go_meet
            case rel => exact ⟨⟨kk, rfl⟩, rfl⟩
          · have hk2 : ¬ ((k : Int) < (ks.length : Int)) := by omega
            go_wp2_with fail
            go_meet
            case rel => exact ⟨⟨0, rfl⟩, rfl⟩
        case rest =>
          obtain ⟨⟨z, rfl⟩, rfl⟩ := hcut
          go_wp2_with fail
          refine (ast_crash H7.out ⟨HB.out x HL.out.2.2.2.2.2.1, by have := HT.out.2.2 x HL.out.2.2.2.2.2.1; have := HL.out.2.2.2.2.2.2.2.2; omega⟩ (by rw [HL.out.2.2.2.2.2.2.2.2]; have := HL.out.2.2.2.2.1; omega) _ _).mono ?_
          rintro e w8 ⟨rfl, h8 | ⟨hf, _⟩⟩
          rotate_left
          · cases hf
          have H8 := Lib.hid h8
          clear h8
          go_wp2_with fail
          refine (ast_open H8.out).mono ?_
          rintro e w9 ⟨l2, A2, c2, rs, rfl, hls, hst9, hown9, hsl9, hbel9⟩
          have hrl : rs.length = N + 1 := by
            have h1 := congrArg List.length hls
            simp only [lists, List.length_map, List.length_append, List.length_singleton] at h1
            have := HL.out.2.2.1
            omega
          have hrs1 := Rd.of_own hst9.own
          have hcap : N ≤ c2 := by
            rcases hst9.own.2 with ⟨e1, h1⟩ | ⟨g3, cap, cur, e1, _, _, h1, _⟩
            · omega
            · simp only [Value.slice.injEq] at e1
              omega
          have hsm : ∀ y ∈ rs, y.n ≤ 10000 := fun y hy => by
            have h1 := (hst9.sls y hy).1.len
            rw [cells_len] at h1
            have h2 : y.l ∈ lists rs := List.mem_map.2 ⟨y, hy, rfl⟩
            rw [hls] at h2
            have h3 := total_mem h2
            have h4 := hst9.few
            have h5 := HL.out.2.2.2.2.1
            rw [HL.out.2.2.2.2.2.2.2.2] at h4
            unfold secsOf at h3 h4 h5
            omega
          have hcall : ∀ d, Calls Try.prog 23 #[.slice A2 N c2, .slice A1 N c1] (w9.drewN d) (fun e w' => e = .returned (.bool true) ∧ ∃ m, w' = w9.drewN m) := fun d => by
            have h1 : Rd w9 w9.heap.size A2 N (vals (rs.take N)) := by
              have h1 := hrs1.cuth (k := N) (by omega)
              rwa [show (vals rs).take N = vals (rs.take N) by simp [vals, List.map_take]] at h1
            have h2 : Rd w9 w9.heap.size A1 N (vals ws) := by
              have h2 := Rd.of_own (A := A1) (c := c1) (n := ws.length) (by rw [← HL.out.2.2.1] at hown9 ⊢; exact hown9)
              rwa [← HL.out.2.2.1] at h2
            have hN0 := HL.out.2.2.1
            have h100 : ∀ y ∈ rs.take N, y.n ≤ 140000000000000 := fun y hy => by
              have h3 := ((hst9.sls y (List.mem_of_mem_take hy)).2.1)
              have h4 := ((hst9.sls y (List.mem_of_mem_take hy)).2.2)
              have h5 := hsm y (List.mem_of_mem_take hy)
              omega
            refine (sameLists_yes A2 A1 N c2 c1 (rs.take N) ws (w9.drewN d) _ _ _ _ (by rw [show lists (rs.take N) = (lists rs).take N by simp [lists, List.map_take], hls, HL.out.2.2.1, List.take_left' (lists_length ws)]) (by rw [List.length_take]; omega) (h1.drewN d) (h2.drewN d) (fun y hy => ⟨((hst9.sls y (List.mem_of_mem_take hy)).1).drewN d, (hst9.sls y (List.mem_of_mem_take hy)).2⟩) (fun y hy => ⟨((hsl9 y hy).1).drewN d, (hsl9 y hy).2⟩) h100 (by omega)).mono ?_
            rintro e w' ⟨rfl, m, rfl⟩
            exact ⟨rfl, _, World.drewN_drewN _ _ _⟩
          obtain ⟨y, hye⟩ : ∃ y, rs[N]? = some y := ⟨_, List.getElem?_eq_getElem (by omega)⟩
          have hym : y ∈ rs := List.mem_of_getElem? hye
          have hyl : y.l = x.l := by
            have h1 : (lists rs)[N]? = some y.l := by unfold lists; rw [List.getElem?_map, hye]; rfl
            rw [hls, HL.out.2.2.1, List.getElem?_append_right (by rw [lists_length]; omega), lists_length, Nat.sub_self] at h1
            exact (Option.some.inj h1).symm
          have hyr := (hst9.sls y hym).1
          have hyn : y.n = x.n := by
            have h1 := hyr.len
            rw [cells_len, hyl, HL.out.2.2.2.2.2.2.2.2] at h1
            exact h1.symm
          rw [hyn, hyl] at hyr
          obtain ⟨adr, ur, rfl, _, hur, hcr⟩ := hrs1.at_ (k := N) (by omega)
          have hur2 : ur = .slice y.A x.n y.c := by
            unfold vals at hur
            rw [List.getElem?_map, hye] at hur
            rw [← hyn]
            exact (Option.some.inj hur).symm
          subst hur2
          have hc9 := (hbel9.cell (p := ad.add k) (by rw [addr_block]; exact HL.out.2.2.2.2.2.2.1)).trans HL.out.2.2.2.2.2.2.2.1
          have hxr9 := ((HX.out.2.1 x HL.out.2.2.2.2.2.1).1.below hbel9 (Nat.le_refl _))
          have hcall2 : ∀ d, Calls Try.prog 17 #[.slice y.A x.n y.c, .slice x.A x.n x.c] (w9.drewN d) (fun e w' => e = .returned (.bool true) ∧ ∃ m, w' = w9.drewN m) := fun d => by
            refine (dksameBytes_yes y.A x.A x.n y.c x.c x.l _ _ _ (hyr.drewN d) (hxr9.drewN d) (by have := HT.out.2.2 x HL.out.2.2.2.2.2.1; omega)).mono ?_
            rintro e w' ⟨rfl, m, rfl⟩
            exact ⟨rfl, _, World.drewN_drewN _ _ _⟩
          have HQ := Lib.hid (And.intro hcall hcall2)
          have HE := Lib.hid (show AgRel w g xs (.pointer (some ⟨l2, 0, none⟩)) (.slice (some adr) (N + 1) c2) (.int .i64 ((k : Int) + 1)) w9 from ⟨k + 1, l2, N + 1, c2, _, rs, by omega, by go_num, rfl, rfl, hrl.symm, by rw [HL.out.2.2.2.1, hls, ← hrl]; rw [hrl] at hst9 ⊢; exact hst9.cast (by rw [HL.out.2.2.2.2.2.2.2.2])⟩)
          rw [hrl]
          clear hcall hcall2 hst9 hown9 hsl9 hbel9 hrs1 hls hyr hxr9 hur hye hym hyl hyn hrl hsm
          have hNN : ¬ ((N : Int) + 1 < (N : Int)) := by omega
          have f1 : ¬ (((N + 1 : Nat) : Int) < (N : Int)) := by omega
          have f2 : ¬ ((N : Int) + 1 < ((N + 1 : Nat) : Int)) := by omega
          have f3 : (((N + 1 : Nat) : Int) == (N : Int) + 1) = true := by simp
          have f6 : (((N + 1 : Nat) : Int) != (N : Int) + 1) = false := by simp
          have hwr : IntKind.i64.wrap ((N : Int) + 1) = (N : Int) + 1 := by rw [show (N : Int) + 1 = ((N + 1 : Nat) : Int) by omega]; exact wrap_i64_small (by omega)
          have hd1 : decide ((N : Int) + 1 < (N : Int)) = false := decide_eq_false hNN
          have hd2 : decide (IntKind.i64.wrap ((N : Int) + 1) < (N : Int) + 1) = false := by rw [hwr]; simp
          have hd3 : ((N : Int) + 1 == IntKind.i64.wrap ((N : Int) + 1)) = true := by rw [hwr]; simp
          have hd4 : ((N : Int) + 1 != IntKind.i64.wrap ((N : Int) + 1)) = false := by rw [hwr]; simp
          have hd5 : decide ((N : Int) + 1 = IntKind.i64.wrap ((N : Int) + 1)) = true := by rw [hwr]; simp
          have hNi : (0 : Int) ≤ (N : Int) := Int.natCast_nonneg _
          go_wp2_with fail
          go_quiet (first | (go_at_call 23; exact HQ.out.1 _) | (go_at_call 17; exact HQ.out.2 _))
          go_wp2
          go_roundw
          case rel => exact HE.out.drewN _
          case measure => simp [intOf]; omega
      · have hod : k % 2 = 1 := by omega
        rw [hod] at hand
        have hand2 : bits .and .i64 (k : Int) 1 = 1 := hand
        clear hand
        have H7 := H6
        go_upto_if 77 with fail
        go_cut [10] from 46 to 150 (fun kk wx => (∃ z, kk = .int .i64 z) ∧ wx = w6)
        case first =>
          by_cases hkl : k < ks.length
          · obtain ⟨ad2, u2, rfl, had2, hu2, hcu⟩ := HY.out.at_ hkl
            obtain ⟨kk, rfl⟩ : ∃ kk, u2 = .int .i64 kk := by
              rw [List.getElem?_map, List.getElem?_eq_getElem hkl] at hu2
              exact ⟨_, (Option.some.inj hu2).symm⟩
            have hc2 := (H7.out.b.cell (p := ad2.add k) (by rw [addr_block]; exact had2)).trans hcu
            have hk2 : (k : Int) < (ks.length : Int) := by omega
            clear hcu hu2 had2
            go_wp2_with fail
            go_meet
            case rel => exact ⟨⟨kk, rfl⟩, rfl⟩
          · have hk2 : ¬ ((k : Int) < (ks.length : Int)) := by omega
            go_wp2_with fail
            go_meet
            case rel => exact ⟨⟨0, rfl⟩, rfl⟩
        case rest =>
          obtain ⟨⟨z, rfl⟩, rfl⟩ := hcut
          go_wp2_with fail
          refine (ast_crash H7.out ⟨HB.out x HL.out.2.2.2.2.2.1, by have := HT.out.2.2 x HL.out.2.2.2.2.2.1; have := HL.out.2.2.2.2.2.2.2.2; omega⟩ (by rw [HL.out.2.2.2.2.2.2.2.2]; have := HL.out.2.2.2.2.1; omega) _ _).mono ?_
          rintro e w8 ⟨rfl, h8 | ⟨_, h8⟩⟩
          · have H8 := Lib.hid h8
            clear h8
            go_wp2_with fail
            refine (ast_open H8.out).mono ?_
            rintro e w9 ⟨l2, A2, c2, rs, rfl, hls, hst9, hown9, hsl9, hbel9⟩
            have hrl : rs.length = N + 1 := by
              have h1 := congrArg List.length hls
              simp only [lists, List.length_map, List.length_append, List.length_singleton] at h1
              have := HL.out.2.2.1
              omega
            have hrs1 := Rd.of_own hst9.own
            have hcap : N ≤ c2 := by
              rcases hst9.own.2 with ⟨e1, h1⟩ | ⟨g3, cap, cur, e1, _, _, h1, _⟩
              · omega
              · simp only [Value.slice.injEq] at e1
                omega
            have hsm : ∀ y ∈ rs, y.n ≤ 10000 := fun y hy => by
              have h1 := (hst9.sls y hy).1.len
              rw [cells_len] at h1
              have h2 : y.l ∈ lists rs := List.mem_map.2 ⟨y, hy, rfl⟩
              rw [hls] at h2
              have h3 := total_mem h2
              have h4 := hst9.few
              have h5 := HL.out.2.2.2.2.1
              rw [HL.out.2.2.2.2.2.2.2.2] at h4
              unfold secsOf at h3 h4 h5
              omega
            have hcall : ∀ d, Calls Try.prog 23 #[.slice A2 N c2, .slice A1 N c1] (w9.drewN d) (fun e w' => e = .returned (.bool true) ∧ ∃ m, w' = w9.drewN m) := fun d => by
              have h1 : Rd w9 w9.heap.size A2 N (vals (rs.take N)) := by
                have h1 := hrs1.cuth (k := N) (by omega)
                rwa [show (vals rs).take N = vals (rs.take N) by simp [vals, List.map_take]] at h1
              have h2 : Rd w9 w9.heap.size A1 N (vals ws) := by
                have h2 := Rd.of_own (A := A1) (c := c1) (n := ws.length) (by rw [← HL.out.2.2.1] at hown9 ⊢; exact hown9)
                rwa [← HL.out.2.2.1] at h2
              have hN0 := HL.out.2.2.1
              have h100 : ∀ y ∈ rs.take N, y.n ≤ 140000000000000 := fun y hy => by
                have h3 := ((hst9.sls y (List.mem_of_mem_take hy)).2.1)
                have h4 := ((hst9.sls y (List.mem_of_mem_take hy)).2.2)
                have h5 := hsm y (List.mem_of_mem_take hy)
                omega
              refine (sameLists_yes A2 A1 N c2 c1 (rs.take N) ws (w9.drewN d) _ _ _ _ (by rw [show lists (rs.take N) = (lists rs).take N by simp [lists, List.map_take], hls, HL.out.2.2.1, List.take_left' (lists_length ws)]) (by rw [List.length_take]; omega) (h1.drewN d) (h2.drewN d) (fun y hy => ⟨((hst9.sls y (List.mem_of_mem_take hy)).1).drewN d, (hst9.sls y (List.mem_of_mem_take hy)).2⟩) (fun y hy => ⟨((hsl9 y hy).1).drewN d, (hsl9 y hy).2⟩) h100 (by omega)).mono ?_
              rintro e w' ⟨rfl, m, rfl⟩
              exact ⟨rfl, _, World.drewN_drewN _ _ _⟩
            obtain ⟨y, hye⟩ : ∃ y, rs[N]? = some y := ⟨_, List.getElem?_eq_getElem (by omega)⟩
            have hym : y ∈ rs := List.mem_of_getElem? hye
            have hyl : y.l = x.l := by
              have h1 : (lists rs)[N]? = some y.l := by unfold lists; rw [List.getElem?_map, hye]; rfl
              rw [hls, HL.out.2.2.1, List.getElem?_append_right (by rw [lists_length]; omega), lists_length, Nat.sub_self] at h1
              exact (Option.some.inj h1).symm
            have hyr := (hst9.sls y hym).1
            have hyn : y.n = x.n := by
              have h1 := hyr.len
              rw [cells_len, hyl, HL.out.2.2.2.2.2.2.2.2] at h1
              exact h1.symm
            rw [hyn, hyl] at hyr
            obtain ⟨adr, ur, rfl, _, hur, hcr⟩ := hrs1.at_ (k := N) (by omega)
            have hur2 : ur = .slice y.A x.n y.c := by
              unfold vals at hur
              rw [List.getElem?_map, hye] at hur
              rw [← hyn]
              exact (Option.some.inj hur).symm
            subst hur2
            have hc9 := (hbel9.cell (p := ad.add k) (by rw [addr_block]; exact HL.out.2.2.2.2.2.2.1)).trans HL.out.2.2.2.2.2.2.2.1
            have hxr9 := ((HX.out.2.1 x HL.out.2.2.2.2.2.1).1.below hbel9 (Nat.le_refl _))
            have hcall2 : ∀ d, Calls Try.prog 17 #[.slice y.A x.n y.c, .slice x.A x.n x.c] (w9.drewN d) (fun e w' => e = .returned (.bool true) ∧ ∃ m, w' = w9.drewN m) := fun d => by
              refine (dksameBytes_yes y.A x.A x.n y.c x.c x.l _ _ _ (hyr.drewN d) (hxr9.drewN d) (by have := HT.out.2.2 x HL.out.2.2.2.2.2.1; omega)).mono ?_
              rintro e w' ⟨rfl, m, rfl⟩
              exact ⟨rfl, _, World.drewN_drewN _ _ _⟩
            have HQ := Lib.hid (And.intro hcall hcall2)
            have HE := Lib.hid (show AgRel w g xs (.pointer (some ⟨l2, 0, none⟩)) (.slice (some adr) (N + 1) c2) (.int .i64 ((k : Int) + 1)) w9 from ⟨k + 1, l2, N + 1, c2, _, rs, by omega, by go_num, rfl, rfl, hrl.symm, by rw [HL.out.2.2.2.1, hls, ← hrl]; rw [hrl] at hst9 ⊢; exact hst9.cast (by rw [HL.out.2.2.2.2.2.2.2.2])⟩)
            rw [hrl]
            clear hcall hcall2 hst9 hown9 hsl9 hbel9 hrs1 hls hyr hxr9 hur hye hym hyl hyn hrl hsm
            have hNN : ¬ ((N : Int) + 1 < (N : Int)) := by omega
            have f1 : ¬ (((N + 1 : Nat) : Int) < (N : Int)) := by omega
            have f2 : ¬ ((N : Int) + 1 < ((N + 1 : Nat) : Int)) := by omega
            have f3 : (((N + 1 : Nat) : Int) == (N : Int) + 1) = true := by simp
            have f6 : (((N + 1 : Nat) : Int) != (N : Int) + 1) = false := by simp
            have hwr : IntKind.i64.wrap ((N : Int) + 1) = (N : Int) + 1 := by rw [show (N : Int) + 1 = ((N + 1 : Nat) : Int) by omega]; exact wrap_i64_small (by omega)
            have hd1 : decide ((N : Int) + 1 < (N : Int)) = false := decide_eq_false hNN
            have hd2 : decide (IntKind.i64.wrap ((N : Int) + 1) < (N : Int) + 1) = false := by rw [hwr]; simp
            have hd3 : ((N : Int) + 1 == IntKind.i64.wrap ((N : Int) + 1)) = true := by rw [hwr]; simp
            have hd4 : ((N : Int) + 1 != IntKind.i64.wrap ((N : Int) + 1)) = false := by rw [hwr]; simp
            have hd5 : decide ((N : Int) + 1 = IntKind.i64.wrap ((N : Int) + 1)) = true := by rw [hwr]; simp
            have hNi : (0 : Int) ≤ (N : Int) := Int.natCast_nonneg _
            go_wp2_with fail
            go_quiet (first | (go_at_call 23; exact HQ.out.1 _) | (go_at_call 17; exact HQ.out.2 _))
            go_wp2
            go_roundw
            case rel => exact HE.out.drewN _
            case measure => simp [intOf]; omega
          · have H8 := Lib.hid h8
            clear h8
            go_wp2_with fail
            refine (ast_open H8.out).mono ?_
            rintro e w9 ⟨l2, A2, c2, rs, rfl, hls, hst9, hown9, hsl9, hbel9⟩
            have hrl : rs.length = N := by
              have h1 := congrArg List.length hls
              simp only [lists, List.length_map, List.length_append, List.length_singleton] at h1
              have := HL.out.2.2.1
              omega
            have hrs1 := Rd.of_own hst9.own
            have hcap : N ≤ c2 := by
              rcases hst9.own.2 with ⟨e1, h1⟩ | ⟨g3, cap, cur, e1, _, _, h1, _⟩
              · omega
              · simp only [Value.slice.injEq] at e1
                omega
            have hsm : ∀ y ∈ rs, y.n ≤ 10000 := fun y hy => by
              have h1 := (hst9.sls y hy).1.len
              rw [cells_len] at h1
              have h2 : y.l ∈ lists rs := List.mem_map.2 ⟨y, hy, rfl⟩
              rw [hls] at h2
              have h3 := total_mem h2
              have h4 := hst9.few
              have h5 := HL.out.2.2.2.2.1
              rw [HL.out.2.2.2.2.2.2.2.2] at h4
              unfold secsOf at h3 h4 h5
              omega
            have hcall : ∀ d, Calls Try.prog 23 #[.slice A2 N c2, .slice A1 N c1] (w9.drewN d) (fun e w' => e = .returned (.bool true) ∧ ∃ m, w' = w9.drewN m) := fun d => by
              have h1 : Rd w9 w9.heap.size A2 N (vals (rs.take N)) := by
                have h1 := hrs1.cuth (k := N) (by omega)
                rwa [show (vals rs).take N = vals (rs.take N) by simp [vals, List.map_take]] at h1
              have h2 : Rd w9 w9.heap.size A1 N (vals ws) := by
                have h2 := Rd.of_own (A := A1) (c := c1) (n := ws.length) (by rw [← HL.out.2.2.1] at hown9 ⊢; exact hown9)
                rwa [← HL.out.2.2.1] at h2
              have hN0 := HL.out.2.2.1
              have h100 : ∀ y ∈ rs.take N, y.n ≤ 140000000000000 := fun y hy => by
                have h3 := ((hst9.sls y (List.mem_of_mem_take hy)).2.1)
                have h4 := ((hst9.sls y (List.mem_of_mem_take hy)).2.2)
                have h5 := hsm y (List.mem_of_mem_take hy)
                omega
              refine (sameLists_yes A2 A1 N c2 c1 (rs.take N) ws (w9.drewN d) _ _ _ _ (by rw [show lists (rs.take N) = (lists rs).take N by simp [lists, List.map_take], hls, List.take_of_length_le (by rw [lists_length]; have := HL.out.2.2.1; omega)]) (by rw [List.length_take]; omega) (h1.drewN d) (h2.drewN d) (fun y hy => ⟨((hst9.sls y (List.mem_of_mem_take hy)).1).drewN d, (hst9.sls y (List.mem_of_mem_take hy)).2⟩) (fun y hy => ⟨((hsl9 y hy).1).drewN d, (hsl9 y hy).2⟩) h100 (by omega)).mono ?_
              rintro e w' ⟨rfl, m, rfl⟩
              exact ⟨rfl, _, World.drewN_drewN _ _ _⟩
            have HQ := Lib.hid hcall
            have HE := Lib.hid (show AgRel w g xs (.pointer (some ⟨l2, 0, none⟩)) (.slice A2 N c2) (.int .i64 ((k : Int) + 1)) w9 from ⟨k + 1, l2, N, c2, _, rs, by omega, by go_num, rfl, rfl, hrl.symm, by rw [HL.out.2.2.2.1, hls, ← hrl]; rw [hrl] at hst9 ⊢; exact hst9.cast (by rw [HL.out.2.2.2.2.2.2.2.2])⟩)
            rw [hrl]
            clear hcall hst9 hown9 hsl9 hbel9 hrs1 hls hrl hsm
            have hNN : ¬ ((N : Int) + 1 < (N : Int)) := by omega
            have f3 : ((N : Int) == (N : Int) + 1) = false := by simp; omega
            have f4 : ¬ ((N : Int) = (N : Int) + 1) := by omega
            have hwr : IntKind.i64.wrap ((N : Int) + 1) = (N : Int) + 1 := by rw [show (N : Int) + 1 = ((N + 1 : Nat) : Int) by omega]; exact wrap_i64_small (by omega)
            have hd1 : decide ((N : Int) < (N : Int)) = false := by simp
            have hd2 : decide (IntKind.i64.wrap ((N : Int) + 1) < (N : Int)) = false := by rw [hwr]; simp; omega
            have hd6 : decide ((N : Int) = (N : Int) + 1) = false := by simp; omega
            have hd7 : decide ((N : Int) + 1 < (N : Int)) = false := by simp; omega
            have hd8 : ((N : Int) != (N : Int) + 1) = true := by simp; omega
            have hd3 : ((N : Int) == IntKind.i64.wrap ((N : Int) + 1)) = false := by rw [hwr]; simp; omega
            have hd4 : ((N : Int) != IntKind.i64.wrap ((N : Int) + 1)) = true := by rw [hwr]; simp; omega
            have hd5 : decide ((N : Int) = IntKind.i64.wrap ((N : Int) + 1)) = false := by rw [hwr]; simp; omega
            have hNi : (0 : Int) ≤ (N : Int) := Int.natCast_nonneg _
            go_wp2_with fail
            go_quiet (first | (go_at_call 23; exact HQ.out _))
            go_wp2
            go_roundw
            case rel => exact HE.out.drewN _
            case measure => simp [intOf]; omega
    · have hkn : ¬ ((k : Int) < (xs.length : Int)) := by omega
      have HBB := Lib.hid hst.b
      clear hst
      go_wp2
      go_ret
      exact ⟨rfl, HBB.out⟩

section
open Go.ChangeShapes Go.WideShapes Go.ChangeAt
open Go.ChangeMaps (open_string shut_string)
set_option linter.unusedVariables false
set_option maxRecDepth 100000 in
theorem walAgain_lifted (os : Os) (started : os.Started) (H : Type) (enc : TypeId × Value → H) :
    ReturnsInHanded {} Try.checked os 5 .any (Rows.walAgainSpec.pre6 enc Try.prog Try.f5 Rows.walAgainRow.domain false) (Rows.walAgainSpec.post enc Try.prog Try.f5 false true false false) := by
  refine returnsInHanded_of_change_sized (C := Try.checked) own started (by kernel_rfl) Try.func5
    (ChangeSpec.witness6 (enc := enc) (C := Try.checked) false ⟨#[], #[.slice none 0 0, .slice none 0 0], []⟩ 8 (by kernel_rfl) (by kernel_rfl) (by kernel_rfl) (by kernel_rfl)) ?_
  intro W base args ds gs before hval0 hW hcnd hsz _
  have hval : ∀ (j : Nat) t v, Try.f5.params[j]? = some t → args[j]? = some v → Value.okWide Try.prog W .any base t v := hval0
  have hW' := hW
  obtain ⟨p, q, hA0, hV, rfl, hfz, hnd⟩ := hW
  have hA : DataW.TrodAll enc Try.prog W 0 (fun _ => true) true Try.f5.params.toList args.toList ds p := hA0
  rw [Try.params5] at hA hval
  obtain ⟨v0, vs0, d0, ds0, p0, q0, hargs, rfl, rfl, h0, r0⟩ := trodAll_cons hA
  obtain ⟨v1, vs1, d1, ds1, p1, q1, rfl, rfl, rfl, h1, r1⟩ := trodAll_cons r0
  obtain ⟨rfl, rfl, rfl⟩ := trodAll_nil r1
  obtain rfl : args = #[v0, v1] := by cases args; simp_all
  obtain ⟨rfl, rfl⟩ := trodVars_none hV
  have k0 := h0
  have lt0 : ∀ x ∈ p0, x.block < W.heap.size := by obtain ⟨m, hm⟩ := k0; exact DataW.trod_lt m _ _ _ hm
  have k1 := h1
  have lt1 : ∀ x ∈ p1, x.block < W.heap.size := by obtain ⟨m, hm⟩ := k1; exact DataW.trod_lt m _ _ _ hm
  obtain ⟨a0, len0, cap0, rfl⟩ := okWide_slice Try.underlying39 (hval 0 39 v0 rfl rfl)
  obtain ⟨z0, r0x, s0x, y0x, e0, l0, m0, q0x⟩ := rd_of_lists Try.underlying39 Try.underlying38 (by kernel_rfl) Try.underlying5 (by kernel_rfl) (by kernel_rfl) h0
  have b0x : ∀ x ∈ z0, x.n ≤ 140737488355328 := fun x hx => by
    rcases q0x x hx with h | ⟨q, hq, hle⟩
    · omega
    · have h9 : q ≤ 140737488355328 := by
        have h8 := List.all_eq_true.1 hsz _ (DataW.weights_mem_each (j := 0) (t := 39) rfl rfl q hq)
        have h7 : q ≤ reachBytes := by simpa using h8
        unfold reachBytes at h7
        omega
      omega
  obtain ⟨a1, len1, cap1, rfl⟩ := okWide_slice Try.underlying63 (hval 1 63 v1 rfl rfl)
  obtain ⟨z1, r1x, w1, e1, l1, m1⟩ := rd_of_ints Try.underlying63 Try.underlying3 (by kernel_rfl) h1
  clear hA0 hval0
  refine (walAgain_walk a0 len0 cap0 z0 a1 len1 cap1 z1 W r0x s0x y0x e0 l0 m0 b0x r1x w1 e1 l1 m1).mono fun e W' ⟨he, bel⟩ => ?_
  subst he
  exact ⟨_, rfl, _, _, _, [], _, [], hW', trodAll_mk1 (shut_bool Try.underlying4 _), (trodAll_cons_mk (Below.trod laidOut (by kernel_rfl) (of_decide_eq_true (by kernel_rfl)) k0 bel lt0) (trodAll_cons_mk (Below.trod laidOut (by kernel_rfl) (of_decide_eq_true (by kernel_rfl)) k1 bel lt1) trodAll_mk0)), rfl, bel.frame _, fun h => by cases h⟩

theorem walAgain_over : Rows.walAgainRow.holds Try.pinned (OpenSpec.ofChange Rows.walAgainSpec) :=
  OpenClaim.holds_of_wide 5 Try.f5 rfl rfl rfl rfl rfl rfl rfl ⟨rfl, rfl, rfl, rfl, rfl⟩ rfl rfl rfl rfl rfl (by kernel_rfl) Try.func5 (by kernel_rfl)
    (of_decide_eq_true (by kernel_rfl)) (by unfold Func.isWrapper; first | (rw [if_pos (by decide +kernel)]; kernel_rfl) | (rw [if_neg (by decide +kernel)]; exact ⟨rfl, rfl⟩))
    (fun os started H enc _ => walAgain_lifted os started H enc)

theorem walAgain_holds : Rows.WalAgainSaid := walAgain_over
end
#print axioms walAgain_holds
end Go.Proofs.Ytehghjakggdnpaa
