/-
  WalKeeps returns true for all rows of records that are flushed and of others that aren't, and all crashes: behind the crash a log has all records that were flushed, and of the others the first so many, as they were appended; what is handed in is left as it was.
  No condition but the reach of the statement's form (a slice that is read takes fewer than 2^47 bytes).
-/
import Derived.Test.YtehghjakggdnpaaWWeigh
import Derived.Test.YtehghjakggdnpaaWKeepL
import Derived.Test.YtehghjakggdnpaaRows
namespace Go.Proofs.Ytehghjakggdnpaa
open Go.RowKit Go.Lib

/-- what holds between two records -/
def KpRel (w : World) (g l n1 : Nat) (src : List Sl) (pre xs : List Sl) (v i : Value) (wr : World) : Prop :=
  ∃ (k N : Nat) (zs : List Sl) (b c : Nat), k ≤ xs.length ∧ i = .int .i64 k ∧ v = .slice (some ⟨b, 0, none⟩) N c ∧ N = (pre ++ zs).length ∧ zs.length ≤ k ∧ (∀ z ∈ pre ++ zs, z ∈ src ∧ z.n ≤ 4096) ∧ KSt w wr g l n1 (lists (pre ++ zs)) v (pre ++ zs)
theorem KpRel.more {w w6 w3 : World} {g l n1 : Nat} {src pre xs zs : List Sl} {v : Value} {k N b3 cap : Nat} {x : Sl} {i : Value} (hk : k < xs.length) (hi : i = .int .i64 ((k : Int) + 1)) (hN : N = (pre ++ zs).length) (hzk : zs.length ≤ k) (hz : ∀ z ∈ pre ++ zs, z ∈ src ∧ z.n ≤ 4096) (hx : x ∈ src ∧ x.n ≤ 4096) (h : KSt w w6 g l n1 (lists (pre ++ zs) ++ [x.l]) v (pre ++ zs)) (o : Obj)
    (ho : w3.ownsRow w.heap.size 38 1 (.slice (some ⟨b3, 0, none⟩) (N + 1) cap) (N + 1) (vals (pre ++ zs) ++ [.slice x.A x.n x.c])) (hg : (w6.alloc o).grownBy w3 v.ownBlock) (hat : v.ownBlock = some b3 ∨ b3 = w6.heap.size + 1) :
    KpRel w g l n1 src pre xs (.slice (some ⟨b3, 0, none⟩) (N + 1) cap) i w3 := by
  subst hN
  refine ⟨k + 1, _, zs ++ [x], b3, cap, by omega, hi.trans (by push_cast; rfl), rfl, by simp; omega, by simp; omega, ?_, ?_⟩
  · intro z hzm
    rw [← List.append_assoc] at hzm
    rcases List.mem_append.1 hzm with h1 | h1
    · exact hz z h1
    · rw [List.mem_singleton.1 h1]; exact hx
  · have h1 := kst_grow h x o ho hg hat
    have e : lists (pre ++ zs) ++ [x.l] = lists (pre ++ (zs ++ [x])) := by simp [lists]
    rw [e, List.append_assoc] at h1
    exact h1

theorem lists_append (a b : List Sl) : lists (a ++ b) = lists a ++ lists b := by simp [lists]
theorem lists_len (a : List Sl) : (lists a).length = a.length := by simp [lists]

set_option maxRecDepth 100000 in
set_option maxHeartbeats 12800000 in
theorem walKeeps_walk (A : Option Addr) (len c : Nat) (xs : List Sl) (A' : Option Addr) (len' c' : Nat) (ys : List Sl) (keep torn : Int) (w : World) (hr : Rd w w.heap.size A len (vals xs)) (hs : SlsIn w w.heap.size xs) (hy : ∀ x ∈ xs, IsBytes x.l) (he : xs.length = len) (_hl : len ≤ c) (_hm : c ≤ maxLen) (hb : ∀ x ∈ xs, x.n ≤ 140737488355328)
    (hr' : Rd w w.heap.size A' len' (vals ys)) (hs' : SlsIn w w.heap.size ys) (hy' : ∀ x ∈ ys, IsBytes x.l) (he' : ys.length = len') (_hl' : len' ≤ c') (_hm' : c' ≤ maxLen) (hb' : ∀ x ∈ ys, x.n ≤ 140737488355328) (_b1 : -9223372036854775808 ≤ keep ∧ keep ≤ 9223372036854775807) (_b2 : -9223372036854775808 ≤ torn ∧ torn ≤ 9223372036854775807) :
    Calls Try.prog 4 #[.slice A len c, .slice A' len' c', .int .i64 keep, .int .i64 torn] w (YesB w) := by
  subst he
  subst he'
  obtain ⟨i0, hi, hz0, hz1, hz2⟩ := info_parts Try.info38
  have HI := Lib.hid (And.intro hi (And.intro hz0 (And.intro hz1 hz2)))
  have HX := Lib.hid (And.intro hr (And.intro hs hb))
  have HY := Lib.hid (And.intro hr' (And.intro hs' hb'))
  have HB := Lib.hid (show ∀ z ∈ xs ++ ys, IsBytes z.l from fun z hz => (List.mem_append.1 hz).elim (hy z) (hy' z))
  have HS := Lib.hid (show SlsIn w w.heap.size (xs ++ ys) from fun z hz => (List.mem_append.1 hz).elim (hs z) (hs' z))
  clear hr hs hb hr' hs' hb' hy hy' hi hz0 hz1 hz2
  go_enter Try.func4, Try.ntmps4
  go_wp2_with fail
  refine (alive_any w).mono ?_
  rintro e w1 ⟨rfl, h1⟩
  have HA := Lib.hid h1
  clear h1
  have hr1 : Rd w1 w1.heap.size A xs.length (vals xs) := (HX.out.1.below HA.out (Nat.le_refl _)).more HA.out.size
  have hs1 : SlsIn w1 w1.heap.size xs := (HX.out.2.1.below HA.out (Nat.le_refl _)).more HA.out.size
  have hr2 : Rd w1 w1.heap.size A' ys.length (vals ys) := (HY.out.1.below HA.out (Nat.le_refl _)).more HA.out.size
  have hs2 : SlsIn w1 w1.heap.size ys := (HY.out.2.1.below HA.out (Nat.le_refl _)).more HA.out.size
  have HW := Lib.hid (And.intro hr1 (And.intro hs1 (And.intro hr2 hs2)))
  clear hr1 hs1 hr2 hs2
  go_wp2_with fail
  refine (weigh_any A c xs 5000 (by omega) w1 HW.out.1 HW.out.2.1 HX.out.2.2).mono ?_
  rintro e w1' ⟨rfl, q, rfl, hq⟩
  by_cases g1 : 5000 < q
  · have g1i : (5000 : Int) < (q : Int) := by omega
    clear hq
    go_wp2
    go_ret
    exact ⟨rfl, HA.out⟩
  have hwx := hq (by omega)
  have hxl : xs.length ≤ 5000 := by have := weighM_len xs; omega
  have g1i : ¬ ((5000 : Int) < (q : Int)) := by omega
  clear hq hwx
  go_wp2_with fail
  refine (weigh_any A' c' ys 5000 (by omega) w1 HW.out.2.2.1 HW.out.2.2.2 HY.out.2.2).mono ?_
  rintro e w1' ⟨rfl, q', rfl, hq⟩
  by_cases g2 : 5000 < q'
  · have g2i : (5000 : Int) < (q' : Int) := by omega
    clear hq
    go_wp2
    go_ret
    exact ⟨rfl, HA.out⟩
  have hwx := hq (by omega)
  have hyl : ys.length ≤ 5000 := by have := weighM_len ys; omega
  have g2i : ¬ ((5000 : Int) < (q' : Int)) := by omega
  clear hq hwx
  go_wp2_with fail
  refine (dknew_any w1 300 (by omega) (by omega)).mono ?_
  rintro e w2 ⟨g, rfl, hd, hb2⟩
  have lo2 : ∀ k, Ext Non w1 w2 k → w.heap.size ≤ k := fun k hk => hk.elim (fun h => h.elim) fun h => by have := HA.out.size; omega
  have H2 := Lib.hid (And.intro (show DiskAt w2 g (Ext Non w1 w2) (newS 300) from hd) (And.intro lo2 (HA.out.trans (hb2.mono HA.out.size))))
  clear hd hb2 lo2
  go_wp2_with fail
  refine (format_new H2.out.1 H2.out.2.1 H2.out.2.2 (by omega)).mono ?_
  rintro e w3 ⟨l, F3, rfl, h3⟩
  have H3 := Lib.hid h3
  clear h3
  go_wp2_with fail
  have HK := Lib.hid (show KpRel w g l 0 (xs ++ ys) [] xs (.slice (some ⟨w3.heap.size, 0, none⟩) 0 0) (.int .i64 0) (w3.alloc (.cells #[] 38)) from
    ⟨0, 0, [], _, 0, by omega, rfl, rfl, rfl, by simp, fun z hz => by simp at hz, F3, H3.out.alloc _, World.ownsRow_lit w3 #[] 0 H3.out.b.size (by simp [maxLen]) (by simp), fun b hb hf => by
      obtain rfl : w3.heap.size = b := by simpa [Value.ownBlock] using hb
      exact absurd (H3.out.d.foot _ hf) (by omega), by show 0 ≤ 149; omega, by omega⟩)
  go_loopw [12, 14] (fun v i wr => KpRel w g l 0 (xs ++ ys) [] xs v i wr) (fun _ i _ => xs.length - (intOf i).toNat)
  case atStart => exact HK.out
  case round =>
    obtain ⟨k, N, zs, b1, c1, hk, rfl, rfl, hN, hzk, hz, hst⟩ := hrel
    by_cases hlt : k < xs.length
    · obtain ⟨ad, v, rfl, hadb, hv, hcw⟩ := HX.out.1.at_ hlt
      obtain ⟨x, hx⟩ : ∃ x, x = xs[k]'hlt := ⟨_, rfl⟩
      have hxm : x ∈ xs := by rw [hx]; exact List.getElem_mem _
      obtain rfl := vals_at hlt hv
      rw [← hx] at hcw
      have hc := (hst.b.cell (p := ad.add k) (by rw [addr_block]; exact hadb)).trans hcw
      have hrx := ((HX.out.2.1 x hxm).1.below hst.b (Nat.le_refl _)).more hst.b.size
      have hN5 : N ≤ 5000 := by
        rw [hN]; simp; omega
      have hk0 : (0 : Int) ≤ (k : Int) := Int.natCast_nonneg _
      have hk1 : (k : Int) < (xs.length : Int) := by omega
      have HL := Lib.hid (And.intro hst (And.intro hrx (And.intro hN (And.intro hzk (And.intro hz (And.intro (show x ∈ xs ++ ys from List.mem_append_left _ hxm) (And.intro hadb hcw)))))))
      clear hst hrx hN hzk hz hxm hx hv hadb hcw
      go_wp2_with fail
      refine (kst_append HL.out.1 x.A x.n x.c x.l HL.out.2.1).mono ?_
      rintro e w6 (⟨q9, hq9, rfl, h6⟩ | ⟨rfl, hn6, h6⟩)
      · have HF := Lib.hid (show KpRel w g l 0 (xs ++ ys) [] xs (.slice (some ⟨b1, 0, none⟩) N c1) (.int .i64 ((k : Int) + 1)) w6 from ⟨k + 1, N, zs, b1, c1, by omega, by go_num, rfl, HL.out.2.2.1, by have := HL.out.2.2.2.1; omega, HL.out.2.2.2.2.1, h6⟩)
        clear h6
        go_wp2
        go_roundw
        case rel => exact HF.out
        case measure => simp [intOf]; omega
      · have hc6 := (h6.b.cell (p := ad.add k) (by rw [addr_block]; exact HL.out.2.2.2.2.2.2.1)).trans HL.out.2.2.2.2.2.2.2
        have hown := h6.own
        rw [← HL.out.2.2.1] at hown
        have H6 := Lib.hid (And.intro h6 (And.intro hn6 hown))
        clear h6 hn6 hc hown
        go_wp2_with (at_builtin; refine wpList_append_lies _ rfl (.tmp 63) (.tmp 68) 39 rfl w.heap.size 38 i0 (.slice none 0 0) 1 24 Try.underlying39 HI.out.1 HI.out.2.1 HI.out.2.2.1 HI.out.2.2.2 rfl (by omega) _ _ _ rfl (by exact H6.out.2.2.alloc _) ⟨w6.heap.size, 0, none⟩ 1 1 [.slice x.A x.n x.c] rfl rfl ?e2 (by simp [Value.oneCell']) (by omega) ?e3 ?e4 ?e5 (w6.heap.size + 1) (World.size_alloc _ _) ?_)
        case e2 =>
          intro j u hu
          rcases j with _ | j
          · obtain rfl := Option.some.inj hu
            exact (Blk.new w6 38 #[.slice x.A x.n x.c]).cell 0
          · simp at hu
        case e3 => unfold maxLen; omega
        case e4 => omega
        case e5 => rw [World.size_alloc]; have := H6.out.1.b.size; omega
        intro g3 cap3 w7 ho3 hg3 hat3 hlt3
        have HF := Lib.hid (KpRel.more (i := .int .i64 ((k : Int) + 1)) hlt rfl HL.out.2.2.1 HL.out.2.2.2.1 HL.out.2.2.2.2.1 ⟨HL.out.2.2.2.2.2.1, H6.out.2.1⟩ H6.out.1 _ ho3 hg3 hat3)
        clear ho3 hg3 hat3 hlt3
        go_wp2
        go_roundw
        case rel => exact HF.out
        case measure => simp [intOf]; omega
    · have hkn : ¬ ((k : Int) < (xs.length : Int)) := by omega
      obtain ⟨n1, hn1⟩ : ∃ n1, n1 = totalM (lists zs) := ⟨_, rfl⟩
      have hzl : zs.length ≤ 5000 := by omega
      have HZ := Lib.hid (And.intro (show KSt w wr g l 0 (lists zs) (.slice (some ⟨b1, 0, none⟩) N c1) zs from hst) (And.intro (show N = zs.length from hN) (And.intro (show ∀ z ∈ zs, z ∈ xs ++ ys ∧ z.n ≤ 4096 from hz) hn1)))
      clear hst hN hz hzk hk hn1 HK
      go_wp2_with fail
      refine (kst_flush HZ.out.1).mono ?_
      rintro e w4 ⟨rfl, h4⟩
      rw [← HZ.out.2.2.2] at h4
      obtain ⟨N1, hN1⟩ : ∃ N1, N1 = N := ⟨_, rfl⟩
      have HN1 := Lib.hid hN1
      clear hN1
      have HK2 := Lib.hid (show KpRel w g l n1 (xs ++ ys) zs ys (.slice (some ⟨b1, 0, none⟩) N c1) (.int .i64 0) w4 from ⟨0, N, [], b1, c1, by omega, rfl, rfl, by rw [List.append_nil]; exact HZ.out.2.1, by simp, by rw [List.append_nil]; exact HZ.out.2.2.1, by rw [List.append_nil]; exact h4⟩)
      clear h4
      go_wp2_with fail
      go_loopw [12, 15] (fun v i wr => KpRel w g l n1 (xs ++ ys) zs ys v i wr) (fun _ i _ => ys.length - (intOf i).toNat)
      case atStart => exact HK2.out
      case round =>
        obtain ⟨k, M, zt, b2, c2, hk, rfl, rfl, hN, hzk, hz, hst⟩ := hrel
        by_cases hlt : k < ys.length
        · obtain ⟨ad, v, rfl, hadb, hv, hcw⟩ := HY.out.1.at_ hlt
          obtain ⟨x, hx⟩ : ∃ x, x = ys[k]'hlt := ⟨_, rfl⟩
          have hxm : x ∈ ys := by rw [hx]; exact List.getElem_mem _
          obtain rfl := vals_at hlt hv
          rw [← hx] at hcw
          have hc := (hst.b.cell (p := ad.add k) (by rw [addr_block]; exact hadb)).trans hcw
          have hrx := ((HY.out.2.1 x hxm).1.below hst.b (Nat.le_refl _)).more hst.b.size
          have hN5 : M ≤ 10000 := by
            rw [hN, List.length_append]; omega
          have hk0 : (0 : Int) ≤ (k : Int) := Int.natCast_nonneg _
          have hk1 : (k : Int) < (ys.length : Int) := by omega
          have HL := Lib.hid (And.intro hst (And.intro hrx (And.intro hN (And.intro hzk (And.intro hz (And.intro (show x ∈ xs ++ ys from List.mem_append_right _ hxm) (And.intro hadb hcw)))))))
          clear hst hrx hN hzk hz hxm hx hv hadb hcw
          go_wp2_with fail
          refine (kst_append HL.out.1 x.A x.n x.c x.l HL.out.2.1).mono ?_
          rintro e w6 (⟨q9, hq9, rfl, h6⟩ | ⟨rfl, hn6, h6⟩)
          · have HF := Lib.hid (show KpRel w g l n1 (xs ++ ys) zs ys (.slice (some ⟨b2, 0, none⟩) M c2) (.int .i64 ((k : Int) + 1)) w6 from ⟨k + 1, M, zt, b2, c2, by omega, by go_num, rfl, HL.out.2.2.1, by have := HL.out.2.2.2.1; omega, HL.out.2.2.2.2.1, h6⟩)
            clear h6
            go_wp2
            go_roundw
            case rel => exact HF.out
            case measure => simp [intOf]; omega
          · have hc6 := (h6.b.cell (p := ad.add k) (by rw [addr_block]; exact HL.out.2.2.2.2.2.2.1)).trans HL.out.2.2.2.2.2.2.2
            have hown := h6.own
            rw [← HL.out.2.2.1] at hown
            have H6 := Lib.hid (And.intro h6 (And.intro hn6 hown))
            clear h6 hn6 hc hown
            go_wp2_with (at_builtin; refine wpList_append_lies _ rfl (.tmp 87) (.tmp 92) 39 rfl w.heap.size 38 i0 (.slice none 0 0) 1 24 Try.underlying39 HI.out.1 HI.out.2.1 HI.out.2.2.1 HI.out.2.2.2 rfl (by omega) _ _ _ rfl (by exact H6.out.2.2.alloc _) ⟨w6.heap.size, 0, none⟩ 1 1 [.slice x.A x.n x.c] rfl rfl ?e2 (by simp [Value.oneCell']) (by omega) ?e3 ?e4 ?e5 (w6.heap.size + 1) (World.size_alloc _ _) ?_)
            case e2 =>
              intro j u hu
              rcases j with _ | j
              · obtain rfl := Option.some.inj hu
                exact (Blk.new w6 38 #[.slice x.A x.n x.c]).cell 0
              · simp at hu
            case e3 => unfold maxLen; omega
            case e4 => omega
            case e5 => rw [World.size_alloc]; have := H6.out.1.b.size; omega
            intro g3 cap3 w7 ho3 hg3 hat3 hlt3
            have HF := Lib.hid (KpRel.more (i := .int .i64 ((k : Int) + 1)) hlt rfl HL.out.2.2.1 HL.out.2.2.2.1 HL.out.2.2.2.2.1 ⟨HL.out.2.2.2.2.2.1, H6.out.2.1⟩ H6.out.1 _ ho3 hg3 hat3)
            clear ho3 hg3 hat3 hlt3
            go_wp2
            go_roundw
            case rel => exact HF.out
            case measure => simp [intOf]; omega
        · have hkn2 : ¬ ((k : Int) < (ys.length : Int)) := by omega
          have HC := Lib.hid (And.intro hst (And.intro hN hz))
          have HBB := Lib.hid (show ∀ r ∈ lists (zs ++ zt), IsBytes r ∧ r.length ≤ 4096 from fun r hr => by
            obtain ⟨z, hzm, rfl⟩ := List.mem_map.1 hr
            refine ⟨HB.out z (hz z hzm).1, ?_⟩
            have h1 := (HS.out z (hz z hzm).1).1.len
            rw [cells_len] at h1
            have := (hz z hzm).2
            omega)
          have hcap : M ≤ c2 := by
            rcases hst.own.2 with ⟨e1, _⟩ | ⟨g3, cap, cur, e1, _, _, h1, _⟩
            · simp at e1
            · rw [hN]
              simp only [Value.slice.injEq] at e1
              omega
          have hMb : M ≤ 10000 := by rw [hN, List.length_append]; omega
          clear hst hN hz hk hzk HK2
          go_wp2_with fail
          refine (kst_crash HC.out.1 HBB.out keep torn).mono ?_
          rintro e w5 ⟨rfl, h5⟩
          have H5 := Lib.hid h5
          clear h5
          go_wp2_with fail
          refine (kst_open H5.out HBB.out zs.length (by rw [lists_len, List.length_append]; omega) (by rw [HZ.out.2.2.2, lists_append, List.take_left' (lists_len zs)]; exact Nat.le_refl _)).mono ?_
          rintro e w6 ⟨l2, A2, cr, m, rs, rfl, hkm, hm, hmr, hrr, hsr, hls, hown, hbel⟩
          have hmM : m ≤ M := by rw [HC.out.2.1, ← lists_len]; exact hm
          rw [← HC.out.2.1] at hown
          rw [← HZ.out.2.1] at hkm
          have hkmi : (N : Int) ≤ (m : Int) := by omega
          have hmMi : (m : Int) ≤ (M : Int) := by omega
          have hmc : m ≤ c2 := by omega
          have hmci : (m : Int) ≤ (c2 : Int) := by omega
          have hcall : ∀ d, Calls Try.prog 23 #[.slice A2 m cr, .slice (some ⟨b2, 0, none⟩) m c2] (w6.drewN d) (DkYesQuiet (w6.drewN d)) := fun d =>
            sameLists_yes A2 (some ⟨b2, 0, none⟩) m cr c2 rs ((zs ++ zt).take m) (w6.drewN d) w6.heap.size w6.heap.size w6.heap.size w.heap.size (by rw [hls]; simp [lists, List.map_take]) hmr (hrr.drewN d) (by
              have h1 := (Rd.of_own hown).cuth hmM
              have e : (vals (zs ++ zt)).take m = vals ((zs ++ zt).take m) := by simp [vals, List.map_take]
              rw [e] at h1
              exact h1.drewN d) hsr (fun z hzm => by
                have h1 := HS.out z (HC.out.2.2 z (List.mem_of_mem_take hzm)).1
                exact ⟨(h1.1.below hbel (Nat.le_refl _)).drewN d, h1.2⟩) (fun z hzm => by
                have h1 := (hsr z hzm).1.len
                rw [cells_len] at h1
                have h2 : z.l ∈ lists rs := List.mem_map.2 ⟨z, hzm, rfl⟩
                rw [hls] at h2
                have := (HBB.out z.l (List.mem_of_mem_take h2)).2
                omega) (by omega)
          have HQ := Lib.hid (And.intro hcall hbel)
          clear hcall hbel hrr hsr hls hown hm hmr hkm
          go_wp2_with fail
          refine (HQ.out.1 0).mono ?_
          rintro e w7 ⟨rfl, d, rfl⟩
          go_wp2
          go_ret
          exact ⟨rfl, bdr HQ.out.2 _⟩

section
open Go.ChangeShapes Go.WideShapes Go.ChangeAt
open Go.ChangeMaps (open_string shut_string)
set_option linter.unusedVariables false
set_option maxRecDepth 100000 in
theorem walKeeps_lifted (os : Os) (started : os.Started) (H : Type) (enc : TypeId × Value → H) :
    ReturnsInHanded {} Try.checked os 4 .any (Rows.walKeepsSpec.pre6 enc Try.prog Try.f4 Rows.walKeepsRow.domain false) (Rows.walKeepsSpec.post enc Try.prog Try.f4 false true false false) := by
  refine returnsInHanded_of_change_sized (C := Try.checked) own started (by kernel_rfl) Try.func4
    (ChangeSpec.witness6 (enc := enc) (C := Try.checked) false ⟨#[], #[.slice none 0 0, .slice none 0 0, .int .i64 0, .int .i64 0], []⟩ 8 (by kernel_rfl) (by kernel_rfl) (by kernel_rfl) (by kernel_rfl)) ?_
  intro W base args ds gs before hval0 hW hcnd hsz _
  have hval : ∀ (j : Nat) t v, Try.f4.params[j]? = some t → args[j]? = some v → Value.okWide Try.prog W .any base t v := hval0
  have hW' := hW
  obtain ⟨p, q, hA0, hV, rfl, hfz, hnd⟩ := hW
  have hA : DataW.TrodAll enc Try.prog W 0 (fun _ => true) true Try.f4.params.toList args.toList ds p := hA0
  rw [Try.params4] at hA hval
  obtain ⟨v0, vs0, d0, ds0, p0, q0, hargs, rfl, rfl, h0, r0⟩ := trodAll_cons hA
  obtain ⟨v1, vs1, d1, ds1, p1, q1, rfl, rfl, rfl, h1, r1⟩ := trodAll_cons r0
  obtain ⟨v2, vs2, d2, ds2, p2, q2, rfl, rfl, rfl, h2, r2⟩ := trodAll_cons r1
  obtain ⟨v3, vs3, d3, ds3, p3, q3, rfl, rfl, rfl, h3, r3⟩ := trodAll_cons r2
  obtain ⟨rfl, rfl, rfl⟩ := trodAll_nil r3
  obtain rfl : args = #[v0, v1, v2, v3] := by cases args; simp_all
  obtain ⟨rfl, rfl⟩ := trodVars_none hV
  have k0 := h0
  have lt0 : ∀ x ∈ p0, x.block < W.heap.size := by obtain ⟨m, hm⟩ := k0; exact DataW.trod_lt m _ _ _ hm
  have k1 := h1
  have lt1 : ∀ x ∈ p1, x.block < W.heap.size := by obtain ⟨m, hm⟩ := k1; exact DataW.trod_lt m _ _ _ hm
  have k2 := h2
  have lt2 : ∀ x ∈ p2, x.block < W.heap.size := by obtain ⟨m, hm⟩ := k2; exact DataW.trod_lt m _ _ _ hm
  have k3 := h3
  have lt3 : ∀ x ∈ p3, x.block < W.heap.size := by obtain ⟨m, hm⟩ := k3; exact DataW.trod_lt m _ _ _ hm
  obtain ⟨a0, len0, cap0, rfl⟩ := okWide_slice Try.underlying39 (hval 0 39 v0 rfl rfl)
  obtain ⟨z0, r0x, s0x, y0x, e0, l0, m0, q0x⟩ := rd_of_lists Try.underlying39 Try.underlying38 (by kernel_rfl) Try.underlying5 (by kernel_rfl) (by kernel_rfl) h0
  have b0x : ∀ x ∈ z0, x.n ≤ 140737488355328 := fun x hx => by
    rcases q0x x hx with h | ⟨q, hq, hle⟩
    · omega
    · have h9 : q ≤ 140737488355328 := by
        have h8 := List.all_eq_true.1 hsz _ (DataW.weights_mem_each (j := 0) (t := 39) rfl rfl q hq)
        have h7 : q ≤ reachBytes := by simpa using h8
        unfold reachBytes at h7
        omega
      omega
  obtain ⟨a1, len1, cap1, rfl⟩ := okWide_slice Try.underlying39 (hval 1 39 v1 rfl rfl)
  obtain ⟨z1, r1x, s1x, y1x, e1, l1, m1, q1x⟩ := rd_of_lists Try.underlying39 Try.underlying38 (by kernel_rfl) Try.underlying5 (by kernel_rfl) (by kernel_rfl) h1
  have b1x : ∀ x ∈ z1, x.n ≤ 140737488355328 := fun x hx => by
    rcases q1x x hx with h | ⟨q, hq, hle⟩
    · omega
    · have h9 : q ≤ 140737488355328 := by
        have h8 := List.all_eq_true.1 hsz _ (DataW.weights_mem_each (j := 1) (t := 39) rfl rfl q hq)
        have h7 : q ≤ reachBytes := by simpa using h8
        unfold reachBytes at h7
        omega
      omega
  obtain ⟨a2, rfl, rfl, rfl, w2⟩ := open_int Try.underlying3 (hval 2 3 v2 rfl rfl) h2
  obtain ⟨a3, rfl, rfl, rfl, w3⟩ := open_int Try.underlying3 (hval 3 3 v3 rfl rfl) h3
  clear hA0 hval0
  refine (walKeeps_walk a0 len0 cap0 z0 a1 len1 cap1 z1 a2 a3 W r0x s0x y0x e0 l0 m0 b0x r1x s1x y1x e1 l1 m1 b1x (bounds_i64 w2) (bounds_i64 w3)).mono fun e W' ⟨he, bel⟩ => ?_
  subst he
  exact ⟨_, rfl, _, _, _, [], _, [], hW', trodAll_mk1 (shut_bool Try.underlying4 _), (trodAll_cons_mk (Below.trod laidOut (by kernel_rfl) (of_decide_eq_true (by kernel_rfl)) k0 bel lt0) (trodAll_cons_mk (Below.trod laidOut (by kernel_rfl) (of_decide_eq_true (by kernel_rfl)) k1 bel lt1) (trodAll_cons_mk (Below.trod laidOut (by kernel_rfl) (of_decide_eq_true (by kernel_rfl)) k2 bel lt2) (trodAll_cons_mk (Below.trod laidOut (by kernel_rfl) (of_decide_eq_true (by kernel_rfl)) k3 bel lt3) trodAll_mk0)))), rfl, bel.frame _, fun h => by cases h⟩

theorem walKeeps_over : Rows.walKeepsRow.holds Try.pinned (OpenSpec.ofChange Rows.walKeepsSpec) :=
  OpenClaim.holds_of_wide 4 Try.f4 rfl rfl rfl rfl rfl rfl rfl ⟨rfl, rfl, rfl, rfl, rfl⟩ rfl rfl rfl rfl rfl (by kernel_rfl) Try.func4 (by kernel_rfl)
    (of_decide_eq_true (by kernel_rfl)) (by unfold Func.isWrapper; first | (rw [if_pos (by decide +kernel)]; kernel_rfl) | (rw [if_neg (by decide +kernel)]; exact ⟨rfl, rfl⟩))
    (fun os started H enc _ => walKeeps_lifted os started H enc)

theorem walKeeps_holds : Rows.WalKeepsSaid := walKeeps_over
end
#print axioms walKeeps_holds
end Go.Proofs.Ytehghjakggdnpaa
