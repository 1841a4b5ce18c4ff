/-
  WalRoom returns true for every row of records and every number of sectors, and leaves them as they were: a record takes the sectors that it needs, and no other ones; with too few it is refused, and takes none.
  No condition but the reach of the statement's form (a slice that is read takes fewer than 2^47 bytes).
-/
import Derived.Test.YtehghjakggdnpaaWWeigh
import Derived.Test.YtehghjakggdnpaaWAlive
import Derived.Test.YtehghjakggdnpaaRows
namespace Go.Proofs.Ytehghjakggdnpaa
open Go.RowKit Go.Lib

/-- what New makes -/
def newS (m : Nat) : DS := ⟨secs [] m, []⟩
theorem newS_nil {m : Nat} : ∀ b ∈ (newS m).cur, ∀ i, b.getD i 0 = 0 := by
  intro b hb i
  have h1 : (newS m).cur = secs [] m := rfl
  rw [h1, secs_nil] at hb
  rw [List.eq_of_mem_replicate hb, List.getD_eq_getElem?_getD, List.getElem?_replicate]
  split <;> rfl
theorem great4_zero {C : List (List Int)} (h : ∀ b ∈ C, ∀ i, b.getD i 0 = 0) (k m : Nat) : great4 C k m = 0 := by
  induction m with
  | zero => rfl
  | succ m ih =>
    unfold great4
    have hz : ∀ i, (C.getD (k + m) []).getD i 0 = 0 := by
      intro i
      rw [List.getD_eq_getElem?_getD (l := C)]
      by_cases hk : k + m < C.length
      · rw [List.getElem?_eq_getElem hk]; exact h _ (List.getElem_mem hk) i
      · rw [List.getElem?_eq_none (by omega)]; simp
    have h1 : num4 (C.getD (k + m) []) 0 = 0 := by
      unfold num4
      rw [hz, hz, hz, hz]; rfl
    rw [ih, h1]
    rfl
theorem newS_bytes (m : Nat) : AllBytes (newS m).cur := by
  intro b hb x hx
  have h1 : (newS m).cur = secs [] m := rfl
  rw [h1, secs_nil] at hb
  rw [List.eq_of_mem_replicate hb] at hx
  rw [List.eq_of_mem_replicate hx]
  omega
/-- what Format leaves of it -/
def fmtS (m : Nat) : DS := ((newS m).write 1 (headB 1 0 1)).flush
theorem fmtS_len (m : Nat) : (fmtS m).last.length = m := by
  show (lay _ _).length = m
  rw [lay_len]
  show (secs [] m).length = m
  rw [secs_len]
theorem format_new {w0 w : World} {g : Nat} {F : Nat → Prop} {m : Nat} (h : DiskAt w g F (newS m)) (lo : ∀ k, F k → w0.heap.size ≤ k) (b0 : Below w0.heap.size w0 w) (h10 : 10 ≤ m) :
    Calls Try.prog 12 #[.pointer (some ⟨g, 0, none⟩)] w (FormRet w0 g (fmtS m) 1 1) := by
  have hl : (newS m).last.length = m := secs_len [] m
  have hz := newS_nil (m := m)
  exact format_any h lo b0 (newS_bytes m) (by rw [hl]; exact h10) (by show 0 < 1000000; omega) 0 1 (great4_zero hz 0 2).symm (by rw [great4_zero hz]; rfl) (by omega) (by omega)
theorem appS_last (s : DS) (area : Int) (u : Nat) (next : Int) (r : List Int) : (appS s area u next r).last = s.last := rfl
theorem appS_wr (s : DS) (area : Int) (u : Nat) (next : Int) (r : List Int) : (appS s area u next r).wr.length = s.wr.length + secsOf r.length := by
  unfold appS; simp [putWs_len]

def RmRel (w : World) (g l m : Nat) (xs : List Sl) (i : Value) (wr : World) : Prop :=
  ∃ (k u : Nat) (F : Nat → Prop) (s : DS), k ≤ xs.length ∧ i = .int .i64 k ∧ WLive w wr g l F s 1 0 (u : Int) ((u : Int) + 1) ∧ s.last.length = m ∧ u ≤ s.half ∧ s.wr.length ≤ u

set_option maxRecDepth 100000 in
set_option maxHeartbeats 6400000 in
theorem walRoom_walk (A : Option Addr) (len c : Nat) (xs : List Sl) (mi : Int) (w : World) (hr : Rd w w.heap.size A len (vals xs)) (hs : SlsIn w w.heap.size xs) (_hy : ∀ x ∈ xs, IsBytes x.l) (he : xs.length = len) (_hl : len ≤ c) (_hm : c ≤ maxLen) (hb : ∀ x ∈ xs, x.n ≤ 140737488355328) (_b1 : -9223372036854775808 ≤ mi ∧ mi ≤ 9223372036854775807) :
    Calls Try.prog 7 #[.slice A len c, .int .i64 mi] w (YesB w) := by
  subst he
  have HX := Lib.hid (And.intro hr (And.intro hs hb))
  clear hr hs hb
  go_enter Try.func7, Try.ntmps7
  go_wp2_with fail
  refine (alive_any w).mono ?_
  rintro e w1 ⟨rfl, h1⟩
  have HA := Lib.hid h1
  clear h1
  have hr1 : Rd w1 w1.heap.size A xs.length (vals xs) := (HX.out.1.below HA.out (Nat.le_refl _)).more HA.out.size
  have hs1 : SlsIn w1 w1.heap.size xs := (HX.out.2.1.below HA.out (Nat.le_refl _)).more HA.out.size
  go_wp2_with fail
  refine (weigh_any A c xs 5000 (by omega) w1 hr1 hs1 HX.out.2.2).mono ?_
  rintro e w1' ⟨rfl, q, rfl, hq⟩
  clear hr1 hs1
  by_cases g1 : 5000 < q
  · go_wp2
    go_ret
    exact ⟨rfl, HA.out⟩
  have hwx := hq (by omega)
  have HQ := Lib.hid (show ∀ x ∈ xs, x.n ≤ 5000 from fun x hx => by
    obtain ⟨a, b, e⟩ := List.append_of_mem hx
    rw [e, weighM_append] at hwx
    simp only [weighM] at hwx
    omega)
  have hxl : xs.length ≤ 5000 := by have := weighM_len xs; omega
  have g1i : ¬ ((5000 : Int) < (q : Int)) := by omega
  clear hq hwx
  by_cases g2 : mi < 10
  · go_wp2
    go_ret
    exact ⟨rfl, HA.out⟩
  by_cases g3 : 200 < mi
  · go_wp2
    go_ret
    exact ⟨rfl, HA.out⟩
  obtain ⟨m, rfl⟩ : ∃ m : Nat, mi = m := ⟨mi.toNat, by omega⟩
  have hm10 : 10 ≤ m := by omega
  have hm200 : m ≤ 200 := by omega
  go_wp2_with fail
  refine (dknew_any w1 m (by omega) (by omega)).mono ?_
  rintro e w2 ⟨g, rfl, hd, hb2⟩
  have lo2 : ∀ k, Ext Non w1 w2 k → w.heap.size ≤ k := fun k hk => hk.elim (fun h => h.elim) fun h => by have := HA.out.size; omega
  have H2 := Lib.hid (And.intro (show DiskAt w2 g (Ext Non w1 w2) (newS m) from hd) (And.intro lo2 (HA.out.trans (hb2.mono HA.out.size))))
  clear hd hb2 lo2
  go_wp2_with fail
  refine (format_new H2.out.1 H2.out.2.1 H2.out.2.2 hm10).mono ?_
  rintro e w3 ⟨l, F3, rfl, h3⟩
  have H3 := Lib.hid h3
  clear h3
  have hf3 : (fmtS m).half = (m - 2) / 2 := by unfold DS.half; rw [fmtS_len]
  have hhalf : ((m : Int) - 2) / 2 = (((m - 2) / 2 : Nat) : Int) := by omega
  obtain ⟨hf, hhf⟩ : ∃ hf, hf = (m - 2) / 2 := ⟨_, rfl⟩
  rw [← hhf] at hf3 hhalf
  have hfb : 4 ≤ hf ∧ hf ≤ 99 := by omega
  have HH := Lib.hid hhf
  clear hhf
  go_wp2_with fail
  refine (room_r (u := 0) hf H3.out.d H3.out.lg (by rw [fmtS_len]; omega) (by rw [hf3]; omega)).mono ?_
  rintro e w4 ⟨rfl, p, rfl⟩
  go_wp2_with fail
  clear hhalf
  go_loopw [8] (fun i wr => RmRel w g l m xs i wr) (fun i _ => xs.length - (intOf i).toNat)
  case atStart => exact ⟨0, 0, F3, fmtS m, by omega, rfl, H3.out.drewN p, fmtS_len m, by omega, by show 0 ≤ 0; omega⟩
  case round =>
    obtain ⟨k, u, F, s, hk, rfl, hlv, hsl, hus, hsw⟩ := hrel
    have hshf : s.half = hf := by unfold DS.half; rw [hsl]; exact HH.out.symm
    by_cases hlt : k < xs.length
    · obtain ⟨ad, v, rfl, hadb, hv, hcw⟩ := HX.out.1.at_ hlt
      obtain ⟨x, hx⟩ : ∃ x, x = xs[k]'hlt := ⟨_, rfl⟩
      have hxm : x ∈ xs := by rw [hx]; exact List.getElem_mem _
      have hxv : v = .slice x.A x.n x.c := by
        simp only [vals, List.getElem?_map, List.getElem?_eq_getElem hlt, Option.map_some, Option.some.injEq] at hv
        rw [← hv, hx]; rfl
      subst hxv
      have hc := (hlv.b.cell (p := ad.add k) (by rw [addr_block]; exact hadb)).trans hcw
      have hn5 := HQ.out x hxm
      have hrx := (HX.out.2.1.below hlv.b (Nat.le_refl _)) x hxm
      obtain ⟨n9, hn9⟩ : ∃ n9, n9 = secsOf x.n := ⟨_, rfl⟩
      have hsec : (2 + (x.n : Int) + 55) / 56 = (n9 : Int) := by rw [hn9]; unfold secsOf; omega
      have hn9b : 1 ≤ n9 ∧ n9 ≤ 91 := by rw [hn9]; unfold secsOf; omega
      obtain ⟨rm, hrm⟩ : ∃ rm, u + rm = hf := ⟨hf - u, by omega⟩
      have hk0 : (0 : Int) ≤ (k : Int) := Int.natCast_nonneg _
      have hk1 : (k : Int) < (xs.length : Int) := by omega
      have hlh : 2 ≤ s.last.length := by omega
      have HL := Lib.hid (And.intro hlv (And.intro hsl (And.intro hus (And.intro hsw (And.intro hshf (And.intro hrx (And.intro hn9 (And.intro hxm hrm))))))))
      clear hlv hsl hsw hshf hrx hn9 hv hx hxm
      go_wp2_with fail
      refine (room_r rm HL.out.1.d HL.out.1.lg hlh (by rw [HL.out.2.2.2.2.1]; exact hrm)).mono ?_
      rintro e w5 ⟨rfl, p5, rfl⟩
      rw [hsec]
      by_cases g4 : 4096 < x.n
      · have g4i : ¬ ((x.n : Int) ≤ 4096) := by omega
        go_wp2_with fail
        refine (append_range x.A x.n x.c g4).mono ?_
        rintro e w6 ⟨rfl, rfl⟩
        by_cases g5 : rm < n9
        · have g5i : (rm : Int) < (n9 : Int) := by omega
          go_wp2_with fail
          refine (room_r rm (h := by exact HL.out.1.d) (hl := by exact HL.out.1.lg) hlh (by rw [HL.out.2.2.2.2.1]; exact hrm)).mono ?_
          rintro e w7 ⟨rfl, p7, rfl⟩
          have HF := Lib.hid (fun pp => (show RmRel w g l m xs (.int .i64 ((k : Int) + 1)) (wr.drewN pp) from ⟨k + 1, u, F, s, by omega, by go_num, HL.out.1.drewN pp, HL.out.2.1, HL.out.2.2.1, HL.out.2.2.2.1⟩))
          go_wp2
          go_roundw
          case rel => exact HF.out _
          case measure => simp [intOf]; omega
        · have g5i : ¬ ((rm : Int) < (n9 : Int)) := by omega
          have HF := Lib.hid (fun pp => (show RmRel w g l m xs (.int .i64 ((k : Int) + 1)) (wr.drewN pp) from ⟨k + 1, u, F, s, by omega, by go_num, HL.out.1.drewN pp, HL.out.2.1, HL.out.2.2.1, HL.out.2.2.2.1⟩))
          go_wp2
          go_roundw
          case rel => exact HF.out _
          case measure => simp [intOf]; omega
      · have g4i : ((x.n : Int) ≤ 4096) := by omega
        by_cases g5 : rm < n9
        · have g5i : (rm : Int) < (n9 : Int) := by omega
          go_wp2_with fail
          refine (append_full (u := u) (h := by exact HL.out.1.d) (hl := by exact HL.out.1.lg) hlh HL.out.2.2.1 (by omega) x.A x.n x.c (by omega) (.inl (by rw [HL.out.2.2.2.2.1, ← HL.out.2.2.2.2.2.2.1]; omega))).mono ?_
          rintro e w6 ⟨rfl, p6, rfl⟩
          go_wp2_with fail
          refine (room_r rm (h := by exact HL.out.1.d) (hl := by exact HL.out.1.lg) hlh (by rw [HL.out.2.2.2.2.1]; exact hrm)).mono ?_
          rintro e w7 ⟨rfl, p7, rfl⟩
          have HF := Lib.hid (fun pp => (show RmRel w g l m xs (.int .i64 ((k : Int) + 1)) (wr.drewN pp) from ⟨k + 1, u, F, s, by omega, by go_num, HL.out.1.drewN pp, HL.out.2.1, HL.out.2.2.1, HL.out.2.2.2.1⟩))
          go_wp2
          go_roundw
          case rel => exact HF.out _
          case measure => simp [intOf]; omega
        · have g5i : ¬ ((rm : Int) < (n9 : Int)) := by omega
          have hxl' : x.l.length = x.n := by have := HL.out.2.2.2.2.2.1.1.len; rwa [cells_len] at this
          go_wp2_with fail
          refine (append_ok (u := u) (r := x.l) (h := by exact HL.out.1.d) (hl := by exact HL.out.1.lg) HL.out.1.nf hlh (.inl rfl) HL.out.2.2.1 (by omega) x.A x.n x.c (hr := by exact HL.out.2.2.2.2.2.1.1.more HL.out.1.b.size) (by omega) (by unfold isFull; rw [HL.out.2.2.2.2.1, ← HL.out.2.2.2.2.2.2.1]; omega) (by have := HL.out.2.2.2.1; omega)).mono ?_
          rintro e w6 ⟨rfl, hd6, hl6, hc6⟩
          have h6 := (HL.out.1.drewN p5).step hd6 hl6 hc6
          rw [← HL.out.2.2.2.2.2.2.1] at h6
          rw [show (u : Int) + 1 + ((n9 : Nat) : Int) = ((u + n9 : Nat) : Int) + 1 by omega] at h6
          have hus6 : u + n9 ≤ (appS s 0 u ((u : Int) + 1) x.l).half := by
            show u + n9 ≤ s.half
            rw [HL.out.2.2.2.2.1]; omega
          have hsw6 : (appS s 0 u ((u : Int) + 1) x.l).wr.length ≤ u + n9 := by
            rw [appS_wr, hxl', ← HL.out.2.2.2.2.2.2.1]
            have := HL.out.2.2.2.1
            omega
          have hc6' := (h6.b.cell (p := ad.add k) (by rw [addr_block]; exact hadb)).trans hcw
          have H6 := Lib.hid (And.intro h6 (And.intro hus6 hsw6))
          clear hd6 hl6 hc6 h6 hus6 hsw6
          go_wp2_with fail
          refine (room_r (s := appS s 0 u ((u : Int) + 1) x.l) (u := u + n9) (rm - n9) (h := by exact H6.out.1.d) (hl := by exact H6.out.1.lg) hlh (by show u + n9 + (rm - n9) = s.half; rw [HL.out.2.2.2.2.1]; omega)).mono ?_
          rintro e w7 ⟨rfl, p7, rfl⟩
          have HF := Lib.hid (fun pp => (show RmRel w g l m xs (.int .i64 ((k : Int) + 1)) (w6.drewN pp) from ⟨k + 1, u + n9, _, _, by omega, by go_num, H6.out.1.drewN pp, HL.out.2.1, H6.out.2.1, H6.out.2.2⟩))
          have hsub : (((rm - n9 : Nat) : Int)) = (rm : Int) - (n9 : Int) := by omega
          rw [hsub]
          go_wp2
          go_roundw
          case rel => exact HF.out _
          case measure => simp [intOf]; omega
    · have hkn : ¬ ((k : Int) < (xs.length : Int)) := by omega
      have HB := Lib.hid hlv.b
      clear hlv
      go_wp2
      go_ret
      exact ⟨rfl, HB.out⟩

section
open Go.ChangeShapes Go.WideShapes Go.ChangeAt
open Go.ChangeMaps (open_string shut_string)
set_option linter.unusedVariables false
set_option maxRecDepth 100000 in
theorem walRoom_lifted (os : Os) (started : os.Started) (H : Type) (enc : TypeId × Value → H) :
    ReturnsInHanded {} Try.checked os 7 .any (Rows.walRoomSpec.pre6 enc Try.prog Try.f7 Rows.walRoomRow.domain false) (Rows.walRoomSpec.post enc Try.prog Try.f7 false true false false) := by
  refine returnsInHanded_of_change_sized (C := Try.checked) own started (by kernel_rfl) Try.func7
    (ChangeSpec.witness6 (enc := enc) (C := Try.checked) false ⟨#[], #[.slice none 0 0, .int .i64 0], []⟩ 8 (by kernel_rfl) (by kernel_rfl) (by kernel_rfl) (by kernel_rfl)) ?_
  intro W base args ds gs before hval0 hW hcnd hsz _
  have hval : ∀ (j : Nat) t v, Try.f7.params[j]? = some t → args[j]? = some v → Value.okWide Try.prog W .any base t v := hval0
  have hW' := hW
  obtain ⟨p, q, hA0, hV, rfl, hfz, hnd⟩ := hW
  have hA : DataW.TrodAll enc Try.prog W 0 (fun _ => true) true Try.f7.params.toList args.toList ds p := hA0
  rw [Try.params7] at hA hval
  obtain ⟨v0, vs0, d0, ds0, p0, q0, hargs, rfl, rfl, h0, r0⟩ := trodAll_cons hA
  obtain ⟨v1, vs1, d1, ds1, p1, q1, rfl, rfl, rfl, h1, r1⟩ := trodAll_cons r0
  obtain ⟨rfl, rfl, rfl⟩ := trodAll_nil r1
  obtain rfl : args = #[v0, v1] := by cases args; simp_all
  obtain ⟨rfl, rfl⟩ := trodVars_none hV
  have k0 := h0
  have lt0 : ∀ x ∈ p0, x.block < W.heap.size := by obtain ⟨m, hm⟩ := k0; exact DataW.trod_lt m _ _ _ hm
  have k1 := h1
  have lt1 : ∀ x ∈ p1, x.block < W.heap.size := by obtain ⟨m, hm⟩ := k1; exact DataW.trod_lt m _ _ _ hm
  obtain ⟨a0, len0, cap0, rfl⟩ := okWide_slice Try.underlying39 (hval 0 39 v0 rfl rfl)
  obtain ⟨z0, r0x, s0x, y0x, e0, l0, m0, q0x⟩ := rd_of_lists Try.underlying39 Try.underlying38 (by kernel_rfl) Try.underlying5 (by kernel_rfl) (by kernel_rfl) h0
  have b0x : ∀ x ∈ z0, x.n ≤ 140737488355328 := fun x hx => by
    rcases q0x x hx with h | ⟨q, hq, hle⟩
    · omega
    · have h9 : q ≤ 140737488355328 := by
        have h8 := List.all_eq_true.1 hsz _ (DataW.weights_mem_each (j := 0) (t := 39) rfl rfl q hq)
        have h7 : q ≤ reachBytes := by simpa using h8
        unfold reachBytes at h7
        omega
      omega
  obtain ⟨a1, rfl, rfl, rfl, w1⟩ := open_int Try.underlying3 (hval 1 3 v1 rfl rfl) h1
  clear hA0 hval0
  refine (walRoom_walk a0 len0 cap0 z0 a1 W r0x s0x y0x e0 l0 m0 b0x (bounds_i64 w1)).mono fun e W' ⟨he, bel⟩ => ?_
  subst he
  exact ⟨_, rfl, _, _, _, [], _, [], hW', trodAll_mk1 (shut_bool Try.underlying4 _), (trodAll_cons_mk (Below.trod laidOut (by kernel_rfl) (of_decide_eq_true (by kernel_rfl)) k0 bel lt0) (trodAll_cons_mk (Below.trod laidOut (by kernel_rfl) (of_decide_eq_true (by kernel_rfl)) k1 bel lt1) trodAll_mk0)), rfl, bel.frame _, fun h => by cases h⟩

theorem walRoom_over : Rows.walRoomRow.holds Try.pinned (OpenSpec.ofChange Rows.walRoomSpec) :=
  OpenClaim.holds_of_wide 7 Try.f7 rfl rfl rfl rfl rfl rfl rfl ⟨rfl, rfl, rfl, rfl, rfl⟩ rfl rfl rfl rfl rfl (by kernel_rfl) Try.func7 (by kernel_rfl)
    (of_decide_eq_true (by kernel_rfl)) (by unfold Func.isWrapper; first | (rw [if_pos (by decide +kernel)]; kernel_rfl) | (rw [if_neg (by decide +kernel)]; exact ⟨rfl, rfl⟩))
    (fun os started H enc _ => walRoom_lifted os started H enc)

theorem walRoom_holds : Rows.WalRoomSaid := walRoom_over
end
#print axioms walRoom_holds
end Go.Proofs.Ytehghjakggdnpaa
