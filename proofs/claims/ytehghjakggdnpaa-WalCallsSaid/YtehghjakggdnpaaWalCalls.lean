/-
  WalCalls returns true for every number of sectors and every row of calls: appends, switches, flushes, crashes and openings answer what the document says, and leave the disk's bytes; what is handed in is left as it was.
  No condition but the reach of the statement's form.
-/
import Derived.Test.YtehghjakggdnpaaWQf
import Derived.Test.YtehghjakggdnpaaWAlive
import Derived.Test.YtehghjakggdnpaaWLift
import Derived.Test.YtehghjakggdnpaaRows
namespace Go.Proofs.Ytehghjakggdnpaa
open Go.RowKit Go.Lib

def CaRel (cl : List Cl3) (w : World) (g gr m : Nat) (lv rv iv : Value) (wr : World) : Prop :=
  ∃ (i l lr : Nat) (F G : Nat → Prop) (p : LgS), i ≤ cl.length ∧ iv = .int .i64 i ∧ lv = .pointer (some ⟨l, 0, none⟩) ∧ rv = .pointer (some ⟨lr, 0, none⟩) ∧ W2 w wr g l gr lr F G p p ∧ LInv i m p
def NilRel (w5 : World) (lv rv iv : Value) (wr : World) : Prop := lv = .pointer none ∧ rv = .pointer none ∧ iv = .int .i64 0 ∧ w5 = wr
theorem LInv.facts {i m : Nat} {p : LgS} (h : LInv i m p) (hi : i ≤ 60) : p.s.last.length = m ∧ 10 ≤ m ∧ m ≤ 200 ∧ (p.area = 0 ∨ p.area = 1) ∧ (1 ≤ p.gen ∧ p.gen ≤ 100) ∧ (1 ≤ p.nx ∧ p.nx ≤ 16000) ∧ p.u ≤ p.s.half ∧ p.s.wr.length ≤ 5000 := by
  obtain ⟨f, h⟩ := h
  have h1 := h.ge
  have h2 := h.nxt
  have h3 := h.few
  exact ⟨h.len, h.m10, h.m200, h.ar, by omega, by omega, h.ul, by omega⟩
/-- what the loop's end asks -/
structure TailF (wn : World) (g l gr lr : Nat) (p : LgS) (rm : Nat) : Prop where
  r1 : ∀ k, Calls Try.prog 28 #[.pointer (some ⟨l, 0, none⟩)] (wn.drewN k) fun e w' => e = .returned (.int .i64 (rm : Int)) ∧ ∃ m, w' = wn.drewN m
  r2 : ∀ k, Calls Try.prog 29 #[.pointer (some ⟨lr, 0, none⟩)] (wn.drewN k) fun e w' => e = .returned (.int .i64 (rm : Int)) ∧ ∃ m, w' = wn.drewN m
  r3 : ∀ k, Calls Try.prog 30 #[.pointer (some ⟨g, 0, none⟩)] (wn.drewN k) fun e w' => e = .returned (.int .i64 p.s.wr.length) ∧ ∃ m, w' = wn.drewN m
theorem W2.tail {w0 wn : World} {g l gr lr : Nat} {F G : Nat → Prop} {p : LgS} (h : W2 w0 wn g l gr lr F G p p) (h2 : 2 ≤ p.s.last.length) (hu : p.u ≤ p.s.half) : ∃ rm : Nat, TailF wn g l gr lr p rm :=
  ⟨p.s.half - p.u, fun k => (room_r (w := wn.drewN k) _ h.d h.lg h2 (by omega)).mono fun e w' ⟨h1, m, h2⟩ => ⟨h1, k + m, by rw [h2]; unfold World.drewN; simp only [Nat.add_assoc]⟩,
    fun k => (refRoom_any (w := wn.drewN k) _ h.r h.rl h2 (by omega)).mono fun e w' ⟨h1, m, h2⟩ => ⟨h1, k + m, by rw [h2]; unfold World.drewN; simp only [Nat.add_assoc]⟩,
    fun k => (pending_any (w := wn.drewN k) h.d).mono fun e w' ⟨h1, h2⟩ => ⟨h1, k, h2.symm⟩⟩
theorem weigh_mem {xs : List Sl} {y : Sl} (h : y ∈ xs) : 1 + y.n ≤ weighM xs := by
  obtain ⟨a, b, rfl⟩ := List.append_of_mem h
  rw [weighM_append]
  simp only [weighM]
  omega
theorem lists_ns {xs : List Sl} {w : World} {B : Nat} (h : SlsIn w B xs) : ∀ y ∈ xs, y.l.length = y.n := fun y hy => by have := (h y hy).1.len; rwa [cells_len] at this
theorem big_iff {xs : List Sl} (h : ∀ y ∈ xs, y.l.length = y.n) : (∃ x ∈ xs, 4096 < x.n) ↔ ∃ r ∈ lists xs, 4096 < r.length := by
  constructor
  · rintro ⟨x, hx, hl⟩
    exact ⟨x.l, List.mem_map_of_mem hx, by rw [h x hx]; exact hl⟩
  · rintro ⟨r, hr, hl⟩
    obtain ⟨x, hx, rfl⟩ := List.mem_map.1 hr
    exact ⟨x, hx, by rw [← h x hx]; exact hl⟩
theorem pswi_congr {p : LgS} {xs zs : List Sl} (h : lists zs = lists xs) (hx : ∀ y ∈ xs, y.l.length = y.n) (hz : ∀ y ∈ zs, y.l.length = y.n) : pswi p zs = pswi p xs := by
  unfold pswi
  by_cases he : ∃ x ∈ xs, 4096 < x.n
  · rw [if_pos he, if_pos ((big_iff hz).2 (by rw [h]; exact (big_iff hx).1 he))]
  · rw [if_neg he, if_neg (fun e => he ((big_iff hx).2 (by rw [← h]; exact (big_iff hz).1 e))), h]
/-- rows of one's own, wherever -/
structure OwnL (w : World) (A : Option Addr) (n c : Nat) (zs : List Sl) : Prop where
  o : w.ownsRow 0 38 1 (.slice A n c) n (vals zs)
  s : SlsIn w w.heap.size zs
def KL (A : Option Addr) (n c : Nat) (zs : List Sl) (k : Nat) : Prop := (Value.slice A n c).ownBlock = some k ∨ ∃ z ∈ zs, 0 < z.n ∧ ∃ ad, z.A = some ad ∧ ad.block = k
theorem OwnL.keep {w w' : World} {A : Option Addr} {n c : Nat} {zs : List Sl} (h : OwnL w A n c zs) (hk : ∀ k, KL A n c zs k → w'.heap[k]? = w.heap[k]?) (hs : w.heap.size ≤ w'.heap.size) : OwnL w' A n c zs := by
  refine ⟨own_keep h.o fun k hv => hk k (.inl hv), fun z hz => ⟨⟨(h.s z hz).1.1, fun h0 => ?_⟩, (h.s z hz).2⟩⟩
  obtain ⟨ad, e, hb, hc⟩ := (h.s z hz).1.2 h0
  refine ⟨ad, e, by omega, fun j u hu => ?_⟩
  have hbl : w'.heap[(ad.add j).block]? = w.heap[(ad.add j).block]? := hk _ (.inr ⟨z, hz, h0, ad, e, (addr_block _ _).symm⟩)
  exact (World.cell?_of_block hbl).trans (hc j u hu)
theorem sameLists_below (A A' : Option Addr) (n c c' : Nat) (xs ys : List Sl) (w : World) (B B' D D' : Nat) (hl : lists xs = lists ys) (hn : n = xs.length) (hr : Rd w B A n (vals xs)) (hr' : Rd w B' A' n (vals ys)) (hs : SlsIn w D xs) (hs' : SlsIn w D' ys) (hb : ∀ x ∈ xs, x.n ≤ 140000000000000) (hb2 : n ≤ 140000000000000) :
    Calls Try.prog 23 #[.slice A n c, .slice A' n c'] w (DkYesBelow w) :=
  (sameLists_yes A A' n c c' xs ys w B B' D D' hl hn hr hr' hs hs' hb hb2).mono fun e w' ⟨h1, d, h2⟩ => ⟨h1, by rw [h2]; exact below_drewN (Below.refl _ _) d⟩
theorem image_l {w : World} {g : Nat} {F : Nat → Prop} {s : DS} (h : DiskAt w g F s) (fl : List Int) (hf : fl = s.last.flatten) : Calls Try.prog 31 #[.pointer (some ⟨g, 0, none⟩)] w (BytesRet fl w) := by
  rw [hf]; exact image_any h
theorem refImage_l {w : World} {g : Nat} {G : Nat → Prop} {s : DS} (h : RefAt w g G s) (fl : List Int) (hf : fl = s.last.flatten) : Calls Try.prog 32 #[.pointer (some ⟨g, 0, none⟩)] w (DkOwnRet w.heap.size fl w) := by
  rw [hf]; exact refImage_any h
theorem W2.images {w0 wn : World} {g l gr lr : Nat} {F G : Nat → Prop} {p : LgS} (h : W2 w0 wn g l gr lr F G p p) : DiskAt wn g F p.s ∧ RefAt wn gr G p.s := ⟨h.d, h.r⟩

set_option maxRecDepth 100000 in
set_option maxHeartbeats 12800000 in
theorem walCalls_walk (mi : Int) (A : Option Addr) (c : Nat) (cl : List Cl3) (w : World) (_b0 : -9223372036854775808 ≤ mi ∧ mi ≤ 9223372036854775807) (hC : CallsIn3 w w.heap.size A cl) (_hlc : cl.length ≤ c) (hm : c ≤ maxLen) :
    Calls Try.prog 3 #[.int .i64 mi, .slice A cl.length c] w (YesB w) := by
  have HC := Lib.hid hC
  have hmx : cl.length ≤ maxLen := by omega
  clear hC
  go_enter Try.func3, Try.ntmps3
  go_wp2_with fail
  refine (alive_any w).mono ?_
  rintro e w1 ⟨rfl, h1⟩
  have HA := Lib.hid h1
  clear h1
  go_wp2_with fail
  refine (great_any3 A c cl w1 (by exact ⟨fun h => by obtain ⟨ad, e, hl⟩ := HC.out.lo h; exact ⟨ad, e, Nat.lt_of_lt_of_le hl HA.out.size⟩, (HC.out.below HA.out (Nat.le_refl _)).cell, fun x hx => ((HC.out.below HA.out (Nat.le_refl _)).rd x hx).more HA.out.size, fun x hx => ((HC.out.below HA.out (Nat.le_refl _)).rdl x hx).more HA.out.size, fun x hx => ((HC.out.below HA.out (Nat.le_refl _)).sls x hx).more HA.out.size, HC.out.isb, HC.out.num⟩) hmx).mono ?_
  rintro e w2 ⟨⟨p0, rfl⟩, hgr⟩
  rcases hgr with rfl | ⟨rfl, h60, h20⟩
  · go_wp2
    go_ret
    exact ⟨rfl, bdr HA.out p0⟩
  have H20 := Lib.hid h20
  clear h20
  obtain ⟨wa, hwa⟩ : ∃ wa, wa = w1.drewN p0 := ⟨_, rfl⟩
  have hla : Below w.heap.size w wa := by rw [hwa]; exact bdr HA.out p0
  rw [← hwa]
  clear hwa
  have HL := Lib.hid hla
  clear hla
  by_cases hbad : mi < 1 ∨ 65536 < mi
  · have HBAD := Lib.hid hbad
    have hx1 : ¬ (200 < mi ∧ mi ≤ 65536) := by omega
    rcases hbad with hbad | hbad
    · have hn : ¬ 200 < mi := by omega
      go_wp2_with (first
        | (go_at_call 10; refine (new_no _ mi HBAD.out).mono ?_; rintro e w3 ⟨rfl, rfl⟩)
        | (go_at_call 11; refine (refNew_no _ mi HBAD.out).mono ?_; rintro e w3 ⟨rfl, rfl⟩))
      go_ret
      exact ⟨rfl, HL.out⟩
    · have hn : 200 < mi := by omega
      have hn2 : ¬ mi ≤ 65536 := by omega
      go_wp2_with (first
        | (go_at_call 10; refine (new_no _ mi HBAD.out).mono ?_; rintro e w3 ⟨rfl, rfl⟩)
        | (go_at_call 11; refine (refNew_no _ mi HBAD.out).mono ?_; rintro e w3 ⟨rfl, rfl⟩))
      go_ret
      exact ⟨rfl, HL.out⟩
  by_cases hmid : 200 < mi
  · have hm2 : mi ≤ 65536 := by omega
    go_wp2
    go_ret
    exact ⟨rfl, HL.out⟩
  obtain ⟨m, rfl⟩ : ∃ m : Nat, mi = m := ⟨mi.toNat, by omega⟩
  have hm1 : 1 ≤ m := by omega
  have hm200 : m ≤ 200 := by omega
  clear hbad
  go_wp2_with fail
  refine (dknew_any wa m hm1 (by omega)).mono ?_
  rintro e w2 ⟨g, rfl, hd, hb⟩
  have H2 := Lib.hid (And.intro (show DiskAt w2 g (Ext Non wa w2) (newS m) from hd) hb)
  clear hd hb
  go_wp2_with fail
  refine (refNew_any w2 m hm1 (by omega)).mono ?_
  rintro e w3 ⟨gr, rfl, hd, hb⟩
  have H3 := Lib.hid (And.intro (show RefAt w3 gr (Ext Non w2 w3) (newS m) from hd) (And.intro (H2.out.1.below hb) (show Below w.heap.size w w3 from (HL.out.trans (H2.out.2.mono HL.out.size)).trans (hb.mono (by have := HL.out.size; have := H2.out.2.size; omega)))))
  clear hd hb
  by_cases h10 : m < 10
  · have hsl : (newS m).last.length < 10 := by show (secs [] m).length < 10; rw [secs_len]; omega
    obtain ⟨s0, hs0⟩ : ∃ s0, s0 = newS m := ⟨_, rfl⟩
    have hs0l : s0.last.length = m := by rw [hs0]; exact secs_len [] m
    rw [← hs0] at H3 hsl
    clear hs0
    go_wp2_with fail
    refine (format_small H3.out.2.1 hsl).mono ?_
    rintro e w4 ⟨rfl, rfl⟩
    go_wp2_with fail
    refine (refFormat_small H3.out.1 hsl).mono ?_
    rintro e w4 ⟨rfl, rfl⟩
    go_wp2_with fail
    go_loopw [9, 10, 11] (fun lv rv iv wr => NilRel w3 lv rv iv wr) (fun _ _ _ _ => 0)
    case atStart => exact ⟨rfl, rfl, rfl, rfl⟩
    case round =>
      obtain ⟨rfl, rfl, rfl, rfl⟩ := hrel
      by_cases hc0 : (0 : Int) < (cl.length : Int)
      all_goals
        obtain ⟨fl, hfle⟩ : ∃ fl, fl = s0.last.flatten := ⟨_, rfl⟩
        have hfl : fl.length ≤ 140000000000000 := by
          rw [hfle]
          have h1 := rows_len (L := s0.last.map cells) (cells_all _ (fun b hb => H3.out.1.ok.len b hb))
          rw [rows_flat', cells_len, List.length_map] at h1
          omega
        have HFL := Lib.hid hfle
        clear hfle
        go_wp2_with fail
        refine (image_l H3.out.2.1 fl HFL.out).mono ?_
        rintro e w5 ⟨gi, rfl, hbi, _, hl5⟩
        have H5 := Lib.hid (And.intro hbi (And.intro hl5 (H3.out.1.below hl5)))
        clear hbi hl5
        go_wp2_with fail
        refine (refImage_l H5.out.2.2 fl HFL.out).mono ?_
        rintro e w6 ⟨v6, rfl, o6, hl6⟩
        obtain ⟨A6, c6, rfl, hn6, hc6⟩ := own_shape o6
        have hr5 : Rd w6 w6.heap.size (some ⟨gi, 0, none⟩) fl.length (cells fl) := Blk.rd (H5.out.1.below hl6 H5.out.1.lt) (cells_len _)
        have hr6 : Rd w6 w6.heap.size A6 fl.length (cells fl) := Rd.own o6
        have hb6 : Below w.heap.size w w6 := (H3.out.2.2.trans (H5.out.2.1.mono H3.out.2.2.size)).trans (hl6.mono (Nat.le_trans H3.out.2.2.size H5.out.2.1.size))
        have H6 := Lib.hid (And.intro hr5 (And.intro hr6 hb6))
        clear hr5 hr6 hb6 o6 hl6
        go_wp2_with fail
        refine (dksameBytes_yes (some ⟨gi, 0, none⟩) A6 fl.length fl.length c6 fl w6 _ _ H6.out.1 H6.out.2.1 hfl).mono ?_
        rintro e w7 ⟨rfl, d7, rfl⟩
        go_wp2
        go_ret
        exact ⟨rfl, bdr H6.out.2.2 d7⟩
  have hm10 : 10 ≤ m := by omega
  go_wp2_with fail
  refine (format_new2 H3.out.2.1 hm10).mono ?_
  rintro e w4 ⟨l0, F0, rfl, q1, q2, q3, q4, q5, q6⟩
  have hdis : ∀ k, Ext Non wa w2 k → ¬ Ext Non w2 w3 k := fun k h1 h2 => by
    have := H2.out.1.foot k h1
    exact h2.elim (fun h => h) fun h => by omega
  have hr4 : RefAt w4 gr (Ext Non w2 w3) (newS m) := H3.out.1.chg q6 fun k hk hf => hdis k hf hk
  have H4 := Lib.hid (And.intro q1 (And.intro q2 (And.intro q3 (And.intro q4 (And.intro q5 (And.intro q6 hr4))))))
  clear q1 q2 q3 q4 q5 q6 hr4
  go_wp2_with fail
  refine (refFormat_new H4.out.2.2.2.2.2.2 hm10).mono ?_
  rintro e w5 ⟨lr0, G0, rfl, k1, k2, k3, k4, k5, k6⟩
  have H5 := Lib.hid (W2.made (w0 := w) (w2 := w3) H3.out.2.2 H3.out.2.1 H3.out.1 hdis (fun k hk => hk.elim (fun h => h.elim) fun h => Nat.le_trans HL.out.size h.1) (fun k hk => hk.elim (fun h => h.elim) fun h => by have := HL.out.size; have := H2.out.2.size; omega)
    H4.out.1 H4.out.2.1 H4.out.2.2.1 H4.out.2.2.2.1 H4.out.2.2.2.2.1 H4.out.2.2.2.2.2.1 k1 k2 k3 k4 k5 k6)
  clear k1 k2 k3 k4 k5 k6 hdis
  go_wp2_with fail
  go_loopw [9, 10, 11] (fun lv rv iv wr => CaRel cl w g gr m lv rv iv wr) (fun _ _ iv _ => cl.length - (intOf iv).toNat)
  case atStart => exact ⟨0, l0, lr0, F0, G0, ⟨fmtS m, 1, 0, 0, 1⟩, by omega, rfl, rfl, rfl, H5.out, ⟨1, CInv.fmt hm10 hm200⟩⟩
  case round =>
    obtain ⟨i, l, lr, F, G, p, hi, rfl, rfl, rfl, ht, hinv⟩ := hrel
    by_cases hlt : i < cl.length
    · have hi0 : (0 : Int) ≤ (i : Int) := Int.natCast_nonneg _
      have hi1 : (i : Int) < (cl.length : Int) := by omega
      have hci := HC.out.below ht.b (Nat.le_refl _)
      obtain ⟨ad, rfl, _, c0, c1, c2, c3, c4⟩ := hci.at_ hlt
      have hmem := List.getElem_mem hlt
      obtain ⟨x, hx⟩ : ∃ x, x = cl[i]'hlt := ⟨_, rfl⟩
      rw [← hx] at c0 c1 c2 c3 c4 hmem
      have hxn := H20.out x hmem
      have hdl : x.data.length = x.n := by have := (HC.out.rd x hmem).len; rwa [cells_len] at this
      have hxb := HC.out.isb x hmem
      have hxq := HC.out.num x hmem
      have hxw : x.xs.length ≤ 20000 := by have := weighM_len x.xs; omega
      have HX := Lib.hid (And.intro ht (And.intro hinv (And.intro hmem (And.intro HC.out (And.intro hxb.1 (And.intro hdl hxb.2))))))
      have hxn1 : x.n ≤ 20000 := hxn.1
      obtain ⟨wt, hwt⟩ : ∃ wt, wt = x.what := ⟨_, rfl⟩
      rw [← hwt] at c0
      clear ht hinv hci hdl hxb hx hwt
      by_cases hw0 : wt = 0
      · subst hw0
        go_wp2_with fail
        obtain ⟨wc, hwc⟩ : ∃ wc, wc = wr.alloc (.cells #[.int .i64 0, .int .i64 x.keep, .int .i64 x.torn, .slice x.A x.n x.c, .slice x.LA x.xs.length x.lc] 41) := ⟨_, rfl⟩
        have kb : Blk wc wr.heap.size 41 #[.int .i64 0, .int .i64 x.keep, .int .i64 x.torn, .slice x.A x.n x.c, .slice x.LA x.xs.length x.lc] := by rw [hwc]; exact Blk.new _ _ _
        have hlc : Below wr.heap.size wr wc := by rw [hwc]; exact (Below.refl _ _).alloc (Nat.le_refl _) _
        rw [← hwc]
        have HWC := Lib.hid (HX.out.1.below hlc)
        have hbf : Kept wc F G l lr (fun k => k = wr.heap.size) := HX.out.1.fresh hlc (fun k hk => by rw [hk]; exact ⟨Nat.le_refl _, kb.lt⟩)
        have HB := Lib.hid (And.intro kb hbf)
        clear hwc kb hbf hlc c0 c1 c2 c3 c4
        obtain ⟨z, p', hq⟩ : ∃ z p', papp p x.n x.data = (z, p') := ⟨_, _, rfl⟩
        have HI := Lib.hid (HX.out.2.1.app (by omega) (HX.out.2.2.2.2.1) HX.out.2.2.2.2.2.1 hq)
        obtain ⟨f1, f2, f3, f4, f5, f6, f7, f8⟩ := HX.out.2.1.facts (by omega)
        have HQ := Lib.hid hq
        clear hq
        refine (dkcopyBytes_any x.A x.n x.c x.data wc (((HX.out.2.2.2.1.rd x HX.out.2.2.1).below HWC.out.b (Nat.le_refl _)).more HWC.out.b.size) (by omega)).mono ?_
        rintro e w2 ⟨v2, rfl, o2, hb2⟩
        rw [HX.out.2.2.2.2.2.1] at o2
        obtain ⟨A2, c2, rfl, hn2, hc2⟩ := own_shape o2
        have kA : Kept w2 F G l lr (fun k => (Value.slice A2 x.n c2).ownBlock = some k) := HWC.out.fresh hb2 (fun k hk => o2.lt k hk)
        have H2 := Lib.hid (And.intro (HWC.out.below hb2) (And.intro (HB.out.1.below hb2 HB.out.1.lt) (And.intro (HB.out.2.below hb2).1 (And.intro o2 kA))))
        have d3 : w2.cell? ⟨wr.heap.size, 3, none⟩ = some (.slice x.A x.n x.c) := H2.out.2.1.cell 3
        clear o2 hb2 kA
        have hzz : (z != z) = false := by simp
        go_wp2_with fail
        go_region_held3 (fun w' => w'.cell? ⟨wr.heap.size, 3, none⟩ = some (.slice x.A x.n x.c))
          (first | exact HB5.out.cell 3 | exact H4.out.2.1.cell 3 | exact H3.out.2.1.cell 3 | exact d3 | go_keep)
          (first
            | (go_at_call 15; refine (append_q H2.out.1.drew (by omega) f4 f7 ⟨by omega, by omega⟩ A2 x.n c2 x.data (by exact Rd.own H2.out.2.2.2.1) (by omega) HQ.out).mono ?_; rintro e w3 ⟨rfl, hd3, hl3, hc3⟩; have hc3' : Chg (FL F l) w2 w3 := ⟨hc3.os, hc3.tape, hc3.output, hc3.size, hc3.block⟩; have kb3 := H2.out.2.2.1.stepP hc3'; have ka3 := H2.out.2.2.2.2.stepP hc3'; have H3 := Lib.hid (And.intro (H2.out.1.stepP hd3 hl3 hc3') (And.intro (show Blk w3 wr.heap.size 41 _ from (kb3.2 wr.heap.size rfl).trans H2.out.2.1) (And.intro kb3.1 (And.intro (own_keep H2.out.2.2.2.1 ka3.2) ka3.1)))); clear hd3 hl3 hc3 hc3' kb3 ka3)
            | (go_at_call 16; refine (refAppend_q H3.out.1 (by omega) f4 f7 ⟨by omega, by omega⟩ x.A x.n x.c x.data (((HX.out.2.2.2.1.rd x HX.out.2.2.1).below H3.out.1.b (Nat.le_refl _)).more H3.out.1.b.size) (by omega) HQ.out).mono ?_; rintro e w4 ⟨rfl, hd4, hl4, hc4⟩; have kb4 := H3.out.2.2.1.stepR hc4; have ka4 := H3.out.2.2.2.2.stepR hc4; have H4 := Lib.hid (And.intro (H3.out.1.stepR hd4 hl4 hc4) (And.intro (show Blk w4 wr.heap.size 41 _ from (kb4.2 wr.heap.size rfl).trans H3.out.2.1) (And.intro kb4.1 (And.intro (own_keep H3.out.2.2.2.1 ka4.2) ka4.1)))); clear hd4 hl4 hc4 kb4 ka4)
            | (go_at_call 17; refine (dksameBytes_below A2 x.A x.n c2 x.c x.data w4 _ _ (Rd.own H4.out.2.2.2.1) ((HX.out.2.2.2.1.rd x HX.out.2.2.1).below H4.out.1.b (Nat.le_refl _)) (by omega)).mono ?_; rintro e w5 ⟨rfl, hl5⟩; have HB5 := Lib.hid (H4.out.2.1.below hl5 H4.out.2.1.lt); have H5 := Lib.hid (H4.out.1.below hl5); clear hl5))
        clear d3 f1 f2 f3 f4 f5 f6 f7 f8
        obtain ⟨f1, f2, f3, f4, f5, f6, f7, f8⟩ := HI.out.facts (by omega)
        obtain ⟨rm, htl⟩ := H5.out.tail (by omega) f7
        have TL := Lib.hid htl
        clear htl
        obtain ⟨Aw, cw, ew⟩ := H5.out.r.wr_len
        have e1 : ((rm : Int) != (rm : Int)) = false := by simp
        have e2 : (((p').s.wr.length : Int) != ((p').s.wr.length : Int)) = false := by simp
        go_wp2_with fail
        go_quiet (first | (go_at_call 28; exact TL.out.r1 _) | (go_at_call 29; exact TL.out.r2 _) | (go_at_call 30; exact TL.out.r3 _))
        go_wp2
        go_roundw
        case rel => exact ⟨i + 1, l, lr, _, _, p', by omega, by go_num, rfl, rfl, H5.out.drewN _, HI.out⟩
        case measure => simp [intOf]; omega
      by_cases hw1 : wt = 1
      · subst hw1
        go_wp2_with fail
        obtain ⟨wc, hwc⟩ : ∃ wc, wc = wr.alloc (.cells #[.int .i64 1, .int .i64 x.keep, .int .i64 x.torn, .slice x.A x.n x.c, .slice x.LA x.xs.length x.lc] 41) := ⟨_, rfl⟩
        have kb : Blk wc wr.heap.size 41 #[.int .i64 1, .int .i64 x.keep, .int .i64 x.torn, .slice x.A x.n x.c, .slice x.LA x.xs.length x.lc] := by rw [hwc]; exact Blk.new _ _ _
        have hlc : Below wr.heap.size wr wc := by rw [hwc]; exact (Below.refl _ _).alloc (Nat.le_refl _) _
        rw [← hwc]
        have HWC := Lib.hid (HX.out.1.below hlc)
        have hbf : Kept wc F G l lr (fun k => k = wr.heap.size) := HX.out.1.fresh hlc (fun k hk => by rw [hk]; exact ⟨Nat.le_refl _, kb.lt⟩)
        have HB := Lib.hid (And.intro kb hbf)
        clear hwc kb hbf hlc c0 c1 c2 c3 c4
        have HI := Lib.hid (show LInv (i + 1) m ⟨p.s.flush, p.gen, p.area, p.u, p.nx⟩ from by obtain ⟨f, h⟩ := HX.out.2.1; exact ⟨f, h.flush.up⟩)
        refine (wflush_any HWC.out.d HWC.out.lg HWC.out.nf).mono ?_
        rintro e w3 ⟨rfl, hd3, hl3, hc3⟩
        have H3 := Lib.hid (HWC.out.stepP (p' := ⟨p.s.flush, p.gen, p.area, p.u, p.nx⟩) hd3 hl3 (hc3.mono fun k _ hk => .inl hk))
        clear hd3 hl3 hc3
        obtain ⟨g0, g1, g2, g3, g4⟩ := H3.out.rl.c
        go_wp2_with fail
        refine (refFlush_any H3.out.r).mono ?_
        rintro e w4 ⟨rfl, hd4, hc4⟩
        have hl4 := H3.out.rl.chg hc4 H3.out.ng
        have H5 := Lib.hid (H3.out.stepR (q' := ⟨p.s.flush, p.gen, p.area, p.u, p.nx⟩) hd4 hl4 (hc4.mono fun k _ hk => .inl hk))
        clear hd4 hl4 hc4 g0 g1 g2 g3 g4
        obtain ⟨f1, f2, f3, f4, f5, f6, f7, f8⟩ := HI.out.facts (by omega)
        obtain ⟨rm, htl⟩ := H5.out.tail (by omega) f7
        have TL := Lib.hid htl
        clear htl
        obtain ⟨Aw, cw, ew⟩ := H5.out.r.wr_len
        have e1 : ((rm : Int) != (rm : Int)) = false := by simp
        have e2 : ((((⟨p.s.flush, p.gen, p.area, p.u, p.nx⟩ : LgS)).s.wr.length : Int) != (((⟨p.s.flush, p.gen, p.area, p.u, p.nx⟩ : LgS)).s.wr.length : Int)) = false := by simp
        go_wp2_with fail
        go_quiet (first | (go_at_call 28; exact TL.out.r1 _) | (go_at_call 29; exact TL.out.r2 _) | (go_at_call 30; exact TL.out.r3 _))
        go_wp2
        go_roundw
        case rel => exact ⟨i + 1, l, lr, _, _, (⟨p.s.flush, p.gen, p.area, p.u, p.nx⟩ : LgS), by omega, by go_num, rfl, rfl, H5.out.drewN _, HI.out⟩
        case measure => simp [intOf]; omega
      by_cases hw2 : wt = 2
      · subst hw2
        go_wp2_with fail
        obtain ⟨wc, hwc⟩ : ∃ wc, wc = wr.alloc (.cells #[.int .i64 2, .int .i64 x.keep, .int .i64 x.torn, .slice x.A x.n x.c, .slice x.LA x.xs.length x.lc] 41) := ⟨_, rfl⟩
        have kb : Blk wc wr.heap.size 41 #[.int .i64 2, .int .i64 x.keep, .int .i64 x.torn, .slice x.A x.n x.c, .slice x.LA x.xs.length x.lc] := by rw [hwc]; exact Blk.new _ _ _
        have hlc : Below wr.heap.size wr wc := by rw [hwc]; exact (Below.refl _ _).alloc (Nat.le_refl _) _
        rw [← hwc]
        have HWC := Lib.hid (HX.out.1.below hlc)
        have hbf : Kept wc F G l lr (fun k => k = wr.heap.size) := HX.out.1.fresh hlc (fun k hk => by rw [hk]; exact ⟨Nat.le_refl _, kb.lt⟩)
        have HB := Lib.hid (And.intro kb hbf)
        clear hwc kb hbf hlc c0 c1 c2 c3 c4
        obtain ⟨z, p', hq⟩ : ∃ z p', pswi p x.xs = (z, p') := ⟨_, _, rfl⟩
        have hxn2 : ∀ y ∈ x.xs, y.n ≤ 20000 := fun y hy => by have := weigh_mem hy; omega
        have hsl0 := (HX.out.2.2.2.1.sls x HX.out.2.2.1)
        have HI := Lib.hid (HX.out.2.1.swi (by omega) HX.out.2.2.2.2.2.2 (lists_ns hsl0) hq)
        obtain ⟨f1, f2, f3, f4, f5, f6, f7, f8⟩ := HX.out.2.1.facts (by omega)
        have HQ := Lib.hid (And.intro hq (And.intro hxn2 (lists_ns hsl0)))
        clear hq hxn2 hsl0
        refine (copyLists_any x.LA x.lc x.xs wc (((HX.out.2.2.2.1.rdl x HX.out.2.2.1).below HWC.out.b (Nat.le_refl _)).more HWC.out.b.size) (((HX.out.2.2.2.1.sls x HX.out.2.2.1).below HWC.out.b (Nat.le_refl _)).more HWC.out.b.size) HQ.out.2.1 (by omega)).mono ?_
        rintro e w2 ⟨A2, c2, zs, rfl, hzl, o2, hs2, hls2, hfar2, hb2⟩
        have kA : Kept w2 F G l lr (KL A2 x.xs.length c2 zs) := HWC.out.fresh hb2 (fun k hk => by
          rcases hk with hk | ⟨y, hy, h0, ad, e, rfl⟩
          · exact o2.lt k hk
          · obtain ⟨ad', e', hb', _⟩ := (hs2 y hy).1.2 h0
            rw [e] at e'
            obtain rfl := Option.some.inj e'
            exact ⟨hfar2 y hy h0 ad e, hb'⟩)
        have H2 := Lib.hid (And.intro (HWC.out.below hb2) (And.intro (HB.out.1.below hb2 HB.out.1.lt) (And.intro (HB.out.2.below hb2).1 (And.intro (show OwnL w2 A2 x.xs.length c2 zs from ⟨own_base o2 (Nat.zero_le _), hs2⟩) kA))))
        have HZ := Lib.hid (And.intro hzl (And.intro hls2 ((pswi_congr hls2 HQ.out.2.2 (lists_ns hs2)).trans HQ.out.1)))
        have hzlen : zs.length ≤ 100000 := by omega
        have hzn : ∀ y ∈ zs, y.n ≤ 140000000000000 := fun y hy => by
          have h8 := lists_ns hs2 y hy
          have h9 : y.l ∈ lists x.xs := by rw [← hls2]; exact List.mem_map_of_mem hy
          obtain ⟨y', hy', e9⟩ := List.mem_map.1 h9
          have h7 := HQ.out.2.2 y' hy'
          have h6 := HQ.out.2.1 y' hy'
          rw [e9] at h7
          omega
        have d4 : w2.cell? ⟨wr.heap.size, 4, none⟩ = some (.slice x.LA x.xs.length x.lc) := H2.out.2.1.cell 4
        clear o2 hb2 kA hs2 hls2 hfar2 hzl
        have hzz : (z != z) = false := by simp
        go_wp2_with fail
        go_region_held3 (fun w' => w'.cell? ⟨wr.heap.size, 4, none⟩ = some (.slice x.LA x.xs.length x.lc))
          (first | exact HB5.out.cell 4 | exact H4.out.2.1.cell 4 | exact H3.out.2.1.cell 4 | exact d4 | go_keep)
          (first
            | (go_at_call 21; refine (switch_q H2.out.1.drew (by omega) f4 ⟨by omega, by omega⟩ ⟨by omega, by omega⟩ A2 c2 x.xs.length zs HZ.out.1.symm (fun w' hc => by have hc' : Chg (FL F l) w2 w' := ⟨hc.os, hc.tape, hc.output, hc.size, hc.block⟩; have h9 := H2.out.2.2.2.1.keep (H2.out.2.2.2.2.stepP hc').2 hc'.size; rw [HZ.out.1]; exact ⟨Rd.own h9.o, h9.s⟩) hzlen (by omega) HZ.out.2.2).mono ?_; rintro e w3 ⟨rfl, hd3, hl3, hc3⟩; have hc3' : Chg (FL F l) w2 w3 := ⟨hc3.os, hc3.tape, hc3.output, hc3.size, hc3.block⟩; have kb3 := H2.out.2.2.1.stepP hc3'; have ka3 := H2.out.2.2.2.2.stepP hc3'; have H3 := Lib.hid (And.intro (H2.out.1.stepP hd3 hl3 hc3') (And.intro (show Blk w3 wr.heap.size 41 _ from (kb3.2 wr.heap.size rfl).trans H2.out.2.1) (And.intro kb3.1 (And.intro (H2.out.2.2.2.1.keep ka3.2 hc3'.size) ka3.1)))); clear hd3 hl3 hc3 hc3' kb3 ka3)
            | (go_at_call 22; refine (refSwitch_q H3.out.1 (by omega) f4 ⟨by omega, by omega⟩ ⟨by omega, by omega⟩ x.LA x.lc x.xs ((HX.out.2.2.2.1.rdl x HX.out.2.2.1).below H3.out.1.b (Nat.le_refl _)) ((HX.out.2.2.2.1.sls x HX.out.2.2.1).below H3.out.1.b (Nat.le_refl _)) (by omega) (by omega) HQ.out.1).mono ?_; rintro e w4 ⟨rfl, hd4, hl4, hc4⟩; have kb4 := H3.out.2.2.1.stepR hc4; have ka4 := H3.out.2.2.2.2.stepR hc4; have H4 := Lib.hid (And.intro (H3.out.1.stepR hd4 hl4 hc4) (And.intro (show Blk w4 wr.heap.size 41 _ from (kb4.2 wr.heap.size rfl).trans H3.out.2.1) (And.intro kb4.1 (And.intro (H3.out.2.2.2.1.keep ka4.2 hc4.size) ka4.1)))); clear hd4 hl4 hc4 kb4 ka4)
            | (go_at_call 23; refine (sameLists_below A2 x.LA x.xs.length c2 x.lc zs x.xs w4 _ _ _ _ HZ.out.2.1 HZ.out.1.symm (Rd.own H4.out.2.2.2.1.o) ((HX.out.2.2.2.1.rdl x HX.out.2.2.1).below H4.out.1.b (Nat.le_refl _)) H4.out.2.2.2.1.s ((HX.out.2.2.2.1.sls x HX.out.2.2.1).below H4.out.1.b (Nat.le_refl _)) hzn (by omega)).mono ?_; rintro e w5 ⟨rfl, hl5⟩; have HB5 := Lib.hid (H4.out.2.1.below hl5 H4.out.2.1.lt); have H5 := Lib.hid (H4.out.1.below hl5); clear hl5))
        clear d4 f1 f2 f3 f4 f5 f6 f7 f8
        obtain ⟨f1, f2, f3, f4, f5, f6, f7, f8⟩ := HI.out.facts (by omega)
        obtain ⟨rm, htl⟩ := H5.out.tail (by omega) f7
        have TL := Lib.hid htl
        clear htl
        obtain ⟨Aw, cw, ew⟩ := H5.out.r.wr_len
        have e1 : ((rm : Int) != (rm : Int)) = false := by simp
        have e2 : (((p').s.wr.length : Int) != ((p').s.wr.length : Int)) = false := by simp
        go_wp2_with fail
        go_quiet (first | (go_at_call 28; exact TL.out.r1 _) | (go_at_call 29; exact TL.out.r2 _) | (go_at_call 30; exact TL.out.r3 _))
        go_wp2
        go_roundw
        case rel => exact ⟨i + 1, l, lr, _, _, p', by omega, by go_num, rfl, rfl, H5.out.drewN _, HI.out⟩
        case measure => simp [intOf]; omega
      by_cases hw3 : wt = 3
      · subst hw3
        go_wp2_with fail
        obtain ⟨wc, hwc⟩ : ∃ wc, wc = wr.alloc (.cells #[.int .i64 3, .int .i64 x.keep, .int .i64 x.torn, .slice x.A x.n x.c, .slice x.LA x.xs.length x.lc] 41) := ⟨_, rfl⟩
        have kb : Blk wc wr.heap.size 41 #[.int .i64 3, .int .i64 x.keep, .int .i64 x.torn, .slice x.A x.n x.c, .slice x.LA x.xs.length x.lc] := by rw [hwc]; exact Blk.new _ _ _
        have hlc : Below wr.heap.size wr wc := by rw [hwc]; exact (Below.refl _ _).alloc (Nat.le_refl _) _
        rw [← hwc]
        have HWC := Lib.hid (HX.out.1.below hlc)
        have hbf : Kept wc F G l lr (fun k => k = wr.heap.size) := HX.out.1.fresh hlc (fun k hk => by rw [hk]; exact ⟨Nat.le_refl _, kb.lt⟩)
        have HB := Lib.hid (And.intro kb hbf)
        clear hwc kb hbf hlc c0 c1 c2 c3 c4
        obtain ⟨f1, f2, f3, f4, f5, f6, f7, f8⟩ := HX.out.2.1.facts (by omega)
        refine (crash_any HWC.out.d x.keep x.torn).mono ?_
        rintro e w3 ⟨rfl, hd3, hc3⟩
        have hl3 := HWC.out.lg.chg hc3 HWC.out.nf
        obtain ⟨fst, c9, b1, b2, b3, b4, b5, b6, b7, b8⟩ := HX.out.2.1.crash (by omega) HWC.out.d.ok x.keep x.torn hd3.ok
        have hcF : Chg (FL F l) wc w3 := hc3.mono fun k _ hk => .inl hk
        have kb3 := HB.out.2.stepP hcF
        have H3 := Lib.hid (And.intro (HWC.out.stepP (p' := ⟨p.s.crash x.keep x.torn, p.gen, p.area, p.u, p.nx⟩) hd3 hl3 hcF) (And.intro (show Blk w3 wr.heap.size 41 _ from (kb3.2 wr.heap.size rfl).trans HB.out.1) kb3.1))
        have HI := Lib.hid c9
        have HO := Lib.hid (And.intro b1 (And.intro b2 (And.intro b3 (And.intro b4 (And.intro b5 (And.intro b6 (And.intro b7 b8)))))))
        clear hd3 hc3 hl3 hcF kb3 c9 b1 b2 b3 b4 b5 b6 b7 b8
        have g1 : w3.cell? ⟨wr.heap.size, 1, none⟩ = some (.int .i64 x.keep) := H3.out.2.1.cell 1
        have g2 : w3.cell? ⟨wr.heap.size, 2, none⟩ = some (.int .i64 x.torn) := H3.out.2.1.cell 2
        go_wp2_with fail
        refine (refCrash_any H3.out.1.r x.keep x.torn).mono ?_
        rintro e w4 ⟨rfl, hd4, hc4⟩
        have hl4 := H3.out.1.rl.chg hc4 H3.out.1.ng
        have H4 := Lib.hid (H3.out.1.stepR (q' := ⟨p.s.crash x.keep x.torn, p.gen, p.area, p.u, p.nx⟩) hd4 hl4 (hc4.mono fun k _ hk => .inl hk))
        clear hd4 hc4 hl4 g1 g2
        go_wp2_with fail
        refine (open_some H4.out.d HO.out.1 HO.out.2.1 p.gen p.area fst HO.out.2.2.1 HO.out.2.2.2.1 ⟨by have := HO.out.2.2.2.2.1; omega, HO.out.2.2.2.2.1.2⟩ HO.out.2.2.2.2.2.1).mono ?_
        rintro e w5 ⟨l', v5, xs5, rfl, o5, s5, ls5, _, lg5, hlo5, hb5⟩
        have H5 := Lib.hid (And.intro (H4.out.openP (p' := opn p x.keep x.torn fst) hb5 lg5 rfl hlo5) (And.intro (own_base o5 (Nat.zero_le _)) (And.intro s5 (show lists xs5 = opnR p x.keep x.torn fst from ls5))))
        clear o5 s5 ls5 lg5 hlo5 hb5
        go_wp2_with fail
        refine (refOpen_some H5.out.1.r HO.out.1 HO.out.2.1 p.gen p.area fst HO.out.2.2.1 HO.out.2.2.2.1 HO.out.2.2.2.2.1 HO.out.2.2.2.2.2.1).mono ?_
        rintro e w6 ⟨lr', v6, xs6, rfl, o6, s6, ls6, lg6, hlo6, hb6⟩
        have H6 := Lib.hid (And.intro (H5.out.1.openR (q' := opn p x.keep x.torn fst) hb6 lg6 rfl hlo6) (And.intro (own_below H5.out.2.1 hb6 (Nat.le_refl _)) (And.intro ((H5.out.2.2.1.below hb6 (Nat.le_refl _)).more hb6.size) (And.intro (own_base o6 (Nat.zero_le _)) (And.intro s6 (show lists xs6 = opnR p x.keep x.torn fst from ls6))))))
        clear o6 s6 ls6 lg6 hlo6 hb6
        obtain ⟨A5, c5, rfl, _, _⟩ := own_shape H6.out.2.1
        obtain ⟨A6, c6, rfl, _, _⟩ := own_shape H6.out.2.2.2.1
        have hl56 : lists xs5 = lists xs6 := H5.out.2.2.2.trans H6.out.2.2.2.2.2.symm
        have hle6 : xs6.length = xs5.length := by have := congrArg List.length hl56; simp [lists] at this; omega
        have hle5 : xs5.length ≤ 200 := by have h7 := HO.out.2.2.2.2.2.2.1; rw [← H5.out.2.2.2] at h7; simpa [lists] using h7
        rw [hle6] at H6 ⊢
        have HLL := Lib.hid (And.intro hl56 (show ∀ y ∈ xs5, y.n ≤ 140000000000000 from fun y hy => by
          have h7 := lists_ns H6.out.2.2.1 y hy
          have h8 := HO.out.2.2.2.2.2.2.2 y.l (by rw [← H5.out.2.2.2]; exact List.mem_map_of_mem hy)
          omega))
        clear hl56 hle6
        clear f1 f2 f3 f4 f5 f6 f7 f8
        go_wp2_with fail
        refine (sameLists_below A5 A6 xs5.length c5 c6 xs5 xs6 w6 _ _ _ _ HLL.out.1 rfl (Rd.own H6.out.2.1) (Rd.own H6.out.2.2.2.1) H6.out.2.2.1 H6.out.2.2.2.2.1 HLL.out.2 (by omega)).mono ?_
        rintro e w7 ⟨rfl, hl7⟩
        have H7 := Lib.hid (H6.out.1.below hl7)
        clear hl7
        obtain ⟨f1, f2, f3, f4, f5, f6, f7, f8⟩ := HI.out.facts (by omega)
        obtain ⟨rm, htl⟩ := H7.out.tail (by omega) f7
        have TL := Lib.hid htl
        clear htl
        obtain ⟨Aw, cw, ew⟩ := H7.out.r.wr_len
        have e1 : ((rm : Int) != (rm : Int)) = false := by simp
        have e2 : ((((opn p x.keep x.torn fst)).s.wr.length : Int) != (((opn p x.keep x.torn fst)).s.wr.length : Int)) = false := by simp
        go_wp2_with fail
        go_quiet (first | (go_at_call 28; exact TL.out.r1 _) | (go_at_call 29; exact TL.out.r2 _) | (go_at_call 30; exact TL.out.r3 _))
        go_wp2
        go_roundw
        case rel => exact ⟨i + 1, l', lr', _, _, (opn p x.keep x.torn fst), by omega, by go_num, rfl, rfl, H7.out.drewN _, HI.out⟩
        case measure => simp [intOf]; omega
      · have t0 : (wt == 0) = false := by simp [hw0]
        have t1 : (wt == 1) = false := by simp [hw1]
        have t2 : (wt == 2) = false := by simp [hw2]
        have t3 : (wt == 3) = false := by simp [hw3]
        have HI := Lib.hid HX.out.2.1.up
        have hbl : Below wr.heap.size wr (wr.alloc (.cells #[.int .i64 wt, .int .i64 x.keep, .int .i64 x.torn, .slice x.A x.n x.c, .slice x.LA x.xs.length x.lc] 41)) := (Below.refl wr.heap.size wr).alloc (Nat.le_refl _) _
        have H5 := Lib.hid (HX.out.1.below hbl)
        clear hbl
        obtain ⟨f1, f2, f3, f4, f5, f6, f7, f8⟩ := HI.out.facts (by omega)
        obtain ⟨rm, htl⟩ := H5.out.tail (by omega) f7
        have TL := Lib.hid htl
        clear htl
        obtain ⟨Aw, cw, ew⟩ := H5.out.r.wr_len
        have e1 : ((rm : Int) != (rm : Int)) = false := by simp
        have e2 : (((p).s.wr.length : Int) != ((p).s.wr.length : Int)) = false := by simp
        go_wp2_with fail
        go_quiet (first | (go_at_call 28; exact TL.out.r1 _) | (go_at_call 29; exact TL.out.r2 _) | (go_at_call 30; exact TL.out.r3 _))
        go_wp2
        go_roundw
        case rel => exact ⟨i + 1, l, lr, _, _, p, by omega, by go_num, rfl, rfl, H5.out.drewN _, HI.out⟩
        case measure => simp [intOf]; omega
    · obtain rfl : i = cl.length := by omega
      have hlen9 := (hinv.facts (by omega)).1
      have HT := Lib.hid ht
      clear ht hinv
      obtain ⟨fl, hfle⟩ : ∃ fl, fl = p.s.last.flatten := ⟨_, rfl⟩
      have hfl : fl.length ≤ 140000000000000 := by
        rw [hfle]
        have h1 := rows_len (L := p.s.last.map cells) (cells_all _ (fun b hb => HT.out.d.ok.len b hb))
        rw [rows_flat', cells_len, List.length_map] at h1
        omega
      have HFL := Lib.hid hfle
      clear hfle
      go_wp2_with fail
      refine (image_l HT.out.d fl HFL.out).mono ?_
      rintro e w5 ⟨gi, rfl, hbi, _, hl5⟩
      have H5 := Lib.hid (And.intro hbi (And.intro hl5 (HT.out.r.below hl5)))
      clear hbi hl5
      go_wp2_with fail
      refine (refImage_l H5.out.2.2 fl HFL.out).mono ?_
      rintro e w6 ⟨v6, rfl, o6, hl6⟩
      obtain ⟨A6, c6, rfl, hn6, hc6⟩ := own_shape o6
      have hr5 : Rd w6 w6.heap.size (some ⟨gi, 0, none⟩) fl.length (cells fl) := Blk.rd (H5.out.1.below hl6 H5.out.1.lt) (cells_len _)
      have hr6 : Rd w6 w6.heap.size A6 fl.length (cells fl) := Rd.own o6
      have hb6 : Below w.heap.size w w6 := (HT.out.b.trans (H5.out.2.1.mono HT.out.b.size)).trans (hl6.mono (Nat.le_trans HT.out.b.size H5.out.2.1.size))
      have H6 := Lib.hid (And.intro hr5 (And.intro hr6 hb6))
      clear hr5 hr6 hb6 o6 hl6
      go_wp2_with fail
      refine (dksameBytes_yes (some ⟨gi, 0, none⟩) A6 fl.length fl.length c6 fl w6 _ _ H6.out.1 H6.out.2.1 hfl).mono ?_
      rintro e w7 ⟨rfl, d7, rfl⟩
      go_wp2
      go_ret
      exact ⟨rfl, bdr H6.out.2.2 d7⟩

section
open Go.ChangeShapes Go.WideShapes Go.ChangeAt
open Go.ChangeMaps (open_string shut_string)
set_option linter.unusedVariables false
set_option maxRecDepth 100000 in
theorem walCalls_lifted (os : Os) (started : os.Started) (H : Type) (enc : TypeId × Value → H) :
    ReturnsInHanded {} Try.checked os 3 .any (Rows.walCallsSpec.pre6 enc Try.prog Try.f3 Rows.walCallsRow.domain false) (Rows.walCallsSpec.post enc Try.prog Try.f3 false true false false) := by
  refine returnsInHanded_of_change_sized (C := Try.checked) own started (by kernel_rfl) Try.func3
    (ChangeSpec.witness6 (enc := enc) (C := Try.checked) false ⟨#[], #[.int .i64 0, .slice none 0 0], []⟩ 8 (by kernel_rfl) (by kernel_rfl) (by kernel_rfl) (by kernel_rfl)) ?_
  intro W base args ds gs before hval0 hW hcnd hsz _
  have hval : ∀ (j : Nat) t v, Try.f3.params[j]? = some t → args[j]? = some v → Value.okWide Try.prog W .any base t v := hval0
  have hW' := hW
  obtain ⟨p, q, hA0, hV, rfl, hfz, hnd⟩ := hW
  have hA : DataW.TrodAll enc Try.prog W 0 (fun _ => true) true Try.f3.params.toList args.toList ds p := hA0
  rw [Try.params3] at hA hval
  obtain ⟨v0, vs0, d0, ds0, p0, q0, hargs, rfl, rfl, h0, r0⟩ := trodAll_cons hA
  obtain ⟨v1, vs1, d1, ds1, p1, q1, rfl, rfl, rfl, h1, r1⟩ := trodAll_cons r0
  obtain ⟨rfl, rfl, rfl⟩ := trodAll_nil r1
  obtain rfl : args = #[v0, v1] := by cases args; simp_all
  obtain ⟨rfl, rfl⟩ := trodVars_none hV
  have k0 := h0
  have lt0 : ∀ x ∈ p0, x.block < W.heap.size := by obtain ⟨m, hm⟩ := k0; exact DataW.trod_lt m _ _ _ hm
  have k1 := h1
  have lt1 : ∀ x ∈ p1, x.block < W.heap.size := by obtain ⟨m, hm⟩ := k1; exact DataW.trod_lt m _ _ _ hm
  obtain ⟨a0, rfl, rfl, rfl, w0⟩ := open_int Try.underlying3 (hval 0 3 v0 rfl rfl) h0
  obtain ⟨a1, len1, cap1, rfl⟩ := okWide_slice Try.underlying22 (hval 1 22 v1 rfl rfl)
  obtain ⟨z1, rfl, l1, m1, o1, q1x, r1x⟩ := rd_of_calls3 Try.underlying22 Try.underlying41 (by kernel_rfl) ⟨rfl, by kernel_rfl, Try.underlying3⟩ ⟨rfl, by kernel_rfl, Try.underlying3⟩ ⟨rfl, by kernel_rfl, Try.underlying3⟩ ⟨rfl, by kernel_rfl, Try.underlying38⟩ ⟨rfl, by kernel_rfl, Try.underlying39⟩ Try.underlying5 (by kernel_rfl) (by kernel_rfl) h1
  have c1x := CallsIn3.of o1 q1x r1x (fun y hy => by have := List.all_eq_true.1 hsz _ (DataW.weights_mem_each (j := 1) (t := 22) rfl rfl y hy); simpa using this)
  clear hA0 hval0
  refine (walCalls_walk a0 a1 cap1 z1 W (bounds_i64 w0) c1x l1 m1).mono fun e W' ⟨he, bel⟩ => ?_
  subst he
  exact ⟨_, rfl, _, _, _, [], _, [], hW', trodAll_mk1 (shut_bool Try.underlying4 _), (trodAll_cons_mk (Below.trod laidOut (by kernel_rfl) (of_decide_eq_true (by kernel_rfl)) k0 bel lt0) (trodAll_cons_mk (Below.trod laidOut (by kernel_rfl) (of_decide_eq_true (by kernel_rfl)) k1 bel lt1) trodAll_mk0)), rfl, bel.frame _, fun h => by cases h⟩

theorem walCalls_over : Rows.walCallsRow.holds Try.pinned (OpenSpec.ofChange Rows.walCallsSpec) :=
  OpenClaim.holds_of_wide 3 Try.f3 rfl rfl rfl rfl rfl rfl rfl ⟨rfl, rfl, rfl, rfl, rfl⟩ rfl rfl rfl rfl rfl (by kernel_rfl) Try.func3 (by kernel_rfl)
    (of_decide_eq_true (by kernel_rfl)) (by unfold Func.isWrapper; first | (rw [if_pos (by decide +kernel)]; kernel_rfl) | (rw [if_neg (by decide +kernel)]; exact ⟨rfl, rfl⟩))
    (fun os started H enc _ => walCalls_lifted os started H enc)

theorem walCalls_holds : Rows.WalCallsSaid := walCalls_over
end
#print axioms walCalls_holds
end Go.Proofs.Ytehghjakggdnpaa
