/-
  The contracts of records, Open.
-/
import Derived.Test.YtehghjakggdnpaaWNext
import Derived.Test.YtehghjakggdnpaaWHin
import Derived.Test.YtehghjakggdnpaaDkRef
namespace Go.Proofs.Ytehghjakggdnpaa
open Go.RowKit Go.Lib

/-- a row of bytes in memory -/
structure Sl where
  A : Option Addr
  n : Nat
  c : Nat
  l : List Int
def Sl.val (x : Sl) : Value := .slice x.A x.n x.c
/-- rows of bytes in memory; nothing of them lies at or beyond B -/
def SlsIn (w : World) (B : Nat) (xs : List Sl) : Prop := ∀ x ∈ xs, Rd w B x.A x.n (cells x.l) ∧ x.n ≤ x.c ∧ x.c ≤ maxLen
theorem SlsIn.below {w w' : World} {B C : Nat} {xs : List Sl} (h : SlsIn w B xs) (hb : Below C w w') (hC : B ≤ C) : SlsIn w' B xs := fun x hx => ⟨(h x hx).1.below hb hC, (h x hx).2⟩
theorem SlsIn.more {w : World} {B B' : Nat} {xs : List Sl} (h : SlsIn w B xs) (hB : B ≤ B') : SlsIn w B' xs := fun x hx => ⟨(h x hx).1.more hB, (h x hx).2⟩
theorem SlsIn.chg {w w' : World} {B : Nat} {F : Nat → Prop} {xs : List Sl} (h : SlsIn w B xs) (hc : Chg F w w') (hB : B ≤ w.heap.size) (hn : ∀ k, k < B → ¬ F k) : SlsIn w' B xs := fun x hx => ⟨(h x hx).1.chg hc hB hn, (h x hx).2⟩
def vals (xs : List Sl) : List Value := xs.map Sl.val
def lists (xs : List Sl) : List (List Int) := xs.map Sl.l
theorem vals_one (xs : List Sl) : ∀ v ∈ vals xs, v.oneCell' = true := by
  intro v hv
  obtain ⟨x, _, rfl⟩ := List.mem_map.1 hv
  rfl

theorem recsM_none {C : List (List Int)} {fuel k room : Nat} {least : Int} (h : nextRec C k room least = none) : recsM C fuel k room least = ([], 0) := by
  cases fuel with
  | zero => rfl
  | succ f =>
    rw [recsM]
    split
    · rfl
    · rw [h]
theorem recsM_some {C : List (List Int)} {fuel k room : Nat} {least first : Int} {r : List Int} (h0 : room ≠ 0) (h : nextRec C k room least = some (r, first)) :
    recsM C (fuel + 1) k room least = (r :: (recsM C fuel (k + secsOf r.length) (room - secsOf r.length) (first + secsOf r.length)).1, secsOf r.length + (recsM C fuel (k + secsOf r.length) (room - secsOf r.length) (first + secsOf r.length)).2) := by
  rw [recsM, if_neg h0, h]
theorem nextRec_some {C : List (List Int)} {k room : Nat} {least first : Int} {r : List Int} (hC : ∀ b ∈ C, b.length = 64) (hb : AllBytes C) (hk : k + room ≤ C.length) (h : nextRec C k room least = some (r, first)) :
    r.length ≤ 4096 ∧ secsOf r.length ≤ room ∧ 0 ≤ first ∧ first < 4294967296 ∧ least ≤ first ∧ r.length = lenAt (C.getD k []) ∧ first = num4 (C.getD k []) 0 := by
  unfold nextRec at h
  split at h
  · cases h
  · rename_i hno
    split at h
    · injection h with h
      injection h with h1 h2
      have hx := num4_bd (hb.at_ k) 0
      have hl : (bodyM C k (secsOf (lenAt (C.getD k [])))).length = 56 * secsOf (lenAt (C.getD k [])) := bodyM_len hC _ (by omega)
      have hs : 2 + lenAt (C.getD k []) ≤ 56 * secsOf (lenAt (C.getD k [])) := by unfold secsOf; omega
      have hr : r.length = lenAt (C.getD k []) := by rw [← h1, List.length_take, List.length_drop, hl]; omega
      rw [hr]
      exact ⟨by omega, by omega, by omega, by omega, by omega, rfl, h2.symm⟩
    · cases h

theorem Rd.grown {w w' : World} {B n : Nat} {A : Option Addr} {xs : List Value} {row : Option Nat} (h : Rd w B A n xs) (hB : B ≤ w.heap.size) (hg : w.grownBy w' row) (hne : 0 < n → ∀ ad, A = some ad → row ≠ some ad.block) : Rd w' B A n xs :=
  ⟨h.1, fun hn => by
    obtain ⟨ad, e, hb, hc⟩ := h.2 hn
    refine ⟨ad, e, hb, fun j u hu => ?_⟩
    have hbl : w'.heap[(ad.add j).block]? = w.heap[(ad.add j).block]? := hg.block _ (by rw [addr_block]; omega) (by rw [addr_block]; exact fun e2 => hne hn ad e e2.symm)
    exact (World.cell?_of_block hbl).trans (hc j u hu)⟩
theorem Rd.put_far {w : World} {B n : Nat} {A : Option Addr} {xs : List Value} (h : Rd w B A n xs) {p : Addr} (hne : 0 < n → ∀ ad, A = some ad → ad.block ≠ p.block) (u : Value) : Rd (w.setCell p u) B A n xs :=
  ⟨h.1, fun hn => by
    obtain ⟨ad, e, hb, hc⟩ := h.2 hn
    exact ⟨ad, e, hb, fun j v hv => (World.cell?_setCell_other w p (ad.add j) u (fun e2 => hne hn ad e (by have := congrArg Addr.block e2; rw [addr_block] at this; first | exact this | exact this.symm))).trans (hc j v hv)⟩⟩
theorem Chg.then_below {w a b : World} {F : Nat → Prop} (h : Chg F w a) (hb : Below w.heap.size a b) : Chg F w b :=
  ⟨hb.os.trans h.os, hb.tape.trans h.tape, hb.output.trans h.output, Nat.le_trans h.size hb.size, fun k hk hn => (hb.block k hk).trans (h.block k hk hn)⟩
/-- new memory, apart from a row -/
def Far (B : Nat) (own : Option Nat) (xs : List Sl) : Prop := ∀ x ∈ xs, 0 < x.n → ∀ ad, x.A = some ad → B ≤ ad.block ∧ own ≠ some ad.block

/-- what records answers: the records R, m sectors of them -/
def RecsRet (l g : Nat) (gen area next : Int) (u m : Nat) (R : List (List Int)) (w : World) (e : Ending) (w' : World) : Prop :=
  ∃ v xs, e = .returned v ∧ w'.ownsRow w.heap.size 38 1 v xs.length (vals xs) ∧ SlsIn w' w'.heap.size xs ∧ lists xs = R ∧ (∀ x ∈ xs, 0 < x.n → ∀ ad, x.A = some ad → w.heap.size ≤ ad.block) ∧ LogAt w' l g gen area ((u + m : Nat) : Int) next ∧ Chg (fun k => k = l) w w'

def lenV : Value → Nat
  | .slice _ n _ => n
  | _ => 0
def RsRel (l g : Nat) (gen area next : Int) (F : Nat → Prop) (s : DS) (k0 r0 u : Nat) (least0 : Int) (w : World) (vl v : Value) (wr : World) : Prop :=
  ∃ (xs : List Sl) (m U : Nat) (least : Int) (A : Option Addr) (c : Nat), vl = .int .i64 least ∧ v = .slice A xs.length c ∧ U = u + m ∧ m ≤ r0 ∧ xs.length ≤ m ∧ LogAt wr l g gen area (U : Int) next ∧
    wr.ownsRow w.heap.size 38 1 v xs.length (vals xs) ∧ SlsIn wr wr.heap.size xs ∧ Chg (fun k => k = l) w wr ∧ Far w.heap.size v.ownBlock xs ∧
    recsM s.cur (r0 + 1) k0 r0 least0 = (lists xs ++ (recsM s.cur (r0 + 1 - xs.length) (k0 + m) (r0 - m) least).1, m + (recsM s.cur (r0 + 1 - xs.length) (k0 + m) (r0 - m) least).2)

set_option maxRecDepth 100000 in
set_option maxHeartbeats 3200000 in
theorem records_any {w : World} {g l : Nat} {F : Nat → Prop} {s : DS} {gen area next : Int} {u : Nat} (h : DiskAt w g F s) (hl : LogAt w l g gen area u next) (hn : ¬ F l) (hb : AllBytes s.cur) (h2 : 2 ≤ s.last.length) (ha : area = 0 ∨ area = 1) (hu : u ≤ s.half) (least : Int) :
    Calls Try.prog 53 #[.pointer (some ⟨l, 0, none⟩), .int .i64 least] w
      (RecsRet l g gen area next u (recsM s.cur (s.half - u + 1) (2 + area.toNat * s.half + u) (s.half - u) least).2 (recsM s.cur (s.half - u + 1) (2 + area.toNat * s.half + u) (s.half - u) least).1 w) := by
  have hh := h.half_le
  have hlw := hl.lt
  obtain ⟨k0, hk0⟩ : ∃ k0, k0 = 2 + area.toNat * s.half + u := ⟨_, rfl⟩
  obtain ⟨r0, hr0⟩ : ∃ r0, r0 = s.half - u := ⟨_, rfl⟩
  rw [← hk0, ← hr0]
  obtain ⟨R, hR⟩ : ∃ R, R = recsM s.cur (r0 + 1) k0 r0 least := ⟨_, rfl⟩
  rw [← hR]
  have H := Lib.hid (And.intro h (And.intro hl hb))
  have HK := Lib.hid (And.intro hk0 (And.intro hr0 hR))
  obtain ⟨i0, hi, hz0, hz1, hz2⟩ := info_parts Try.info38
  have HI := Lib.hid (And.intro hi (And.intro hz0 (And.intro hz1 hz2)))
  clear h hl hb hk0 hR hi hz0 hz1 hz2
  go_enter Try.func53, Try.ntmps53
  go_wp2_with fail
  go_loopw [1, 5] (fun vl v wr => RsRel l g gen area next F s k0 r0 u least w vl v wr) (fun _ v _ => r0 + 1 - lenV v)
  case atStart => exact ⟨[], 0, u, least, none, 0, rfl, rfl, rfl, by omega, by simp, H.out.2.1, ⟨rfl, .inl ⟨rfl, rfl⟩⟩, fun x hx => by simp at hx, Chg.refl _ _, fun x hx => by simp at hx, by simp [lists]⟩
  case round =>
    obtain ⟨xs, m, U, lst, A, c, rfl, rfl, hU, hm, hxm, hlg, hown, hsl, hchg, hfar, heq⟩ := hrel
    have hdw : DiskAt wr g F s := H.out.1.chg hchg fun k hk e => hn (e ▸ hk)
    obtain ⟨d0, d1, d2, d3, d4⟩ := hlg.c
    have hf3 := hlg.frozen 3
    obtain ⟨rm, hrm⟩ : ∃ rm, rm = r0 - m := ⟨_, rfl⟩
    have hur : U + rm = s.half := by omega
    have hUb : U ≤ 32767 := by omega
    have hrmb : rm ≤ 32767 := by omega
    have HW := Lib.hid (And.intro hlg (And.intro hown (And.intro hsl (And.intro hchg (And.intro heq (And.intro hdw (And.intro hU (And.intro hrm hfar))))))))
    have HUR := Lib.hid hur
    clear hlg hown hsl hchg heq hdw hU hrm hur hfar
    go_wp2_with fail
    refine (room_r rm HW.out.2.2.2.2.2.1 HW.out.1 h2 HUR.out).mono ?_
    rintro e w1 ⟨rfl, p1, rfl⟩
    by_cases hz : rm = 0
    · have hzi : ¬ (0 : Int) < (rm : Int) := by omega
      have hz' : ¬ 0 < rm := by omega
      have HZ := Lib.hid hz
      clear hz
      go_wp2
      go_ret
      obtain ⟨hlg, hown, hsl, hchg, heq, hdw, hU, hrm, hfar⟩ := HW.out
      have hz2 : recsM s.cur (r0 + 1 - xs.length) (k0 + m) (r0 - m) lst = ([], 0) := by
        rw [← hrm, HZ.out]
        cases r0 + 1 - xs.length with
        | zero => rfl
        | succ f => rw [recsM, if_pos rfl]
      rw [hz2] at heq
      rw [HK.out.2.2, heq]
      refine ⟨_, xs, rfl, by exact hown, hsl, by simp, fun x hx h1 ad h2 => (hfar x hx h1 ad h2).1, ?_, hchg.drewN _⟩
      rw [Nat.add_zero, ← hU]
      exact hlg
    · have hz' : 0 < rm := by omega
      obtain ⟨o, ho⟩ : ∃ o, o = nextRec s.cur (k0 + m) rm lst := ⟨_, rfl⟩
      have hkk : 2 + area.toNat * s.half + U = k0 + m := by
        have e1 := HK.out.1
        have e2 := HW.out.2.2.2.2.2.2.1
        omega
      have hrr : s.half - U = rm := by have := HUR.out; omega
      have HO := Lib.hid (And.intro ho (And.intro hkk hrr))
      have hlenC : k0 + m + rm ≤ s.cur.length := by
        rw [cur_len, ← hkk, ← hrr]
        have h3 : 2 + 2 * s.half ≤ s.last.length := by unfold DS.half; omega
        rcases ha with rfl | rfl <;> simp <;> omega
      have HC := Lib.hid hlenC
      clear ho hkk hrr hlenC
      go_wp2_with fail
      refine (next_any (h := by exact HW.out.2.2.2.2.2.1) (hl := by exact HW.out.1) H.out.2.2 h2 ha (by have := HUR.out; omega) lst).mono ?_
      rw [HO.out.2.1, HO.out.2.2, ← HO.out.1]
      rintro e w2 ⟨hl2, hm2⟩
      have hl2' : Below wr.heap.size wr w2 := ⟨hl2.os, hl2.tape, hl2.output, hl2.size, hl2.block⟩
      cases o with
      | none =>
        subst hm2
        have HL2 := Lib.hid hl2'
        clear hl2 hl2'
        go_wp2
        go_ret
        obtain ⟨hlg, hown, hsl, hchg, heq, hdw, hU, hrm, hfar⟩ := HW.out
        rw [recsM_none (k := k0 + m) (room := r0 - m) (least := lst) (by rw [← hrm]; exact HO.out.1.symm)] at heq
        rw [HK.out.2.2, heq]
        refine ⟨_, xs, rfl, own_below hown HL2.out (Nat.le_refl _), (hsl.below HL2.out (Nat.le_refl _)).more HL2.out.size, by simp, fun x hx h1 ad h2 => (hfar x hx h1 ad h2).1, ?_, hchg.trans (Chg.of_below HL2.out)⟩
        rw [Nat.add_zero, ← hU]
        exact hlg.below HL2.out
      | some p =>
        obtain ⟨r, first⟩ := p
        obtain ⟨A2, c2, rfl, hr2, hrc2, hcm2, hnew2⟩ := hm2
        obtain ⟨q1, q2, q3, q4, q5, q6, q7⟩ := nextRec_some (C := s.cur) (lay_all H.out.1.ok.len fun p hp => (H.out.1.ok.wlen p hp).2) H.out.2.2 HC.out HO.out.1.symm
        clear q5 q6 q7
        obtain ⟨need, hne⟩ : ∃ need, need = secsOf r.length := ⟨_, rfl⟩
        obtain ⟨L, hL⟩ : ∃ L, L = r.length := ⟨_, rfl⟩
        have hnb : 1 ≤ need ∧ need ≤ rm := by rw [hne]; exact ⟨by unfold secsOf; omega, q2⟩
        rw [← hL] at q1 hr2 hrc2 ⊢
        have hlg2 := HW.out.1.below hl2'
        have hown2 := own_below HW.out.2.1 hl2' (Nat.le_refl _)
        obtain ⟨d0, d1, d2, d3, d4⟩ := hlg2.c
        have hf3 := hlg2.frozen 3
        have HN := Lib.hid (And.intro hne (And.intro hL (And.intro hr2 (And.intro hrc2 (And.intro hcm2 (And.intro hl2' (And.intro hlg2 (And.intro hown2 hnew2))))))))
        have hsz2 : w.heap.size ≤ w2.heap.size := Nat.le_trans HW.out.2.2.2.1.size hl2'.size
        have hxr : xs.length ≤ 40000 := by omega
        clear hne hL hr2 hrc2 hcm2 hl2 hl2' hlg2 hown2 q2 hnew2
        go_wp2_with (at_builtin; refine wpList_append_lies _ rfl (.tmp 22) (.tmp 24) 39 rfl w.heap.size 38 i0 (.slice none 0 0) 1 24 Try.underlying39 HI.out.1 HI.out.2.1 HI.out.2.2.1 HI.out.2.2.2 rfl (by omega) _ _ _ rfl (by exact HN.out.2.2.2.2.2.2.2.1.alloc _) ⟨w2.heap.size, 0, none⟩ 1 1 [.slice A2 L c2] rfl rfl ?e2 (by simp [Value.oneCell']) (by omega) ?e3 ?e4 ?e5 (w2.heap.size + 1) (World.size_alloc _ _) ?_)
        case e2 =>
          intro j u hu
          rcases j with _ | j
          · obtain rfl := Option.some.inj hu
            exact (Blk.new w2 38 #[.slice A2 L c2]).cell 0
          · simp at hu
        case e3 => unfold maxLen; omega
        case e4 => omega
        case e5 => rw [World.size_alloc]; omega
        intro g3 cap3 w3 ho3 hg3 hat3 hlt3
        have hlw2 : l < w2.heap.size := Nat.lt_of_lt_of_le hlw hsz2
        have hol : (Value.slice A xs.length c).ownBlock ≠ some l := dkown_ne HN.out.2.2.2.2.2.2.2.1 HN.out.2.2.2.2.2.2.1 (by decide)
        have hlg3 : LogAt w3 l g gen area U next := (Blk.alloc HN.out.2.2.2.2.2.2.1 _).grown hg3 hol
        have hgl3 : g3 ≠ l := by
          rcases hat3 with e | e
          · rintro rfl; exact hol e
          · omega
        have hB3 : Below w.heap.size (w2.alloc (.cells #[.slice A2 L c2] 38)) w3 := below_own (HN.out.2.2.2.2.2.2.2.1.alloc _) hg3 (by rw [World.size_alloc]; omega)
        have hb3 : Chg (fun k => k = l) w w3 := ((HW.out.2.2.2.1.trans (Chg.of_below HN.out.2.2.2.2.2.1)).alloc (.cells #[.slice A2 L c2] 38)).then_below hB3
        obtain ⟨d0, d1, d2, d3, d4⟩ := hlg3.c
        have hf3 := hlg3.frozen 3
        have hlA : LogAt (w3.setCell ⟨l, 3, none⟩ (.int .i64 ((U : Int) + (need : Int)))) l g gen area ((U + need : Nat) : Int) next := by
          rw [show ((U + need : Nat) : Int) = (U : Int) + (need : Int) by omega]
          exact Blk.put hlg3 3 _
        have hchA := hb3.setCell (p := ⟨l, 3, none⟩) (fun _ => rfl) (.int .i64 ((U : Int) + (need : Int)))
        have hownA := own_set ho3 (p := ⟨l, 3, none⟩) (by simp [Value.ownBlock]; exact hgl3) (.int .i64 ((U : Int) + (need : Int)))
        have hfr : 0 < L → ∀ ad, A2 = some ad → w.heap.size ≤ ad.block ∧ (Value.slice A xs.length c).ownBlock ≠ some ad.block := fun h0 ad had => by
          have h1 : wr.heap.size ≤ ad.block := HN.out.2.2.2.2.2.2.2.2 ad had
          refine ⟨Nat.le_trans HW.out.2.2.2.1.size h1, fun e => ?_⟩
          have h2 := (HW.out.2.1.lt _ e).1
          have h3 := (HW.out.2.1.lt _ e).2
          omega
        have hcar : ∀ (A' : Option Addr) (n' : Nat) (ys : List Value), Rd w2 w2.heap.size A' n' ys → (0 < n' → ∀ ad, A' = some ad → w.heap.size ≤ ad.block ∧ (Value.slice A xs.length c).ownBlock ≠ some ad.block) →
            Rd (w3.setCell ⟨l, 3, none⟩ (.int .i64 ((U : Int) + (need : Int)))) (w3.setCell ⟨l, 3, none⟩ (.int .i64 ((U : Int) + (need : Int)))).heap.size A' n' ys := fun A' n' ys h1 h2 => by
          have h3 := ((h1.alloc (Nat.le_refl _) (.cells #[.slice A2 L c2] 38)).grown (by rw [World.size_alloc]; omega) hg3 fun h0 ad had => (h2 h0 ad had).2)
          have h4 := h3.put_far (p := ⟨l, 3, none⟩) (fun h0 ad had => by have := (h2 h0 ad had).1; simp only [ne_eq]; omega) (.int .i64 ((U : Int) + (need : Int)))
          exact h4.more (by have e1 := hg3.size; rw [World.size_alloc] at e1; have e2 : (w3.setCell ⟨l, 3, none⟩ (.int .i64 ((U : Int) + (need : Int)))).heap.size = w3.heap.size := by simp [World.setCell]
                            omega)
        have HF : Hid (RsRel l g gen area next F s k0 r0 u least w (.int .i64 (first + (need : Int))) (.slice (some ⟨g3, 0, none⟩) (xs.length + 1) cap3) (w3.setCell ⟨l, 3, none⟩ (.int .i64 ((U : Int) + (need : Int))))) := by
          refine Lib.hid ⟨xs ++ [⟨A2, L, c2, r⟩], m + need, U + need, first + need, some ⟨g3, 0, none⟩, cap3, rfl, by simp, by have := HW.out.2.2.2.2.2.2.1; omega, by have := HW.out.2.2.2.2.2.2.2.1; omega, by simp; omega, hlA, ?_, ?_, hchA, ?_, ?_⟩
          · rw [List.length_append, List.length_singleton, show vals (xs ++ [⟨A2, L, c2, r⟩]) = vals xs ++ [.slice A2 L c2] by simp [vals, Sl.val]]
            exact hownA
          · intro x hx
            rcases List.mem_append.1 hx with hx | hx
            · obtain ⟨h1, h2⟩ := HW.out.2.2.1 x hx
              exact ⟨hcar _ _ _ ((h1.below HN.out.2.2.2.2.2.1 (Nat.le_refl _)).more HN.out.2.2.2.2.2.1.size) (HW.out.2.2.2.2.2.2.2.2 x hx), h2⟩
            · rw [List.mem_singleton.1 hx]
              exact ⟨hcar _ _ _ HN.out.2.2.1 hfr, HN.out.2.2.2.1, HN.out.2.2.2.2.1⟩
          · intro x hx h0 ad had
            rcases List.mem_append.1 hx with hx | hx
            · have h1 := HW.out.2.2.2.2.2.2.2.2 x hx h0 ad had
              refine ⟨h1.1, ?_⟩
              obtain ⟨_, e, hlt, _⟩ := (HW.out.2.2.1 x hx).1.2 h0
              rw [had] at e
              obtain rfl := Option.some.inj e
              rcases hat3 with e | e
              · rw [e] at h1; exact h1.2
              · have := HN.out.2.2.2.2.2.1.size
                simp only [Value.ownBlock, ne_eq, Option.some.injEq]
                omega
            · have hx' := List.mem_singleton.1 hx
              subst hx'
              change A2 = some ad at had
              have h1 := hfr h0 ad had
              refine ⟨h1.1, ?_⟩
              obtain ⟨_, e, hlt, _⟩ := HN.out.2.2.1.2 h0
              rw [had] at e
              obtain rfl := Option.some.inj e
              rcases hat3 with e | e
              · rw [e] at h1; exact h1.2
              · simp only [Value.ownBlock, ne_eq, Option.some.injEq]
                omega
          · have h1 := HW.out.2.2.2.2.1
            have hrm := HW.out.2.2.2.2.2.2.2.1
            have hxm' := hxm
            rw [show r0 + 1 - xs.length = (r0 - xs.length) + 1 by omega, ← hrm, recsM_some (by omega) HO.out.1.symm, ← HN.out.1] at h1
            rw [h1, show (xs ++ [(⟨A2, L, c2, r⟩ : Sl)]).length = xs.length + 1 by simp, show r0 + 1 - (xs.length + 1) = r0 - xs.length by omega, show k0 + (m + need) = k0 + m + need by omega, show r0 - (m + need) = rm - need by omega]
            simp [lists, Nat.add_assoc]
        clear hlA hchA hownA hlg3 hb3 hB3 ho3 hg3 hat3 hcar hfr
        go_wp2_with fail
        refine (sectorsOf_any L (by omega) _).mono ?_
        rw [show (L + 57) / 56 = need from by rw [HN.out.1, ← HN.out.2.1]; rfl]
        rintro e w4 ⟨rfl, rfl⟩
        go_wp2
        go_roundw
        case rel => exact HF.out
        case measure => simp only [lenV]; omega
end Go.Proofs.Ytehghjakggdnpaa
