/-
  The program's timers: Due.
-/
import Derived.Test.YtcjhkafdfeopfaaTmV
namespace Go.Proofs.Ytcjhkafdfeopfaa
open Go.RowKit Go.Lib Go.Maps

section
variable {B tb : Nat} {D G F : Nat → Prop} {w w' : World} {l : List On}
theorem TI.foot (h : TI B D w tb l) {k : Nat} (hk : D k) : B ≤ k ∧ k < w.heap.size := by
  obtain ⟨mb, E, A, c, n, f, Dm, hX⟩ := h
  exact hX.foot k hk
theorem TI.chg (h : TI B D w tb l) (hc : Chg F w w') (hd : ∀ k, D k → ¬ F k) : TI B D w' tb l := by
  obtain ⟨mb, E, A, c, n, f, Dm, hX⟩ := h
  exact ⟨mb, E, A, c, n, f, Dm, hX.chg hc hd⟩
theorem TI.below (h : TI B D w tb l) (hb : Below w.heap.size w w') : TI B D w' tb l := h.chg (F := Non) (Chg.of_below hb) fun _ _ hf => hf
theorem TI.more (h : TI B D w tb l) (hD : ∀ k, D k → G k) (hf : ∀ k, G k → B ≤ k ∧ k < w.heap.size) : TI B G w tb l := by
  obtain ⟨mb, E, A, c, n, f, Dm, hX⟩ := h
  exact ⟨mb, E, A, c, n, f, Dm, hX.q, hX.m, hX.kp, hX.rel, hX.hp, hX.ok, hX.em, fun k hk => hD k (hX.ed k hk), hD _ hX.md, hf⟩
theorem TI.ok (h : TI B D w tb l) : OkO l := by
  obtain ⟨mb, E, A, c, n, f, Dm, hX⟩ := h
  exact hX.ok
end
/-- within Due: k are told -/
def DuT (B tb : Nat) (D : Nat → Prop) (w : World) (l : List On) (p : Nat) (ov : Value) (wr : World) : Prop :=
  ∃ (k : Nat) (Ao : Option Addr) (co : Nat) (G : Nat → Prop), k ≤ p ∧ ov = .slice Ao k co ∧ TI B G wr tb (l.drop k) ∧ wr.ownsRow w.heap.size 3 1 (.slice Ao k co) k (ids (l.take k)) ∧ Chg D w wr ∧ (∀ q, G q → Ext D w wr q) ∧ ∀ q, (Value.slice Ao k co).ownBlock = some q → ¬ G q
section
variable {B tb : Nat} {D : Nat → Prop} {w : World} {l : List On}
set_option maxRecDepth 100000 in
set_option maxHeartbeats 12800000 in
theorem due_any (now : Int) (h : TI B D w tb l) (hl : l.length ≤ 900000) (hB : B ≤ w.heap.size) : Calls Try.prog 16 #[.pointer (some ⟨tb, 0, none⟩), .int .i64 now] w fun r w' => ∃ A n c, r = .returned (.slice A n c) ∧ n = (dueO now l).length ∧ w'.ownsRow w.heap.size 3 1 (.slice A n c) n (ids (dueO now l)) ∧ TI B (Ext D w w') w' tb (restO now l) ∧ Chg D w w' := by
  obtain ⟨i0, hi, hz0, hz1, hz2⟩ := info_parts Try.infoint
  obtain ⟨p, hp⟩ : ∃ p, p = (dueO now l).length := ⟨_, rfl⟩
  have hpl : p ≤ l.length := by rw [hp]; exact (List.takeWhile_sublist _).length_le
  have hpb : p ≤ 900000 := by omega
  have H0 := Lib.hid (show DuT B tb D w l p (.slice none 0 0) w from ⟨0, none, 0, D, Nat.zero_le _, rfl, h, World.ownsRow_nil _ _ _ _, Chg.refl _ _, fun q hq => .inl hq, fun q hq => by cases hq⟩)
  have HP := Lib.hid (And.intro hp hpl)
  have HL := Lib.hid (And.intro hl (And.intro hB fun k (hk : D k) => h.foot hk))
  clear h hp hpl hl hB
  go_enter Try.func16, Try.ntmps16
  go_wp2_with fail
  go_loopw [5] (fun ov wr => DuT B tb D w l p ov wr) (fun ov _ => p - lenV ov)
  case atStart => exact H0.out
  case round =>
    obtain ⟨k, Ao, co, G, hk, rfl, hT, ho, hch, hG, hna⟩ := hrel
    have HR := Lib.hid (And.intro hT (And.intro ho (And.intro hch (And.intro hG hna))))
    obtain ⟨mb, E, A, c, n, f, Dm, hX⟩ := hT
    have hlen := hX.rel.len
    rw [List.length_drop] at hlen
    have c0 := hX.q.cell0
    have hn0 : (0 : Int) ≤ (n : Int) := Int.natCast_nonneg _
    have hnb : n ≤ 900000 := by have := HL.out.1; omega
    have hfin : k = p → (k = (dueO now l).length ∧ wr.ownsRow w.heap.size 3 1 (.slice Ao k co) k (ids (dueO now l)) ∧ TI B (Ext D w wr) wr tb (restO now l) ∧ Chg D w wr) := by
      intro e
      have h1 := due_take now l
      rw [← HP.out.1, ← e] at h1
      refine ⟨by rw [e]; exact HP.out.1, by rw [← h1.1]; exact HR.out.2.1, ?_, HR.out.2.2.1⟩
      rw [← h1.2]
      have s1 := HR.out.2.2.1.size
      exact HR.out.1.more HR.out.2.2.2.1 fun q hq => hq.elim (fun hq => by have := HL.out.2.2 q hq; omega) fun hq => by have := HL.out.2.1; omega
    have HFIN := Lib.hid hfin
    clear ho hch hG hna hfin
    by_cases hlt : 0 < n
    · have hkl : k < l.length := by omega
      have hlt1 : (0 : Int) < (n : Int) := by omega
      have hltd : decide ((0 : Int) < (n : Int)) = true := decide_eq_true hlt1
      obtain ⟨g, rfl, _, cg⟩ := hX.q.at_ hlt
      have ci := hX.q.i_ hlt
      have ct := hX.q.t_ hlt
      obtain ⟨r, hr⟩ := hX.rel.first hX.ok hX.hp hlt
      have hNi := hX.rel.num 0 hlt
      have hiff := due_at (now := now) l k (by rw [← HP.out.1]; exact hk) hkl
      rw [← HP.out.1] at hiff
      have hdk : l.drop k = l[k] :: l.drop (k + 1) := List.drop_eq_getElem_cons hkl
      have htk : l.take (k + 1) = l.take k ++ [l[k]] := List.take_succ_eq_append_getElem hkl
      have hx : l[k] = (f 0).1 := by rw [hdk] at hr; exact (List.cons.inj hr).1
      rw [hx] at hdk htk hiff
      unfold ptrT at cg
      obtain ⟨b, hb⟩ : ∃ b, b = (f 0).2 := ⟨_, rfl⟩
      obtain ⟨y, hy⟩ : ∃ y, y = (f 0).1 := ⟨_, rfl⟩
      rw [← hb] at cg ci ct
      rw [← hy] at ci ct hdk htk hiff hNi
      have HY := Lib.hid (And.intro hdk (And.intro htk (And.intro hiff hNi)))
      clear hX hr hdk htk hiff hx hb hy hNi
      by_cases h1 : y.t ≤ now
      · have b1 : decide (y.t ≤ now) = true := decide_eq_true h1
        have hgo : k < p := HY.out.2.2.1.2 h1
        have hwl : Below wr.heap.size wr (wr.alloc (.cells #[.int .i64 y.i] 3)) := (Below.refl _ wr).alloc (Nat.le_refl _) _
        clear h1
        go_upto_region 5 with (at_builtin; refine wpList_append_row rfl _ _ 37 rfl w.heap.size 3 i0 (.int .i64 0) 1 8 Try.underlying37 hi hz0 hz1 hz2 rfl (by decide) _ k _ (own_chg HR.out.2.1 (F := Non) ((Chg.refl _ wr).alloc _) fun _ _ hf => hf) (by rfl) (some ⟨wr.heap.size, 0, none⟩) 1 1 [.int .i64 y.i] (by rfl) rfl (fun h => by cases h) (fun ad' had => by cases had; exact World.news_of_block (heap_alloc_new wr _)) (by simp [Value.oneCell']) (by simp [maxLen]; omega) (by omega) (by have := HR.out.2.2.1.size; simp; omega) ?_; intro A5 c5 w5 hR5; have HR5 := Lib.hid hR5; clear hR5)
        have hT5 : TI B G w5 tb (l.drop k) := (HR.out.1.below hwl).chg HR5.out.chg fun q hq hf => HR.out.2.2.2.2 q hf hq
        have hdrop := drop_any y.i hT5 (by rw [List.length_drop]; have := HL.out.1; omega) HY.out.2.2.2
        have HD := Lib.hid (And.intro hT5 hdrop)
        clear hT5 hdrop hwl
        go_wp2_with (go_at_call 11; refine HD.out.2.mono ?_; rintro e w6 ⟨rfl, hT6, hC6⟩; have H6 := Lib.hid (And.intro hT6 hC6); clear hT6 hC6)
        go_roundw
        case rel =>
          have hT5 := HD.out.1
          have s0 := HR.out.2.2.1.size
          have s5 := HR5.out.chg.size
          have s5' : (wr.alloc (.cells #[.int .i64 y.i] 3)).heap.size = wr.heap.size + 1 := by simp
          have s6 := H6.out.2.size
          have hna5 : ∀ q, (Value.slice A5 (k + 1) c5).ownBlock = some q → ¬ G q := fun q hq hg => by
            rcases HR5.out.blk q hq with h9 | h9
            · exact HR.out.2.2.2.2 q h9 hg
            · have := (HR.out.1.foot hg).2
              omega
          have hT6 := H6.out.1
          rw [show dropO y.i (l.drop k) = l.drop (k + 1) by rw [HY.out.1]; exact dropO_head] at hT6
          refine ⟨k + 1, _, _, Ext G w5 w6, by omega, rfl, hT6, ?_, ?_, fun q hq => ?_, fun q hq hg => ?_⟩
          · rw [HY.out.2.1, ids_append]
            exact own_chg HR5.out.own H6.out.2 hna5
          · refine (((HR.out.2.2.1.trans' (G := Non) ((Chg.refl Non wr).alloc _) fun _ _ x => x.elim).trans' HR5.out.chg fun q hq hf => ?_).trans' H6.out.2 fun q hq hf => ?_)
            · have := (HR.out.2.1.lt q hf).1
              omega
            · exact (HR.out.2.2.2.1 q hf).elim id fun hh => by omega
          · rcases hq with hq | hq
            · rcases HR.out.2.2.2.1 q hq with h9 | h9
              · exact .inl h9
              · exact .inr ⟨h9.1, by omega⟩
            · exact .inr ⟨by omega, hq.2⟩
          · rcases hg with hg | hg
            · exact hna5 q hq hg
            · have := (HR5.out.own.lt q hq).2
              omega
        case measure => simp [lenV]; omega
      · have b1 : decide (y.t ≤ now) = false := decide_eq_false h1
        have HE := Lib.hid (HFIN.out (by have : ¬ k < p := fun hh => h1 (HY.out.2.2.1.1 hh); omega))
        go_wp2_with fail
        go_ret
        exact ⟨Ao, k, co, rfl, HE.out⟩
    · have hlt1 : ¬ (0 : Int) < (n : Int) := by omega
      have hltd : decide ((0 : Int) < (n : Int)) = false := decide_eq_false hlt1
      have HE := Lib.hid (HFIN.out (by have := HP.out.2; omega))
      clear hX
      go_wp2_with fail
      go_ret
      exact ⟨Ao, k, co, rfl, HE.out⟩
end
end Go.Proofs.Ytcjhkafdfeopfaa
