/-
  What holds behind each call: stamps are small, heads lie whole.
  The invariant of a row of calls on a log.
-/
import Derived.Test.YtehghjakggdnpaaWQc
import Derived.Test.YtehghjakggdnpaaWKeepC
namespace Go.Proofs.Ytehghjakggdnpaa
open Go.RowKit Go.Lib

/-- a sector whose first number is small -/
def LowB (i : Nat) (b : List Int) : Prop := b.getD 1 0 ≤ (i : Int) ∧ b.getD 2 0 = 0 ∧ b.getD 3 0 = 0
theorem LowB.nil (i : Nat) : LowB i [] := ⟨by simp, by simp, by simp⟩
theorem LowB.mono {i j : Nat} {b : List Int} (h : LowB i b) (hij : i ≤ j) : LowB j b := ⟨by have := h.1; omega, h.2⟩
theorem LowB.num {i : Nat} {b : List Int} (h : LowB i b) (hb : IsBytes b) : num4 b 0 ≤ 255 + 256 * (i : Int) := by
  have h0 := hb.at_ 0
  obtain ⟨h1, h2, h3⟩ := h
  unfold num4
  simp only [Nat.zero_add]
  rw [h2, h3]
  omega
theorem secB_low {p : List Int} {x : Int} (hp : p.length ≤ 56) {i : Nat} (hx : 0 ≤ x ∧ x < 256 * ((i : Int) + 1)) (hi : i ≤ 200) : LowB i (secB p x) := by
  have hl := secB_len (x := x) hp
  have h0 := secB_num0 (p := p) (x := x) hp ⟨by omega, by omega⟩
  have hz : ∀ j, j < 4 → (secB p x)[j]? = some ((put4 (zeros.take 4 ++ p ++ zeros.drop (4 + p.length)) 0 x).getD j 0) := by
    intro j hj
    have hpl := padB_len hp
    unfold secB stampL
    have e : ∀ (b : List Int), b.length = 64 → (put4 b 60 x)[j]? = b[j]? := by
      intro b _
      unfold put4
      simp only [putk]
      rw [List.getElem?_set_ne (by omega), List.getElem?_set_ne (by omega), List.getElem?_set_ne (by omega), List.getElem?_set_ne (by omega)]
    rw [e _ (by rw [put4_len]; exact hpl)]
    exact getD_some (by rw [put4_len]; have : (zeros.take 4 ++ p ++ zeros.drop (4 + p.length)).length = 64 := hpl; omega)
  have hpl : (zeros.take 4 ++ p ++ zeros.drop (4 + p.length)).length = 64 := padB_len hp
  have g : ∀ j (v : Int), j < 4 → (put4 (zeros.take 4 ++ p ++ zeros.drop (4 + p.length)) 0 x)[j]? = some v → (secB p x).getD j 0 = v := by
    intro j v hj hv
    rw [List.getD_eq_getElem?_getD, hz j hj, List.getD_eq_getElem?_getD, hv]; rfl
  generalize zeros.take 4 ++ p ++ zeros.drop (4 + p.length) = b at *
  have e1 : (put4 b 0 x)[1]? = some (x / 256 % 256) := by
    unfold put4; simp only [putk]
    rw [List.getElem?_set_ne (by omega), List.getElem?_set_ne (by omega), List.getElem?_set_self (by simp; omega)]
  have e2 : (put4 b 0 x)[2]? = some (x / 65536 % 256) := by
    unfold put4; simp only [putk]
    rw [List.getElem?_set_ne (by omega), List.getElem?_set_self (by simp; omega)]
  have e3 : (put4 b 0 x)[3]? = some (x / 16777216 % 256) := by
    unfold put4; simp only [putk]
    rw [List.getElem?_set_self (by simp; omega)]
  refine ⟨?_, ?_, ?_⟩
  · rw [g 1 _ (by omega) e1]; omega
  · rw [g 2 _ (by omega) e2]; omega
  · rw [g 3 _ (by omega) e3]; omega
theorem tear_getD {a b : List Int} {t : Nat} (hb : t ≤ b.length) (j : Nat) : (tear a b t).getD j 0 = if j < t then b.getD j 0 else a.getD j 0 := by
  unfold tear
  rw [List.getD_eq_getElem?_getD]
  by_cases h : j < t
  · rw [if_pos h, List.getElem?_append_left (by rw [List.length_take]; omega), List.getElem?_take, if_pos h, List.getD_eq_getElem?_getD]
  · rw [if_neg h, List.getElem?_append_right (by rw [List.length_take]; omega), List.getElem?_drop, List.length_take, List.getD_eq_getElem?_getD]
    congr 2; omega
theorem LowB.tear {i t : Nat} {a b : List Int} (ha : LowB i a) (hb : LowB i b) (ht : t ≤ b.length) : LowB i (tear a b t) := by
  unfold LowB
  rw [tear_getD ht, tear_getD ht, tear_getD ht]
  obtain ⟨a1, a2, a3⟩ := ha
  obtain ⟨b1, b2, b3⟩ := hb
  refine ⟨?_, ?_, ?_⟩ <;> split <;> assumption

/-- writes to an area's sectors whose first numbers are small -/
def LowW (i : Nat) (wr : List (Nat × List Int)) : Prop := ∀ p ∈ wr, 2 ≤ p.1 ∧ IsBytes p.2 ∧ LowB i p.2
def LowL (i : Nat) (L : List (List Int)) : Prop := ∀ j, 2 ≤ j → LowB i (L.getD j [])
theorem LowL.mono {i j : Nat} {L : List (List Int)} (h : LowL i L) (hij : i ≤ j) : LowL j L := fun k hk => (h k hk).mono hij
theorem LowW.mono {i j : Nat} {L : List (Nat × List Int)} (h : LowW i L) (hij : i ≤ j) : LowW j L := fun p hp => ⟨(h p hp).1, (h p hp).2.1, (h p hp).2.2.mono hij⟩
theorem LowL.set {i k : Nat} {L : List (List Int)} {b : List Int} (h : LowL i L) (hb : 2 ≤ k → LowB i b) : LowL i (L.set k b) := by
  intro j hj
  by_cases e : k = j
  · subst e
    by_cases hl : k < L.length
    · rw [getD_set_self hl]; exact hb hj
    · rw [List.set_eq_of_length_le (by omega)]; exact h k hj
  · rw [getD_set_ne e]; exact h j hj
theorem LowL.lay {i : Nat} {L : List (List Int)} (h : LowL i L) (wr : List (Nat × List Int)) (hw : LowW i wr) : LowL i (lay L wr) := by
  revert hw
  refine snoc_ind (P := fun wr => LowW i wr → LowL i (Go.Proofs.Ytehghjakggdnpaa.lay L wr)) (fun _ => h) ?_ wr
  intro wr p ih hw
  rw [lay_snoc]
  exact (ih fun q hq => hw q (by simp [hq])).set fun _ => (hw p (by simp)).2.2
theorem lay_head {L : List (List Int)} (wr : List (Nat × List Int)) (hw : ∀ p ∈ wr, 2 ≤ p.1) {j : Nat} (hj : j < 2) : (lay L wr).getD j [] = L.getD j [] := by
  revert hw
  refine snoc_ind (P := fun wr => (∀ p ∈ wr, 2 ≤ p.1) → (lay L wr).getD j [] = L.getD j []) (fun _ => rfl) ?_ wr
  intro wr p ih hw
  rw [lay_snoc, getD_set_ne (by have := hw p (by simp); omega)]
  exact ih fun q hq => hw q (by simp [hq])
theorem great4_low {C : List (List Int)} {i : Nat} (hb : AllBytes C) (h : LowL i C) (m : Nat) : great4 C 2 m ≤ 255 + 256 * (i : Int) := by
  induction m with
  | zero => simp [great4]; omega
  | succ m ih =>
    unfold great4
    have := (h (2 + m) (by omega)).num (hb.at_ _)
    omega
theorem putWs_low {i : Nat} {r : List Int} {sec : Nat} {x : Int} (hs : 2 ≤ sec) (hr : IsBytes r) (hn : r.length ≤ 4096) (m : Nat) (hx : 0 ≤ x ∧ x + m ≤ 256 * ((i : Int) + 1)) (hi : i ≤ 200) : LowW i (putWs (recBody r) sec x (List.range m)) := by
  induction m with
  | zero => intro p hp; simp [putWs] at hp
  | succ m ih =>
    rw [List.range_succ, putWs_snoc, List.length_range]
    intro p hp
    rcases List.mem_append.1 hp with hp | hp
    · exact ih (by omega) p hp
    · rw [List.mem_singleton.1 hp]
      exact ⟨by show 2 ≤ sec + m; omega, secB_is (chunkOf_is (recBody_is hr hn) _) _, secB_low (chunk_len _ _) ⟨by omega, by omega⟩ hi⟩
theorem swWs_low {i : Nat} (R : List (List Int)) : ∀ (sec : Nat) (x : Int), 2 ≤ sec → (∀ r ∈ R, IsBytes r ∧ r.length ≤ 4096) → (0 ≤ x ∧ x + totalM R ≤ 256 * ((i : Int) + 1)) → i ≤ 200 → LowW i (swWs sec x R) := by
  induction R with
  | nil => intro sec x _ _ _ _ p hp; simp [swWs] at hp
  | cons r R ih =>
    intro sec x hs hR hx hi p hp
    simp only [totalM] at hx
    rcases List.mem_append.1 (show p ∈ putWs _ _ _ _ ++ swWs _ _ _ from hp) with hp | hp
    · exact putWs_low hs (hR r (by simp)).1 (hR r (by simp)).2 _ (by omega) hi p hp
    · exact ih _ _ (by omega) (fun q hq => hR q (by simp [hq])) (by omega) hi p hp
end Go.Proofs.Ytehghjakggdnpaa

namespace Go.Proofs.Ytehghjakggdnpaa
open Go.RowKit Go.Lib

theorem headIn_B {C : List (List Int)} {k : Nat} {g a f : Int} (h : C.getD k [] = headB g a f) (hg : 1 ≤ g ∧ g < 2147483648) (hk : g % 2 = k) (ha : a = 0 ∨ a = 1) (hf : 1 ≤ f ∧ f < 4294967296) : headInM C k = some (g, a, f) := by
  have n0 : num4 (headB g a f) 0 = g := by
    unfold num4
    simp only [List.getD_eq_getElem?_getD, Nat.zero_add, hb0, hb1, hb2, hb3, Option.getD_some]
    omega
  have n4 : (headB g a f).getD 4 0 = a := by rw [List.getD_eq_getElem?_getD, hb4]; rfl
  have n5 : num4 (headB g a f) 5 = f := by
    unfold num4
    simp only [List.getD_eq_getElem?_getD, Nat.reduceAdd, hb5, hb6, hb7, hb8, Option.getD_some]
    omega
  unfold headInM
  rw [h]
  show (if _ then _ else _) = _
  rw [n0, n4, n5, if_neg (by omega), if_neg]
  rintro (h1 | h1 | h1)
  · omega
  · omega
  · exact h1 rfl
theorem headIn_congr {C D : List (List Int)} {k : Nat} (h : C.getD k [] = D.getD k []) : headInM C k = headInM D k := by
  unfold headInM; rw [h]

structure CInv (i m : Nat) (s : DS) (gen area : Int) (u : Nat) (next first : Int) : Prop where
  len : s.last.length = m
  m10 : 10 ≤ m
  m200 : m ≤ 200
  isL : AllBytes s.last
  lowL : LowL i s.last
  lowW : LowW i s.wr
  ar : area = 0 ∨ area = 1
  ge : 1 ≤ gen ∧ gen ≤ 1 + (i : Int)
  nxt : 1 ≤ next ∧ next ≤ 256 * ((i : Int) + 1)
  fst : 1 ≤ first ∧ first ≤ 256 * ((i : Int) + 1)
  ul : u ≤ s.half
  few : s.wr.length ≤ 74 * i
  head : s.last.getD (gen % 2).toNat [] = headB gen area first
  other : ∀ k : Nat, k < 2 → (k : Int) ≠ gen % 2 → ∀ g a f, headInM s.last k = some (g, a, f) → g < gen
section
variable {i m : Nat} {s : DS} {gen area next first : Int} {u : Nat}
theorem CInv.half (h : CInv i m s gen area u next first) : s.half = (m - 2) / 2 := by unfold DS.half; rw [h.len]
theorem CInv.half_le (h : CInv i m s gen area u next first) : s.half ≤ 99 := by have := h.half; have := h.m200; omega
theorem CInv.isC (h : CInv i m s gen area u next first) : AllBytes s.cur := lay_is h.isL fun p hp => (h.lowW p hp).2.1
theorem CInv.up (h : CInv i m s gen area u next first) : CInv (i + 1) m s gen area u next first :=
  { h with
    lowL := h.lowL.mono (by omega)
    lowW := h.lowW.mono (by omega)
    ge := by have := h.ge; omega
    nxt := by have := h.nxt; omega
    fst := by have := h.fst; omega
    few := by have := h.few; omega }
/-- which head counts -/
theorem CInv.heads (h : CInv i m s gen area u next first) (hi : i ≤ 100) {C : List (List Int)} (hC : ∀ k, k < 2 → C.getD k [] = s.last.getD k []) : headOfM C = some (gen, area, first) := by
  have hg := h.ge
  have hf := h.fst
  have ho := h.other
  have hh := h.head
  have ha := h.ar
  have e0 : headInM C 0 = headInM s.last 0 := headIn_congr (hC 0 (by omega))
  have e1 : headInM C 1 = headInM s.last 1 := headIn_congr (hC 1 (by omega))
  unfold headOfM
  rw [e0, e1]
  rcases (by omega : gen % 2 = 0 ∨ gen % 2 = 1) with e | e
  · rw [e] at hh
    rw [headIn_B (k := 0) (by simpa using hh) ⟨by omega, by omega⟩ (by omega) ha ⟨by omega, by omega⟩]
    cases h1 : headInM s.last 1 with
    | none => rfl
    | some o =>
      obtain ⟨g, a, f⟩ := o
      have := ho 1 (by omega) (by omega) g a f h1
      simp only [pickH]
      rw [if_neg (by omega)]
  · rw [e] at hh
    rw [headIn_B (C := s.last) (k := 1) (by simpa using hh) ⟨by omega, by omega⟩ (by omega) ha ⟨by omega, by omega⟩]
    cases h1 : headInM s.last 0 with
    | none => rfl
    | some o =>
      obtain ⟨g, a, f⟩ := o
      have := ho 0 (by omega) (by omega) g a f h1
      simp only [pickH]
      rw [if_pos (by omega)]
theorem CInv.fmt (h10 : 10 ≤ m) (h200 : m ≤ 200) : CInv 0 m (fmtS m) 1 0 0 1 1 := by
  have hl : (fmtS m).last = (secs [] m).set 1 (headB 1 0 1) := rfl
  have hz : ∀ j, LowB 0 ((secs [] m).getD j []) := by
    intro j
    rw [secs_nil]
    rw [List.getD_eq_getElem?_getD, List.getElem?_replicate]
    split
    · exact ⟨by decide, by decide, by decide⟩
    · exact LowB.nil 0
  have hlen : (secs [] m).length = m := secs_len [] m
  refine ⟨fmtS_len m, h10, h200, ?_, ?_, fun p hp => (by cases hp), .inl rfl, by omega, by omega, by omega, by omega, by show 0 ≤ _; omega, ?_, ?_⟩
  · have := (show AllBytes (lay (newS m).last [(1, headB 1 0 1)]) from lay_is (newS_bytes m) fun p hp => by
      rw [List.mem_singleton.1 hp]; exact headB_is (by omega) (by omega) (by omega))
    exact this
  · rw [hl]
    exact LowL.set (fun j _ => hz j) fun h => by omega
  · rw [hl]
    exact getD_set_self (by omega)
  · intro k hk hne g a f hh
    have : k = 0 := by omega
    subst this
    exfalso
    have e : (fmtS m).last.getD 0 [] = zeros := by
      rw [hl, getD_set_ne (by omega), secs_nil, List.getD_eq_getElem?_getD, List.getElem?_replicate, if_pos (by omega)]
      rfl
    rw [headInM_zero e] at hh
    cases hh
theorem CInv.app (h : CInv i m s gen area u next first) (hi : i ≤ 100) {r : List Int} (hr : IsBytes r) (hn : r.length ≤ 4096) (hf : ¬ isFull s u r.length next) :
    CInv (i + 1) m (appS s area u next r) gen area (u + secsOf r.length) (next + (secsOf r.length : Nat)) first := by
  have hs : secsOf r.length ≤ 74 := by unfold secsOf; omega
  have hx := h.nxt
  unfold isFull at hf
  have hu := h.ul
  refine { h.up with lowW := ?_, nxt := by omega, ul := ?_, few := ?_ }
  · intro p hp
    rcases List.mem_append.1 hp with hp | hp
    · exact h.up.lowW p hp
    · exact putWs_low (by omega) hr hn _ (by omega) (by omega) p hp
  · show u + secsOf r.length ≤ s.half
    omega
  · have := h.few
    rw [appS_wr]; omega
theorem CInv.flush (h : CInv i m s gen area u next first) : CInv i m s.flush gen area u next first := by
  have hl : s.flush.last = lay s.last s.wr := rfl
  have hh : ∀ k, k < 2 → (lay s.last s.wr).getD k [] = s.last.getD k [] := fun k hk => lay_head s.wr (fun p hp => (h.lowW p hp).1) hk
  refine { h with len := by rw [hl, lay_len]; exact h.len, isL := h.isC, lowL := h.lowL.lay _ h.lowW, lowW := fun p hp => (by cases hp), ul := ?_, few := by show 0 ≤ _; omega, head := ?_, other := ?_ }
  · have := h.ul; unfold DS.half at this ⊢; rw [hl, lay_len]; exact this
  · rw [hl, hh _ (by omega)]; exact h.head
  · intro k hk hne g a f hx
    rw [headIn_congr (show s.flush.last.getD k [] = s.last.getD k [] from hh k hk)] at hx
    exact h.other k hk hne g a f hx
theorem CInv.switch (h : CInv i m s gen area u next first) (hi : i ≤ 100) {R : List (List Int)} (hR : ∀ r ∈ R, IsBytes r ∧ r.length ≤ 4096) (hf : ¬ swFull s (totalM R) gen next) :
    CInv (i + 1) m (swS s area gen next R) (gen + 1) (1 - area) (totalM R) (next + (totalM R : Nat)) next := by
  have hx := h.nxt
  have hg := h.ge
  have hh := h.half_le
  have ha := h.ar
  have hm := h.m10
  unfold swFull at hf
  obtain ⟨s1, hs1⟩ : ∃ s1 : DS, s1 = (⟨s.last, s.wr ++ swWs (2 + (1 - area).toNat * s.half) next R⟩ : DS).flush := ⟨_, rfl⟩
  have hw : LowW (i + 1) (s.wr ++ swWs (2 + (1 - area).toNat * s.half) next R) := by
    intro p hp
    rcases List.mem_append.1 hp with hp | hp
    · exact h.up.lowW p hp
    · exact swWs_low R _ _ (by omega) hR (by push_cast; omega) (by omega) p hp
  have h1 : CInv (i + 1) m s1 gen area u next first := by
    rw [hs1]
    have hl : (⟨s.last, s.wr ++ swWs (2 + (1 - area).toNat * s.half) next R⟩ : DS).flush.last = lay s.last (s.wr ++ swWs (2 + (1 - area).toNat * s.half) next R) := rfl
    have hd : ∀ k, k < 2 → (lay s.last (s.wr ++ swWs (2 + (1 - area).toNat * s.half) next R)).getD k [] = s.last.getD k [] := fun k hk => lay_head _ (fun p hp => (hw p hp).1) hk
    refine { h.up with len := by rw [hl, lay_len]; exact h.len, isL := lay_is h.isL fun p hp => (hw p hp).2.1, lowL := h.up.lowL.lay _ hw, lowW := fun p hp => (by cases hp), ul := ?_, few := by show 0 ≤ _; omega, head := ?_, other := ?_ }
    · show u ≤ ((lay s.last _).length - 2) / 2
      rw [lay_len]
      exact h.ul
    · rw [hl, hd _ (by omega)]; exact h.head
    · intro k hk hne g a f hx
      rw [headIn_congr (show (⟨s.last, s.wr ++ swWs (2 + (1 - area).toNat * s.half) next R⟩ : DS).flush.last.getD k [] = s.last.getD k [] from hd k hk)] at hx
      exact h.other k hk hne g a f hx
  have hsw : swS s area gen next R = (s1.write ((gen + 1) % 2).toNat (headB (gen + 1) (1 - area) next)).flush := by rw [hs1]; rfl
  rw [hsw]
  have hw1 : s1.wr = [] := by rw [hs1]; rfl
  have hl : (s1.write ((gen + 1) % 2).toNat (headB (gen + 1) (1 - area) next)).flush.last = s1.last.set ((gen + 1) % 2).toNat (headB (gen + 1) (1 - area) next) := by
    show lay s1.last (s1.wr ++ _) = _
    rw [hw1]; rfl
  have hlen := h1.len
  have hhalf : s1.half = s.half := by rw [h1.half, h.half]
  refine ⟨by rw [hl, List.length_set]; exact hlen, h.m10, h.m200, ?_, ?_, fun p hp => (by cases hp), by omega, by omega, by omega, by omega, ?_, by show 0 ≤ _; omega, ?_, ?_⟩
  · rw [hl]
    intro b hb
    rcases List.mem_or_eq_of_mem_set hb with hb | rfl
    · exact h1.isL b hb
    · exact headB_is (by omega) (by omega) (by omega)
  · rw [hl]
    exact h1.lowL.set fun h => by omega
  · show totalM R ≤ DS.half _
    unfold DS.half
    rw [hl, List.length_set]
    show totalM R ≤ s1.half
    rw [hhalf]; omega
  · rw [hl]
    exact getD_set_self (by omega)
  · intro k hk hne g a f hx
    rw [hl, headIn_congr (show (s1.last.set ((gen + 1) % 2).toNat (headB (gen + 1) (1 - area) next)).getD k [] = s1.last.getD k [] from getD_set_ne (by omega))] at hx
    have hkg : (k : Int) = gen % 2 := by omega
    have hd := h1.head
    rw [show (gen % 2).toNat = k by omega] at hd
    have hf := h.fst
    rw [headIn_B hd ⟨by omega, by omega⟩ (by omega) ha ⟨by omega, by omega⟩] at hx
    injection hx with hx
    injection hx with hx
    omega
/-- a crash, and the log that is opened then -/
theorem CInv.crash (h : CInv i m s gen area u next first) (ok : s.Ok) (keep torn : Int) {u' : Nat} (hu' : u' ≤ s.half) :
    CInv i m (s.crash keep torn) gen area u' (nextM (s.crash keep torn) first) first ∧ (s.crash keep torn).wr = [] ∧ (s.crash keep torn).half = s.half := by
  have main : ∃ L, s.crash keep torn = ⟨L, []⟩ ∧ L.length = m ∧ AllBytes L ∧ LowL i L ∧ ∀ k, k < 2 → L.getD k [] = s.last.getD k [] := by
    obtain ⟨k, hk⟩ : ∃ k, k = clampN keep s.wr.length := ⟨_, rfl⟩
    have hw : LowW i (s.wr.take k) := fun p hp => h.lowW p (List.mem_of_mem_take hp)
    have hll := h.lowL.lay _ hw
    have his : AllBytes (lay s.last (s.wr.take k)) := lay_is h.isL fun p hp => (hw p hp).2.1
    have hhd : ∀ j, j < 2 → (lay s.last (s.wr.take k)).getD j [] = s.last.getD j [] := fun j hj => lay_head _ (fun p hp => (hw p hp).1) hj
    have hln : (lay s.last (s.wr.take k)).length = m := by rw [lay_len]; exact h.len
    by_cases hlt : k < s.wr.length
    · have hp := h.lowW s.wr[k] (List.getElem_mem _)
      have hp2 := ok.wlen s.wr[k] (List.getElem_mem _)
      refine ⟨_, crash_at hk hlt, by rw [List.length_set]; exact hln, ?_, ?_, ?_⟩
      · intro b hb
        rcases List.mem_or_eq_of_mem_set hb with hb | rfl
        · exact his b hb
        · exact tear_is (his.at_ _) hp.2.1 _
      · exact hll.set fun h2 => (hll _ h2).tear hp.2.2 (by rw [hp2.2]; exact clamp_le _ _)
      · intro j hj
        rw [getD_set_ne (by have := hp.1; omega)]
        exact hhd j hj
    · exact ⟨_, crash_all hk hlt, hln, his, hll, hhd⟩
  obtain ⟨L, e, h1, h2, h3, h4⟩ := main
  rw [e]
  have hhf : (⟨L, []⟩ : DS).half = s.half := by unfold DS.half; show (L.length - 2) / 2 = _; rw [h1, h.len]
  refine ⟨⟨h1, h.m10, h.m200, h2, h3, fun p hp => (by cases hp), h.ar, h.ge, ?_, h.fst, by rw [hhf]; exact hu', by show 0 ≤ _; omega, ?_, ?_⟩, rfl, hhf⟩
  · have hg := great4_low (C := (⟨L, []⟩ : DS).cur) h2 h3 (2 * (⟨L, []⟩ : DS).half)
    have hg0 := (great4_bd (C := (⟨L, []⟩ : DS).cur) h2 2 (2 * (⟨L, []⟩ : DS).half)).1
    have hf := h.fst
    unfold nextM
    split <;> omega
  · rw [h4 _ (by omega)]; exact h.head
  · intro k hk hne g a f hx
    rw [headIn_congr (h4 k hk)] at hx
    exact h.other k hk hne g a f hx
end
theorem recs_le {C : List (List Int)} (hC : ∀ b ∈ C, b.length = 64) (hb : AllBytes C) : ∀ (fuel k room : Nat) (least : Int), k + room ≤ C.length → (recsM C fuel k room least).2 ≤ room := by
  intro fuel
  induction fuel with
  | zero => intro k room least _; simp [recsM]
  | succ f ih =>
    intro k room least hk
    unfold recsM
    split
    · simp
    · cases hn : nextRec C k room least with
      | none => simp
      | some x =>
        obtain ⟨r, first⟩ := x
        obtain ⟨_, q2, _⟩ := nextRec_some hC hb hk hn
        have := ih (k + secsOf r.length) (room - secsOf r.length) (first + secsOf r.length) (by omega)
        simp only
        omega
end Go.Proofs.Ytehghjakggdnpaa
