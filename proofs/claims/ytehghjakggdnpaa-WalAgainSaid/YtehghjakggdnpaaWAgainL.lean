/-
  A log of the call's own that goes on behind crashes, in memory.
-/
import Derived.Test.YtehghjakggdnpaaWAgainC
import Derived.Test.YtehghjakggdnpaaWAlive
import Derived.Test.YtehghjakggdnpaaWSameL
namespace Go.Proofs.Ytehghjakggdnpaa
open Go.RowKit Go.Lib

theorem rd_ne_log {w : World} {B n g l : Nat} {gen area used next : Int} {A : Option Addr} {b : List Int} (hr : Rd w B A n (cells b)) (h0 : 0 < n) (hl : LogAt w l g gen area used next) : ∀ ad, A = some ad → ad.block ≠ l := by
  intro ad had e
  obtain ⟨ad', u, e1, _, hu, hc⟩ := hr.at_ (k := 0) h0
  rw [had] at e1
  obtain rfl := Option.some.inj e1
  have h1 : w.heap[ad.block]? = some (.cells #[.pointer (some ⟨g, 0, none⟩), .int .i64 gen, .int .i64 area, .int .i64 used, .int .i64 next] 71) := by rw [e]; exact hl
  have hu2 : ∃ y, u = .int .u8 y := by
    unfold cells at hu
    rw [List.getElem?_map] at hu
    cases hb : b[0]? with
    | none => rw [hb] at hu; simp at hu
    | some y => rw [hb] at hu; exact ⟨y, (Option.some.inj hu).symm⟩
  obtain ⟨y, rfl⟩ := hu2
  simp only [Addr.add, if_pos, World.cell?, h1] at hc
  split at hc
  · cases hc
  · rcases ad with ⟨bl, off, sp⟩
    simp only at hc
    rcases off with _ | _ | _ | _ | _ | off <;> simp at hc

/-- rows in memory that the disk and the log have no part in -/
def Keeps (w wr : World) (F : Nat → Prop) (l : Nat) (v : Value) (ws : List Sl) : Prop :=
  wr.ownsRow w.heap.size 38 1 v ws.length (vals ws) ∧ (∀ b, v.ownBlock = some b → ¬ F b) ∧ (∀ x ∈ ws, Rd wr wr.heap.size x.A x.n (cells x.l) ∧ x.n ≤ x.c ∧ x.c ≤ maxLen ∧ (0 < x.n → ∀ ad, x.A = some ad → ¬ F ad.block))
section
variable {w wr w' : World} {g l : Nat} {F : Nat → Prop} {v : Value} {ws : List Sl} {gen area used next : Int}
theorem Keeps.chg (h : Keeps w wr F l v ws) (hl : LogAt wr l g gen area used next) (hc : Chg (FL F l) wr w') : Keeps w w' (Ext F wr w') l v ws := by
  obtain ⟨h1, h2, h3⟩ := h
  refine ⟨own_chg h1 hc fun k hk hf => hf.elim (h2 k hk) fun e => dkown_ne h1 hl (by decide) (by rw [hk, e]), fun b hb hf => hf.elim (h2 b hb) fun e => by have := (h1.lt b hb).2; omega, ?_⟩
  intro x hx
  obtain ⟨r1, r2, r3, r4⟩ := h3 x hx
  have hlt : 0 < x.n → ∀ ad, x.A = some ad → ad.block < wr.heap.size := fun h0 ad had => by
    obtain ⟨ad', e, hb, _⟩ := r1.2 h0
    rw [had] at e
    obtain rfl := Option.some.inj e
    exact hb
  refine ⟨⟨r1.1, fun h0 => ?_⟩, r2, r3, fun h0 ad had hf => hf.elim (r4 h0 ad had) fun e => by have := hlt h0 ad had; omega⟩
  obtain ⟨ad, e, hb, hcell⟩ := r1.2 h0
  refine ⟨ad, e, Nat.lt_of_lt_of_le hb hc.size, fun j u hu => ?_⟩
  have hbl : ¬ FL F l (ad.add j).block := by
    rw [addr_block]
    exact fun hf => hf.elim (r4 h0 ad e) fun e2 => rd_ne_log r1 h0 hl ad e e2
  exact (hc.cell (by rw [addr_block]; exact hb) hbl).trans (hcell j u hu)
theorem Keeps.sls (h : Keeps w wr F l v ws) : SlsIn wr wr.heap.size ws := fun x hx => ⟨(h.2.2 x hx).1, (h.2.2 x hx).2.1, (h.2.2 x hx).2.2.1⟩

/-- the log has the records W; nothing waits -/
def ASt (w wr : World) (g l B : Nat) (W : List (List Int)) (v : Value) (ws : List Sl) : Prop :=
  ∃ F s, s.wr = [] ∧ WLive w wr g l F s 1 0 ((totalM W : Nat) : Int) (gr s.last + 1) ∧ AgInv s.last W B ∧ Keeps w wr F l v ws
/-- a record more waits, or is flushed -/
def AMid (w wr : World) (g l B : Nat) (W : List (List Int)) (r : List Int) (fl : Bool) (v : Value) (ws : List Sl) : Prop :=
  ∃ F s u x, s.wr = [] ∧ WLive w wr g l F (if fl then (appS s 0 (totalM W) (gr s.last + 1) r).flush else appS s 0 (totalM W) (gr s.last + 1) r) 1 0 u x ∧ AgInv s.last W B ∧ (∀ b ∈ s.last, b.length = 64) ∧ Keeps w wr F l v ws
/-- behind a crash -/
def ACr (w wr : World) (g l B : Nat) (W : List (List Int)) (v : Value) (ws : List Sl) : Prop :=
  ∃ F s u x, s.wr = [] ∧ WLive w wr g l F s 1 0 u x ∧ AgInv s.last W B ∧ Keeps w wr F l v ws
theorem AgInv.half {s : DS} {W : List (List Int)} {B : Nat} (h : AgInv s.last W B) : s.half = 199 := by unfold DS.half; rw [h.len]
theorem ast_append {B : Nat} {W : List (List Int)} (h : ASt w wr g l B W v ws) (A : Option Addr) (n c : Nat) (r : List Int) (hr : Rd wr wr.heap.size A n (cells r)) (hn : n ≤ 4096) (hB : B + secsOf n < 190) :
    Calls Try.prog 15 #[.pointer (some ⟨l, 0, none⟩), .slice A n c] wr fun e w' => e = .returned (.int .i64 0) ∧ AMid w w' g l B W r false v ws := by
  obtain ⟨F, s, hw, hlv, hi, hk⟩ := h
  have hfew := hi.few
  have hbig := hi.big
  have h0 : 0 ≤ gr s.last := (great4_bd hi.is 2 398).1
  refine (append_ok hlv.d hlv.lg hlv.nf (by rw [hi.len]; omega) (.inl rfl) (by rw [hi.half]; omega) ⟨by omega, by omega⟩ A n c r hr hn (by unfold isFull; rw [hi.half]; omega) (by rw [hw]; simp)).mono ?_
  rintro e w' ⟨a, hd, hl, hc⟩
  exact ⟨a, _, s, _, _, hw, hlv.step hd hl hc, hi, hlv.d.ok.len, hk.chg hlv.lg hc⟩
theorem ast_flush {B : Nat} {W : List (List Int)} {r : List Int} (h : AMid w wr g l B W r false v ws) :
    Calls Try.prog 18 #[.pointer (some ⟨l, 0, none⟩)] wr fun e w' => e = .returned (.tuple #[]) ∧ AMid w w' g l B W r true v ws := by
  obtain ⟨F, s, u, x, hw, hlv, hi, h64, hk⟩ := h
  refine (wflush_any hlv.d hlv.lg hlv.nf).mono ?_
  rintro e w' ⟨a, hd, hl, hc⟩
  exact ⟨a, _, s, u, x, hw, hlv.stepF hd hc, hi, h64, hk.chg hlv.lg (hc.mono fun k _ hk => .inl hk)⟩
theorem ast_crash {B : Nat} {W : List (List Int)} {r : List Int} {fl : Bool} (h : AMid w wr g l B W r fl v ws) (hr : IsBytes r ∧ r.length ≤ 4096) (hB : B + secsOf r.length < 190) (keep torn : Int) :
    Calls Try.prog 24 #[.pointer (some ⟨g, 0, none⟩), .int .i64 keep, .int .i64 torn] wr fun e w' => e = .returned (.tuple #[]) ∧ (ACr w w' g l (B + secsOf r.length) (W ++ [r]) v ws ∨ (fl = false ∧ ACr w w' g l (B + secsOf r.length) W v ws)) := by
  obtain ⟨F, s, u, x, hw, hlv, hi, h64, hk⟩ := h
  have hfew := hi.few
  refine (crash_any hlv.d keep torn).mono ?_
  rintro e w' ⟨a, hd, hc⟩
  have hk' := hk.chg hlv.lg (hc.mono fun k _ hk => .inl hk)
  have hlv' := hlv.stepF hd hc
  refine ⟨a, ?_⟩
  cases fl with
  | true =>
    have h1 := (app_flush hw hi hr (by omega) keep torn).inv hi hr.2 (by omega) (by omega)
    rw [if_pos rfl] at h1
    exact .inl ⟨_, _, u, x, rfl, hlv', h1, hk'⟩
  | false =>
    obtain ⟨k, hk0⟩ := app_crash hw hi h64 hr (by omega) (by omega) keep torn
    have h1 := hk0.inv hi hr.2 (by omega) (by omega)
    by_cases he : k = secsOf r.length
    · rw [if_pos he] at h1
      exact .inl ⟨_, _, u, x, rfl, hlv', h1, hk'⟩
    · rw [if_neg he] at h1
      exact .inr ⟨rfl, _, _, u, x, rfl, hlv', h1, hk'⟩
/-- what is opened: the log, its records, and what was there -/
def AOp (w : World) (g B : Nat) (W : List (List Int)) (v : Value) (ws : List Sl) (e : Ending) (w' : World) : Prop :=
  ∃ l2 b2 c2 rs, e = .returned (.tuple #[.pointer (some ⟨l2, 0, none⟩), .slice b2 rs.length c2, .int .i64 0]) ∧ lists rs = W ∧ ASt w w' g l2 B W (.slice b2 rs.length c2) rs ∧ w'.ownsRow w.heap.size 38 1 v ws.length (vals ws) ∧ SlsIn w' w'.heap.size ws ∧ Below w.heap.size w w'
theorem ast_open {B : Nat} {W : List (List Int)} (h : ACr w wr g l B W v ws) : Calls Try.prog 26 #[.pointer (some ⟨g, 0, none⟩)] wr (AOp w g B W v ws) := by
  obtain ⟨F, s, u, x, hw, hlv, hi, hk⟩ := h
  have hcur : s.cur = s.last := by unfold DS.cur; rw [hw]; rfl
  have hhead : headOfM s.cur = some (1, 0, 1) := by
    rw [hcur]; unfold headOfM
    rw [headInM_zero hi.h0, headInM_one hi.h1]
    rfl
  obtain ⟨least, _, hp, hno⟩ := hi.pre
  have hrec := recs_pre (fuel := 200) hp hno (by omega)
  have h0 : 0 ≤ gr s.last := (great4_bd hi.is 2 398).1
  have ho1 := open_some hlv.d (by rw [hcur]; exact hi.is) (by rw [hi.len]; omega) 1 0 1 hhead (.inl rfl) (by omega) (by omega)
  have hnx : nextM s 1 = gr s.last + 1 := by
    have e : great4 s.cur 2 (2 * s.half) = gr s.last := by rw [hcur, hi.half]; rfl
    unfold nextM
    rw [e, if_neg (by omega)]
  have hre : recsM s.cur (s.half + 1) (2 + (0 : Int).toNat * s.half) s.half 1 = (W, totalM W) := by
    rw [hcur, hi.half]; exact hrec
  rw [hnx, hre] at ho1
  refine ho1.mono ?_
  rintro e w' ⟨l2, v2, rs, a, hor, hs, hls, hfar, hl2, hge, hb2⟩
  obtain ⟨A2, c2, rfl⟩ : ∃ A2 c2, v2 = .slice A2 rs.length c2 := by
    rcases hor.2 with ⟨e1, hz⟩ | ⟨g3, cap, _, e1, _⟩
    · exact ⟨none, 0, by rw [e1, hz]⟩
    · exact ⟨_, _, e1⟩
  have hfoot := hlv.d.foot
  have hsz := hlv.b.size
  refine ⟨l2, A2, c2, rs, a, hls, ⟨F, s, hw, ⟨hlv.d.below hb2, hl2, fun hf => by have := hfoot _ hf; omega, hlv.lo, by omega, hlv.b.trans (hb2.mono hsz)⟩, hi, own_to hor (fun k hk => by have := (hor.lt k hk).1; omega), fun b hb hf => by have h1 := (hor.lt b hb).1; have h2 := hfoot _ hf; omega, fun y hy => ⟨(hs y hy).1, (hs y hy).2.1, (hs y hy).2.2, fun hn ad had hf => by have h1 := hfar y hy hn ad had; have h2 := hfoot _ hf; omega⟩⟩, own_below hk.1 hb2 (Nat.le_refl _), (hk.sls.below hb2 (Nat.le_refl _)).more hb2.size, hlv.b.trans (hb2.mono hsz)⟩
end
end Go.Proofs.Ytehghjakggdnpaa
