/- A range over a function whose iterator tells what it hands over: the law of the statement. The iterator's promise: each call of yield, in a world in which what is handed over lies so (G), at the next number. -/
import Derived.RangeFuncBox
import Derived.RangeFuncLeaves
import Derived.Shelf.Abstract
import Derived.WalkKit
import Derived.OwnWalkIn
import Derived.TacticsInMore
import Derived.LoopNIn
import Derived.LoopIn
import Derived.Test.YtcoehmmiplffgaaDoorMem
namespace Go.Proofs.YtcoehmmiplffgaaDoor
open Go.RowKit Go.Shelf

/-- Cells stay cells of their type. -/
def Typed (W W' : World) : Prop := ∀ (b : Nat) (t : TypeId) (cs : Array Value), Blk W b t cs → ∃ cs', Blk W' b t cs'
theorem Typed.of_below {W W' : World} (h : Below W.heap.size W W') : Typed W W' := fun _ _ cs hb => ⟨cs, hb.older h hb.lt⟩
theorem Typed.set (W : World) (g i : Nat) (x : Value) : Typed W (W.setCell ⟨g, i, none⟩ x) := fun b _ cs hb => by
  by_cases e : b = g
  · subst e
    exact ⟨_, hb.set i x⟩
  · exact ⟨cs, hb.apart (p := ⟨g, i, none⟩) e x⟩
theorem Typed.put {W : World} {l : Nat} {o : Obj} (o' : Obj) (hl : W.heap[l]? = some o) (ho : o.isCells = false) : Typed W (W.putObj l o') := fun b _ cs hb => by
  by_cases e : b = l
  · subst e
    have h2 : W.heap[b]? = some (.cells cs _ (0, 0)) := hb
    rw [hl] at h2
    injection h2 with h2
    subst h2
    cases ho
  · exact ⟨cs, hb.move (World.putObj_heap_other e)⟩
/-- What stays while one block of M changes, or none, and what is new comes. -/
def Bides (M : World → Nat → Prop) (J : World → Prop) : Prop := ∀ (W W' : World) (row : Option Nat), J W → W.grownBy W' row → Typed W W' → (∀ r, row = some r → M W r) → J W'
/-- Blocks that are no cells, from B on. -/
def Book (B : Nat) (W : World) (r : Nat) : Prop := B ≤ r ∧ ∃ o : Obj, W.heap[r]? = some o ∧ o.isCells = false
theorem Bides.alloc {M : World → Nat → Prop} {J : World → Prop} (h : Bides M J) {W : World} (o : Obj) (hJ : J W) : J (W.alloc o) := h W _ none hJ (World.grownBy_alloc W o none) (Typed.of_below ((Below.refl _ _).alloc (Nat.le_refl _) _)) (fun r e => by cases e)
theorem Bides.drewN {M : World → Nat → Prop} {J : World → Prop} (h : Bides M J) {W : World} (n : Nat) (hJ : J W) : J (W.drewN n) := h W _ none hJ ⟨rfl, rfl, rfl, Nat.le_refl _, fun _ _ _ => rfl⟩ (fun _ _ cs hb => ⟨cs, hb⟩) (fun r e => by cases e)
theorem Bides.put {M : World → Nat → Prop} {J : World → Prop} (h : Bides M J) {W : World} {l B : Nat} (o : Obj) (hJ : J W) (hb : Book B W l) (hl : M W l) : J (W.putObj l o) := h W _ (some l) hJ (grownBy_putObj' W l o) (Typed.put o hb.2.choose_spec.1 hb.2.choose_spec.2) (fun r e => by injection e with e; rw [← e]; exact hl)
theorem Bides.set {M : World → Nat → Prop} {J : World → Prop} (h : Bides M J) {W : World} (g i : Nat) (x : Value) (hJ : J W) (hl : M W g) : J (W.setCell ⟨g, i, none⟩ x) := h W _ (some g) hJ (Lib.grownBy_setCell W g i x) (Typed.set W g i x) (fun r e => by injection e with e; rw [← e]; exact hl)

/-- How a round may be left. -/
def toldPost (B : Nat) (K : Nat → Prop) (I : World → Prop) (X : Code → World → Prop) (W : World) : Exit → Act → World → Prop
  | .normal, _, W' => KeepsFrom B W W' ∧ (∀ r, K r → W'.heap[r]? = W.heap[r]?) ∧ I W'
  | .ret, _, W' => KeepsFrom B W W' ∧ X .ret W'
  | .exit id, _, W' => KeepsFrom B W W' ∧ X (.exit id) W'
  | .goto t, _, W' => KeepsFrom B W W' ∧ X (.goto t) W'
  | _, _, _ => False

/-- What an iterator promises: it hands over N times what lies as G says, or as often as it is asked on. -/
def Tells (F : Fence) (n : Nat) (P : Program) (gf : Nat) (lb : Array Value) (M K : Nat → Prop) (G : Nat → Array Value → World → Prop) (N : Nat) (w : World) : Prop :=
  ∀ (l : Nat) (J : Nat → World → Prop) (Jx : World → Prop) (W : World), Below w.heap.size w W → (∀ k, Bides (fun _ => M) (J k)) → Bides (fun _ => M) Jx →
    (∀ (k : Nat) (args : Array Value) (W1 : World), J k W1 → G k args W1 → YieldAt F (n - 1) P l args W1 fun e W' =>
      (e = .returned (.bool true) ∧ J (k + 1) W' ∧ ∀ r, K r → W'.heap[r]? = W1.heap[r]?) ∨ (e = .returned (.bool false) ∧ Jx W')) →
    J 0 W → CallsIn F n P gf (#[.func (.yield l) #[] #[]] ++ lb) W fun e W' => (∃ v, e = .returned v) ∧ (J N W' ∨ Jx W')

variable {F : Fence} {n : Nat} {P : Program}
theorem wpIn_told {g : Operand} {ps : Array Tmp} {assign body : Code} {Q : Exit → Act → World → Prop} {a : Act} {w : World} (hro : F.round = none) (h1 : 1 ≤ n)
    {gf : Nat} {lb : Array Value} (hg : a.eval g = .func (.func gf) #[] lb) (hFg : F.fn gf) (eg : ∀ args w, (callFunc gf args).run P w = .ok (.enter gf args) w)
    {M K : Nat → Prop} {G : Nat → Array Value → World → Prop} {N : Nat} (hiter : Tells F (n - 1) P gf lb M K G N w) (hM : ∀ r, M r → r < w.heap.size) (hK : ∀ r, K r → r < w.heap.size) (hps : ∀ k args W, G k args W → args.size = ps.size) (hG : ∀ k args, Bides (Book w.heap.size) (G k args))
    (I : Nat → World → Prop) (X : Code → World → Prop) (hI : ∀ k, Bides (fun W r => M r ∨ Book w.heap.size W r) (I k)) (hX : ∀ c, Bides (fun W r => M r ∨ Book w.heap.size W r) (X c)) (h0 : I 0 w) (a₁ : Array Value → Act)
    (hassign : ∀ (l k : Nat) (args : Array Value) (W : World) (K : Act → World → Prop), G k args W → K (a₁ args) W →
      assign.wpIn (F.inRound l) (n - 1 - 1) P (Exit.then K (fun _ _ _ => False)) { tmps := (ps.zip args).foldl (fun t (p, v) => t.setIfInBounds p v) a.tmps, defers := [] } W)
    (hbody : ∀ (l k : Nat) (args : Array Value) (W : World), I k W → G k args W → body.wpIn (F.inRound l) (n - 1 - 1) P (toldPost w.heap.size K (I (k + 1)) X W) (a₁ args) W)
    (hdone : ∀ (D : Nat) (W : World), w.heap.size ≤ D → I N W → W.heap[D]? = some (.deferred (some [])) → Q .normal { a with defers := { target := .collected D, args := #[] } :: a.defers } W)
    (hstop : ∀ (D : Nat) (c : Code) (W : World), w.heap.size ≤ D → X c W → W.heap[D]? = some (.deferred (some [])) → c.wpIn F n P Q { a with defers := { target := .collected D, args := #[] } :: a.defers } W) :
    (Code.rangeFunc g ps assign body).wpIn F n P Q a w := by
  refine wpIn_rangeFunc fun fn hfn => ?_
  rw [hro]
  -- the loop's record and the block of its deferred calls: the two next blocks
  obtain ⟨st, hst⟩ : ∃ st : LoopState → Option Code → Obj, st = fun s pe => .loop { state := s, pending := pe, fn, tmps := a.tmps, params := ps, assign, body, defers := w.heap.size } := ⟨_, rfl⟩
  obtain ⟨B, hB⟩ : ∃ B, B = w.heap.size := ⟨_, rfl⟩
  obtain ⟨wl, hwl⟩ : ∃ wl, wl = (w.alloc (.deferred (some []))).alloc (st .ready none) := ⟨_, rfl⟩
  have hD : wl.heap[B]? = some (.deferred (some [])) := by
    rw [hwl, Below.heap_alloc _ _ _ (by simp; omega), hB]
    exact heap_alloc_new w _
  have hL : wl.heap[B + 1]? = some (st .ready none) := by
    have := heap_alloc_new (w.alloc (.deferred (some []))) (st .ready none)
    rw [World.size_alloc, ← hB] at this
    rw [hwl]
    exact this
  have hbw : Below w.heap.size w wl := by rw [hwl]; exact ((Below.refl _ _).alloc (Nat.le_refl _) _).alloc (by simp) _
  have hIl : I 0 wl := by rw [hwl]; exact (hI 0).alloc _ ((hI 0).alloc _ h0)
  have keep : ∀ {W W' : World} {row : Option Nat} {r : Nat} {o : Obj}, W.grownBy W' row → (∀ q, row = some q → M q) → B ≤ r → W.heap[r]? = some o → W'.heap[r]? = some o := fun {W W' row r o} hgr hrow hr ho =>
    (hgr.block r (Array.getElem?_eq_some_iff.1 ho).1 (fun e => by have := hM _ (hrow r e.symm); omega)).trans ho
  have hJ : ∀ (k : Nat), Bides (fun _ => M) (fun W => I k W ∧ W.heap[B + 1]? = some (st .ready none) ∧ W.heap[B]? = some (.deferred (some []))) := fun k W W' row h hgr hty hrow =>
    ⟨hI k W W' row h.1 hgr hty (fun r e => .inl (hrow r e)), keep hgr hrow (Nat.le_succ _) h.2.1, keep hgr hrow (Nat.le_refl _) h.2.2⟩
  have hJx : Bides (fun _ => M) (fun W => ∃ c, X c W ∧ W.heap[B + 1]? = some (st .done (some c)) ∧ W.heap[B]? = some (.deferred (some []))) := fun W W' row h hgr hty hrow => by
    obtain ⟨c, h1, h2, h3⟩ := h
    exact ⟨c, hX c W W' row h1 hgr hty (fun r e => .inl (hrow r e)), keep hgr hrow (Nat.le_succ _) h2, keep hgr hrow (Nat.le_refl _) h3⟩
  have book : ∀ {W : World} {s : LoopState} {pe : Option Code}, W.heap[B + 1]? = some (st s pe) → Book w.heap.size W (B + 1) := fun {W s pe} h => ⟨by omega, _, h, by rw [hst]; rfl⟩
  refine ⟨B + 1, [{ target := .collected B, args := #[] }], wl, { target := .fn (.func gf) lb, args := #[.func (.yield (B + 1)) #[] #[]] }, wl, gf, #[.func (.yield (B + 1)) #[] #[]] ++ lb, wl, ?_, ?_, ?_, ?_, fun _ => h1, ?_⟩
  · rw [hwl, hst, hB]; exact run_enterLoop_outer _ _ _ _ _
  · simp only [resolve, hg]
    simp [go_sem]
  · intro f' hf'
    simp [Target.leads] at hf'
    subst hf'
    exact hFg
  · simp [invoke, go_sem, eg]
  · refine (hiter (B + 1) _ _ wl hbw hJ hJx ?_ ⟨hIl, hL, hD⟩).mono ?_
    · rintro k args W ⟨hi, hl, hd⟩ hgk
      have hl' := hl
      rw [hst] at hl'
      have hlt : B + 1 < W.heap.size := (Array.getElem?_eq_some_iff.1 hl).1
      have hy := run_yield (P := P) (args := args) hl' (hps k args W hgk)
      refine ⟨fn, _, assign, body, hy, roundIn_of_wpIn hfn (hassign _ k args W _ hgk ⟨_, run_beginRound hl' rfl, ?_⟩)⟩
      have hbz : (W.putObj (B + 1) (st .busy none)).heap[B + 1]? = some (st .busy none) := World.putObj_heap_same hlt
      have hdz : (W.putObj (B + 1) (st .busy none)).heap[B]? = some (.deferred (some [])) := (World.putObj_heap_other (by omega)).trans hd
      have hiz : I k (W.putObj (B + 1) (st .busy none)) := (hI k).put _ hi (book hl) (.inr (book hl))
      have hgz : G k args (W.putObj (B + 1) (st .busy none)) := (hG k args).put _ hgk (book hl) (book hl)
      have hmz : ∀ r, K r → (W.putObj (B + 1) (st .busy none)).heap[r]? = W.heap[r]? := fun r hr => World.putObj_heap_other (by have := hK r hr; omega)
      rw [hst] at hbz hdz hiz hgz hmz
      refine wpIn_mono (hbody _ k args _ hiz hgz) ?_
      -- how the round ends
      have fin : ∀ (jump : Option Code) (W3 : World), KeepsFrom w.heap.size (W.putObj (B + 1) (.loop { state := .busy, pending := none, fn, tmps := a.tmps, params := ps, assign, body, defers := w.heap.size })) W3 →
          (Instr.endRound (B + 1) jump).run P W3 = .ok (.bool jump.isNone) (W3.putObj (B + 1) (st (if jump.isNone then .ready else .done) jump)) ∧ Book w.heap.size W3 (B + 1) ∧
          (W3.putObj (B + 1) (st (if jump.isNone then .ready else .done) jump)).heap[B + 1]? = some (st (if jump.isNone then .ready else .done) jump) ∧
          (W3.putObj (B + 1) (st (if jump.isNone then .ready else .done) jump)).heap[B]? = some (.deferred (some [])) := fun jump W3 hk => by
        have h3 := hk.same _ _ (by omega) hbz rfl
        refine ⟨?_, ⟨by omega, _, h3, rfl⟩, World.putObj_heap_same (Array.getElem?_eq_some_iff.1 h3).1, (World.putObj_heap_other (by omega)).trans (hk.same _ _ (by omega) hdz rfl)⟩
        have := run_endRound (P := P) jump h3
        rw [hst]
        exact this
      rintro e a3 W3 hp
      cases e with
      | normal =>
        obtain ⟨hk, hm, hi3⟩ := hp
        obtain ⟨hr, hbk, hl3, hd3⟩ := fin none W3 hk
        exact ⟨_, _, hr, .inl ⟨rfl, ⟨(hI (k + 1)).put _ hi3 hbk (.inr hbk), hl3, hd3⟩, fun r hr => ((World.putObj_heap_other (by have := hK r hr; omega)).trans (hm r hr)).trans (hmz r hr)⟩⟩
      | ret =>
        obtain ⟨hk, hx⟩ := hp
        obtain ⟨hr, hbk, hl3, hd3⟩ := fin (some .ret) W3 hk
        exact ⟨_, _, hr, .inr ⟨rfl, .ret, (hX _).put _ hx hbk (.inr hbk), hl3, hd3⟩⟩
      | exit id =>
        obtain ⟨hk, hx⟩ := hp
        obtain ⟨hr, hbk, hl3, hd3⟩ := fin (some (.exit id)) W3 hk
        exact ⟨_, _, hr, .inr ⟨rfl, .exit id, (hX _).put _ hx hbk (.inr hbk), hl3, hd3⟩⟩
      | goto t =>
        obtain ⟨hk, hx⟩ := hp
        obtain ⟨hr, hbk, hl3, hd3⟩ := fin (some (.goto t)) W3 hk
        exact ⟨_, _, hr, .inr ⟨rfl, .goto t, (hX _).put _ hx hbk (.inr hbk), hl3, hd3⟩⟩
      | panic ch => exact hp.elim
      | outgrown => exact hp.elim
    · rintro e W2 ⟨⟨v, rfl⟩, ⟨hi, hl, hd⟩ | ⟨c, hx, hl, hd⟩⟩
      · have hl' := hl
        rw [hst] at hl'
        exact ⟨none, _, run_endLoop (P := P) hl' (by simp), hdone B _ (by omega) ((hI N).put _ hi (book hl) (.inr (book hl))) ((World.putObj_heap_other (by omega)).trans hd)⟩
      · have hl' := hl
        rw [hst] at hl'
        exact ⟨some c, _, run_endLoop (P := P) hl' (by simp), hstop B c _ (by omega) ((hX c).put _ hx (book hl) (.inr (book hl))) ((World.putObj_heap_other (by omega)).trans hd)⟩
end Go.Proofs.YtcoehmmiplffgaaDoor
