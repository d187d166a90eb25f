/- A function that may be, one instruction of which is spoilt: what is wrong with it. No model. -/
import Derived.Test.YtkkbmfgkapdndaaDoorIrCopies
namespace Go.Proofs.YtkkbmfgkapdndaaDoor
open Go.ChangeShapes Go.WideShapes Go.RowKit Go.Deep

theorem chkB_spoilt {r n e : Int} (he : e ≠ 0) : ∀ {b : List Ir.In} {k : Nat} {x : Ir.In}, k < b.length → Ir.chkB r n b = 0 → Ir.one r n x (decide (b.length - (k + 1) = 0)) = e → Ir.chkB r n (b.set k x) = e
  | [], k, x, hk, _, _ => absurd hk (Nat.not_lt_zero _)
  | y :: l, 0, x, _, _, h => by
    have h' : Ir.one r n x (decide (l.length = 0)) = e := by simpa using h
    show (if Ir.one r n x (decide (l.length = 0)) = 0 then Ir.chkB r n l else Ir.one r n x (decide (l.length = 0))) = e
    rw [h', if_neg he]
  | y :: l, k + 1, x, hk, h0, h => by
    have h0' : (if Ir.one r n y (decide (l.length = 0)) = 0 then Ir.chkB r n l else Ir.one r n y (decide (l.length = 0))) = 0 := h0
    have hy : Ir.one r n y (decide (l.length = 0)) = 0 := by
      apply Classical.byContradiction
      intro hn
      rw [if_neg hn] at h0'
      exact hn h0'
    rw [if_pos hy] at h0'
    show (if Ir.one r n y (decide ((l.set k x).length = 0)) = 0 then Ir.chkB r n (l.set k x) else Ir.one r n y (decide ((l.set k x).length = 0))) = e
    rw [List.length_set, if_pos hy]
    exact chkB_spoilt he (by simpa using hk) h0' (by simpa using h)
theorem chkBs_spoilt {r n e : Int} (he : e ≠ 0) : ∀ {bs : List (List Ir.In)} {i : Nat} {b : List Ir.In}, i < bs.length → Ir.chkBs r n bs = 0 → Ir.chkB r n b = e → Ir.chkBs r n (bs.set i b) = e
  | [], i, b, hi, _, _ => absurd hi (Nat.not_lt_zero _)
  | c :: l, 0, b, _, _, h => by
    show (if Ir.chkB r n b = 0 then Ir.chkBs r n l else Ir.chkB r n b) = e
    rw [h, if_neg he]
  | c :: l, i + 1, b, hi, h0, h => by
    have h0' : (if Ir.chkB r n c = 0 then Ir.chkBs r n l else Ir.chkB r n c) = 0 := h0
    have hc : Ir.chkB r n c = 0 := by
      apply Classical.byContradiction
      intro hn
      rw [if_neg hn] at h0'
      exact hn h0'
    rw [if_pos hc] at h0'
    show (if Ir.chkB r n c = 0 then Ir.chkBs r n (l.set i b) else Ir.chkB r n c) = e
    rw [if_pos hc]
    exact chkBs_spoilt he (by simpa using hi) h0' h

theorem count_set : ∀ {bs : List (List Ir.In)} {i : Nat} {b c : List Ir.In}, bs[i]? = some b → c.length = b.length → Ir.count (bs.set i c) = Ir.count bs
  | [], i, b, c, h, _ => by simp at h
  | d :: l, 0, b, c, h, hl => by
    simp at h
    subst h
    show c.length + Ir.count l = d.length + Ir.count l
    omega
  | d :: l, i + 1, b, c, h, hl => by
    show d.length + Ir.count (l.set i c) = d.length + Ir.count l
    rw [count_set (by simpa using h) hl]

/-- The function with one instruction turned. -/
def turn (f : Ir.Fu) (i k : Nat) (b : List Ir.In) (x : Ir.In) : Ir.Fu := ⟨f.name, f.params, f.regs, f.blocks.set i (b.set k x)⟩

theorem check_spoilt {f : Ir.Fu} (h : Ir.check f = 0) {i k : Nat} {b : List Ir.In} {x : Ir.In} (hi : f.blocks[i]? = some b) (hk : k < b.length) {e : Int} (he : e ≠ 0) (h1 : Ir.one f.regs (f.blocks.length : Int) x (decide (b.length - (k + 1) = 0)) = e) : Ir.check (turn f i k b x) = e := by
  have hM := may_of h
  have hil := (List.getElem?_eq_some_iff.1 hi).1
  have hbs : Ir.chkBs f.regs (f.blocks.length : Int) f.blocks = 0 := by
    rw [← h]
    unfold Ir.check
    rw [hM.name, hM.shape]
    rfl
  have hs : Ir.shape f.params f.regs (f.blocks.set i (b.set k x)) = true := by
    have := hM.nums
    unfold Ir.shape
    rw [List.length_set, decide_eq_true this.1, count_set hi (by rw [List.length_set]), decide_eq_true this.2.2]
    simp only [Bool.true_and, Bool.and_true, List.all_eq_true]
    intro c hc
    rcases List.mem_or_eq_of_mem_set hc with h3 | rfl
    · exact decide_eq_true (this.2.1 c h3)
    · rw [List.length_set]
      exact decide_eq_true (by omega)
  show (if !Ir.nm f.name then 70 else if !Ir.shape f.params f.regs (f.blocks.set i (b.set k x)) then 71 else Ir.chkBs f.regs ((f.blocks.set i (b.set k x)).length : Int) (f.blocks.set i (b.set k x))) = e
  rw [hM.name, hs, List.length_set]
  exact chkBs_spoilt he hil hbs (chkB_spoilt he hk (chkBs_zero hbs b (List.mem_of_getElem? hi)) h1)

theorem light_turn {f : Ir.Fu} (hL : Light f.blocks) {i k : Nat} {b : List Ir.In} {x : Ir.In} (hi : f.blocks[i]? = some b) (hx : okIn x) : Light (turn f i k b x).blocks := by
  refine ⟨by show (f.blocks.set i _).length ≤ 100; rw [List.length_set]; exact hL.blocks, by show Ir.count (f.blocks.set i _) ≤ 500; rw [count_set hi (by rw [List.length_set])]; exact hL.count, fun c hc y hy => ?_⟩
  rcases List.mem_or_eq_of_mem_set hc with h3 | rfl
  · exact hL.ins c h3 y hy
  · rcases List.mem_or_eq_of_mem_set hy with h4 | rfl
    · exact hL.ins b (List.mem_of_getElem? hi) y h4
    · exact hx

/-- What is wrong with the instruction as the law turns it. -/
theorem one_turned {r n : Int} {x : Ir.In} {l : Bool} (h : Ir.one r n x l = 0) :
    (x.op = 12 → Ir.one r n { x with a := n } l = 74) ∧ (x.op = 11 ∨ x.op = 1 → Ir.one r n { x with d := r } l = 73) ∧ (¬ x.op = 12 → ¬ (x.op = 11 ∨ x.op = 1) → Ir.one r n { x with a := r } l = 73) := by
  obtain ⟨hf, hl, hd, hu, -⟩ := one_zero h
  have hop : 1 ≤ x.op ∧ x.op ≤ 14 := by
    unfold Ir.fits at hf
    simp only [Bool.and_eq_true, decide_eq_true_eq] at hf
    exact ⟨hf.1.1, hf.1.2.1⟩
  obtain ⟨op, d, a, b, nm, args⟩ := x
  have hcase := Ir.cases_op op hop
  simp only at hf hl hd hu hop ⊢
  have hself : (Ir.last op != l) = false := by rw [hl]; exact bne_self_eq_false l
  refine ⟨fun h1 => ?_, fun h1 => ?_, fun h1 h2 => ?_⟩
  · subst h1
    have hfit : Ir.fits ⟨12, d, n, b, nm, args⟩ = true := by
      unfold Ir.fits at hf ⊢
      simpa [Ir.fd, Ir.fa, Ir.fb, Ir.fc] using hf
    unfold Ir.one
    rw [hfit]
    simp only [hself]
    simp [Ir.fd, Ir.fa, Ir.fb, Ir.fc, Ir.uses, Ir.within, Ir.targets]
  · have hfit : Ir.fits ⟨op, r, a, b, nm, args⟩ = true := by
      rcases h1 with rfl | rfl
      all_goals
        unfold Ir.fits at hf ⊢
        simpa [Ir.fd, Ir.fa, Ir.fb, Ir.fc] using hf
    have hfd : Ir.fd op = 1 := by rcases h1 with rfl | rfl <;> decide
    unfold Ir.one
    rw [hfit]
    simp only [hself]
    simp [hfd]
  · have hfa : Ir.fa op = 1 := by
      rw [fa_one]
      omega
    have hfit : Ir.fits ⟨op, d, r, b, nm, args⟩ = true := by
      unfold Ir.fits at hf ⊢
      simpa [hfa] using hf
    have hfd : (decide (Ir.fd op = 1) && decide (d < 0 ∨ r ≤ d)) = false := by
      by_cases h3 : Ir.fd op = 1
      · rw [decide_eq_false (p := d < 0 ∨ r ≤ d) (by have := hd h3; omega), Bool.and_false]
      · rw [decide_eq_false h3, Bool.false_and]
    unfold Ir.one
    rw [hfit]
    simp only [hself, hfd]
    simp [Ir.uses, hfa, Ir.within]

/-- Check of the copy that was turned. -/
theorem check_turn {f : Ir.Fu} {i k : Nat} {b : List Ir.In} {x : Ir.In} {e : Int} {A : Option Addr} {cap : Nat} {W : World} (ht : Tbl W) (hv : Blks W (.slice A f.blocks.length cap) (f.blocks.set i (b.set k x))) (hL : Light (turn f i k b x).blocks) (he : Ir.check (turn f i k b x) = e) :
    Calls Tryd.prog 8 #[FuV f (.slice A f.blocks.length cap)] W fun e' w' => e' = .returned (.int .i64 e) ∧ Below W.heap.size W w' := by
  have hl : (turn f i k b x).blocks.length = f.blocks.length := List.length_set
  have h := check_any (turn f i k b x) A cap W ht (by rw [hl]; exact hv) hL
  rw [hl, he] at h
  exact h
end Go.Proofs.YtkkbmfgkapdndaaDoor
