/- Texts of functions and of code, plain: words, lines, what is printed, what is read. No model. -/
import Derived.Test.YtcoehmmiplffgaaDoorIrPlain
import Derived.Lib.ItoaMem
namespace Go.Proofs.YtcoehmmiplffgaaDoor.Tx
open Ir (In)

/-- A string of bytes. -/
def mkB (l : List UInt8) : ByteArray := ⟨l.toArray⟩
theorem mkB_list (s : ByteArray) : mkB s.data.toList = s := by
  cases s
  simp [mkB]
theorem list_mkB (l : List UInt8) : (mkB l).data.toList = l := by simp [mkB]
theorem mkB_inj {a b : List UInt8} (h : mkB a = mkB b) : a = b := by rw [← list_mkB a, h, list_mkB]

/-- Code; a function is code without slots. -/
structure Cd where
  name : ByteArray
  params : Int
  regs : Int
  slots : Int
  blocks : List (List In)
def Cd.zero : Cd := ⟨ByteArray.empty, 0, 0, 0, []⟩

/-- A part of a line: a name, or a number. -/
inductive Pt where
  | nm (s : ByteArray)
  | num (n : Int)
def Pt.isN : Pt → Bool
  | .nm _ => true
  | .num _ => false

/-! ### words -/
def okN (n : Int) : Bool := decide (0 ≤ n ∧ n ≤ 2147483647)
def Pt.ok : Pt → Bool
  | .nm s => Ir.nm s
  | .num n => okN n
/-- A part's word. -/
def Pt.w : Pt → List UInt8
  | .nm s => s.data.toList
  | .num n => Lib.decDigits n.toNat

def val : Nat → List UInt8 → Option Nat
  | n, [] => some n
  | n, c :: l => if Ir.dg c then val (n * 10 + (c.toNat - 48)) l else none
/-- The number whose word w is. -/
def number (w : List UInt8) : Option Int :=
  if w.length < 1 ∨ 10 < w.length ∨ (w.head? = some 48 ∧ 1 < w.length) then none else
  match val 0 w with
  | some n => if n ≤ 2147483647 then some (n : Int) else none
  | none => none

/-- Words of a line. -/
def words : List UInt8 → List (List UInt8)
  | [] => [[]]
  | c :: l => if c = 32 then [] :: words l else
    match words l with
    | w :: ws => (c :: w) :: ws
    | [] => [[c]]

/-- Words put together, with a blank between. -/
def join (w : List UInt8) (ws : List (List UInt8)) : List UInt8 := w ++ ws.flatMap fun x => 32 :: x
def lineW (w : List UInt8) (ps : List Pt) : List UInt8 := join w (ps.map Pt.w) ++ [10]

/-- What is wrong first: names come ahead of numbers. -/
def check (ps : List Pt) : Int := if ps.any (fun p => p.isN && !p.ok) then 80 else if ps.any (fun p => !p.isN && !p.ok) then 81 else 0

/-! ### lines -/
/-- A line's make: 1 D A, 2 D A B, 3 A B, 4 A, 5 D Name Args, 6 D Name A, 7 A B D; 0 none. -/
def shp (op : Int) (code : Bool) : Nat :=
  if op = 1 ∨ op = 2 ∨ op = 8 then 1 else if 3 ≤ op ∧ op ≤ 7 then 2 else if op = 9 then 3 else if op = 10 ∨ op = 12 ∨ op = 14 then 4
  else if op = 11 then (if code then 6 else 5) else if op = 13 then 7 else if op = 21 ∨ op = 22 then (if code then 1 else 0) else 0

def word (op : Int) (code : Bool) : List UInt8 :=
  if op = 1 then [99, 111, 110, 115, 116]
  else if op = 2 then [99, 111, 112, 121]
  else if op = 3 then [97, 100, 100]
  else if op = 4 then [115, 117, 98]
  else if op = 5 then [109, 117, 108]
  else if op = 6 then [108, 101, 115, 115]
  else if op = 7 then [100, 105, 118]
  else if op = 8 then [108, 111, 97, 100]
  else if op = 9 then [115, 116, 111, 114, 101]
  else if op = 10 then [111, 117, 116]
  else if op = 11 then [99, 97, 108, 108]
  else if op = 12 then [106, 117, 109, 112]
  else if op = 13 then [98, 114, 97, 110, 99, 104]
  else if op = 14 then [114, 101, 116]
  else if op = 21 then (if code then [102, 101, 116, 99, 104] else [])
  else if op = 22 then (if code then [115, 97, 118, 101] else [])
  else []
def blockW : List UInt8 := [98, 108, 111, 99, 107]
def first (code : Bool) : List UInt8 := if code then [99, 111, 100, 101] else [102, 117, 110, 99]

def parts (k : Nat) (x : In) : List Pt :=
  match k with
  | 1 => [.num x.d, .num x.a]
  | 2 => [.num x.d, .num x.a, .num x.b]
  | 3 => [.num x.a, .num x.b]
  | 4 => [.num x.a]
  | 5 => .num x.d :: .nm x.name :: x.args.map .num
  | 6 => [.num x.d, .nm x.name, .num x.a]
  | 7 => [.num x.a, .num x.b, .num x.d]
  | _ => []

def headP (code : Bool) (c : Cd) : List Pt := .nm c.name :: .num c.params :: .num c.regs :: (if code then [.num c.slots] else [])

def insE (code : Bool) (x : In) : Int := if word x.op code = [] then 80 else check (parts (shp x.op code) x)
def insW (code : Bool) (x : In) : List UInt8 := lineW (word x.op code) (parts (shp x.op code) x)

def blkE (code : Bool) : List In → Int
  | [] => 0
  | x :: l => if insE code x = 0 then blkE code l else insE code x
def blksE (code : Bool) : List (List In) → Int
  | [] => 0
  | b :: l => if blkE code b = 0 then blksE code l else blkE code b
def blkW (code : Bool) (b : List In) : List UInt8 := blockW ++ [10] ++ b.flatMap (insW code)
def blksW (code : Bool) (bs : List (List In)) : List UInt8 := bs.flatMap (blkW code)

/-- Print: what is wrong, and the text. -/
def prE (code : Bool) (c : Cd) : Int := if check (headP code c) = 0 then blksE code c.blocks else check (headP code c)
def prW (code : Bool) (c : Cd) : List UInt8 := lineW (first code) (headP code c) ++ blksW code c.blocks
def pr (code : Bool) (c : Cd) : List UInt8 := if prE code c = 0 then prW code c else []

/-! ### what is read -/
/-- Words read as parts: true: a name. -/
def takeL : List Bool → List (List UInt8) → Int × List Pt
  | true :: ks, w :: ws => if Ir.nm (mkB w) then ((takeL ks ws).1, .nm (mkB w) :: (takeL ks ws).2) else (80, [])
  | false :: ks, w :: ws =>
    match number w with
    | some n => ((takeL ks ws).1, .num n :: (takeL ks ws).2)
    | none => (81, [])
  | _, _ => (0, [])
def take (ks : List Bool) (ws : List (List UInt8)) : Int × List Pt := if ws.length = ks.length then takeL ks ws else (80, [])

def headK (code : Bool) : List Bool := true :: false :: false :: (if code then [false] else [])
def setHead (c : Cd) (vs : List Pt) : Cd :=
  match vs with
  | [.nm s, .num p, .num r] => { c with name := s, params := p, regs := r }
  | [.nm s, .num p, .num r, .num q] => { c with name := s, params := p, regs := r, slots := q }
  | _ => c

/-- The kinds of a line's parts, of m words. -/
def kinds (k : Nat) (m : Nat) : List Bool :=
  match k with
  | 1 => [false, false]
  | 2 => [false, false, false]
  | 3 => [false, false]
  | 4 => [false]
  | 5 => false :: true :: List.replicate (m - 2) false
  | 6 => [false, true, false]
  | 7 => [false, false, false]
  | _ => []
def Pt.n : Pt → Int
  | .num n => n
  | .nm _ => 0
def mk (k : Nat) (op : Int) (vs : List Pt) : In :=
  match k, vs with
  | 1, [.num d, .num a] => ⟨op, d, a, 0, ByteArray.empty, []⟩
  | 2, [.num d, .num a, .num b] => ⟨op, d, a, b, ByteArray.empty, []⟩
  | 3, [.num a, .num b] => ⟨op, 0, a, b, ByteArray.empty, []⟩
  | 4, [.num a] => ⟨op, 0, a, 0, ByteArray.empty, []⟩
  | 5, .num d :: .nm s :: l => ⟨op, d, 0, 0, s, l.map Pt.n⟩
  | 6, [.num d, .nm s, .num a] => ⟨op, d, a, 0, s, []⟩
  | 7, [.num a, .num b, .num d] => ⟨op, d, a, b, ByteArray.empty, []⟩
  | _, _ => ⟨op, 0, 0, 0, ByteArray.empty, []⟩

def ops : List Int := [1, 2, 3, 4, 5, 6, 7, 8, 9, 10, 11, 12, 13, 14, 21, 22]
def opOf (code : Bool) (w : List UInt8) : Option Int := ops.find? fun op => decide (word op code ≠ [] ∧ word op code = w)

def readI (code : Bool) (w : List UInt8) (os : List (List UInt8)) : Int × In :=
  match opOf code w with
  | none => (80, ⟨0, 0, 0, 0, ByteArray.empty, []⟩)
  | some op => ((take (kinds (shp op code) os.length) os).1, mk (shp op code) op (take (kinds (shp op code) os.length) os).2)

def addLast (bs : List (List In)) (x : In) : List (List In) := bs.dropLast ++ [(bs.getLast?.getD []) ++ [x]]

/-- A line that has a line feed behind it. -/
def readL (code : Bool) (n : Nat) (c : Cd) (ws : List (List UInt8)) : Int × Cd :=
  match ws with
  | [] => (80, c)
  | w :: os =>
    if n = 1 then (if w = first code then ((take (headK code) os).1, setHead c (take (headK code) os).2) else (80, c))
    else if w = blockW then (if os = [] then (0, { c with blocks := c.blocks ++ [[]] }) else (80, c))
    else if c.blocks = [] then (80, c)
    else ((readI code w os).1, { c with blocks := addLast c.blocks (readI code w os).2 })

def readLn (code : Bool) (n : Nat) (c : Cd) (l : Option (List UInt8)) : Int × Cd :=
  match l with
  | none => (80, c)
  | some t => readL code n c (words t)

def run (code : Bool) : Nat → Cd → List (Option (List UInt8)) → Int × Nat × Cd
  | _, c, [] => (0, 0, c)
  | n, c, l :: ls => if (readLn code n c l).1 = 0 then run code (n + 1) (readLn code n c l).2 ls else ((readLn code n c l).1, n, Cd.zero)

def cutLF : List UInt8 → Option (List UInt8 × List UInt8)
  | [] => none
  | c :: l => if c = 10 then some ([], l) else
    match cutLF l with
    | some (t, r) => some (c :: t, r)
    | none => none
theorem cutLF_some : ∀ {s t r : List UInt8}, cutLF s = some (t, r) → s = t ++ 10 :: r ∧ (10 : UInt8) ∉ t
  | [], _, _, h => by cases h
  | c :: l, t, r, h => by
    rw [cutLF] at h
    by_cases hc : c = 10
    · rw [if_pos hc] at h
      injection h with h
      injection h with h1 h2
      subst h1 h2 hc
      exact ⟨rfl, by simp⟩
    · rw [if_neg hc] at h
      cases h2 : cutLF l with
      | none => rw [h2] at h; cases h
      | some q =>
        obtain ⟨t', r'⟩ := q
        rw [h2] at h
        simp only [Option.some.injEq, Prod.mk.injEq] at h
        obtain ⟨rfl, rfl⟩ := h
        obtain ⟨h3, h4⟩ := cutLF_some h2
        exact ⟨by rw [h3]; rfl, by simp [h4]; exact fun e => hc e.symm⟩
theorem cutLF_lt {s t r : List UInt8} (h : cutLF s = some (t, r)) : r.length < s.length := by
  rw [(cutLF_some h).1]
  simp
  omega
theorem cutLF_mk : ∀ (t r : List UInt8), (10 : UInt8) ∉ t → cutLF (t ++ 10 :: r) = some (t, r)
  | [], r, _ => by simp [cutLF]
  | c :: t, r, h => by
    simp only [List.mem_cons, not_or] at h
    rw [List.cons_append, cutLF, if_neg (fun e => h.1 e.symm), cutLF_mk t r h.2]
theorem cutLF_none : ∀ {s : List UInt8}, cutLF s = none → (10 : UInt8) ∉ s
  | [], _ => by simp
  | c :: l, h => by
    rw [cutLF] at h
    by_cases hc : c = 10
    · rw [if_pos hc] at h; cases h
    · rw [if_neg hc] at h
      cases h2 : cutLF l with
      | none => simp only [List.mem_cons, not_or]; exact ⟨fun e => hc e.symm, cutLF_none h2⟩
      | some q => obtain ⟨t', r'⟩ := q; rw [h2] at h; cases h
theorem cutLF_none_mk {s : List UInt8} (h : (10 : UInt8) ∉ s) : cutLF s = none := by
  cases h2 : cutLF s with
  | none => rfl
  | some q =>
    obtain ⟨t, r⟩ := q
    rw [(cutLF_some h2).1] at h
    simp at h

/-- The lines of a text; the last one that has no line feed is none. -/
def linesF : Nat → List UInt8 → List (Option (List UInt8))
  | 0, _ => []
  | f + 1, s => if s = [] then [] else
    match cutLF s with
    | none => [none]
    | some (t, r) => some t :: linesF f r
def lines (s : List UInt8) : List (Option (List UInt8)) := linesF (s.length + 1) s

theorem linesF_more : ∀ (f g : Nat) (s : List UInt8), s.length < f → s.length < g → linesF f s = linesF g s
  | 0, _, _, h, _ => by omega
  | _ + 1, 0, _, _, h => by omega
  | f + 1, g + 1, s, hf, hg => by
    unfold linesF
    by_cases h0 : s = []
    · rw [if_pos h0, if_pos h0]
    · rw [if_neg h0, if_neg h0]
      cases h : cutLF s with
      | none => rfl
      | some q =>
        obtain ⟨t, r⟩ := q
        have := cutLF_lt h
        simp only
        rw [linesF_more f g r (by omega) (by omega)]
theorem lines_nil : lines [] = [] := rfl
theorem lines_none {s : List UInt8} (h0 : s ≠ []) (h : cutLF s = none) : lines s = [none] := by
  unfold lines linesF
  rw [if_neg h0, h]
theorem lines_some {s t r : List UInt8} (h : cutLF s = some (t, r)) : lines s = some t :: lines r := by
  have hl := cutLF_lt h
  have h0 : s ≠ [] := by rintro rfl; simp at hl
  unfold lines
  rw [linesF, if_neg h0, h]
  simp only
  rw [linesF_more s.length (r.length + 1) r (by omega) (by omega)]
theorem lines_mk (t r : List UInt8) (h : (10 : UInt8) ∉ t) : lines (t ++ 10 :: r) = some t :: lines r := lines_some (cutLF_mk t r h)

/-- Parse: the error, the line, the code. -/
def parse (code : Bool) (s : List UInt8) : Int × Nat × Cd := if s = [] then (80, 1, Cd.zero) else run code 1 Cd.zero (lines s)
end Go.Proofs.YtcoehmmiplffgaaDoor.Tx
