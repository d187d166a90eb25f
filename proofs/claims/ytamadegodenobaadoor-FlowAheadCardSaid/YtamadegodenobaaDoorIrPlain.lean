/- Functions over virtual registers, plain: what an instruction reads, writes, goes to; which functions may be. No model. -/
import Derived.Test.YtamadegodenobaaDoorRows
namespace Go.Proofs.YtamadegodenobaaDoor.Ir

structure In where
  op : Int
  d : Int
  a : Int
  b : Int
  name : ByteArray
  args : List Int
instance : Inhabited In := ⟨⟨0, 0, 0, 0, ByteArray.empty, []⟩⟩

structure Fu where
  name : ByteArray
  params : Int
  regs : Int
  blocks : List (List In)

/-! ### names -/
def dg (c : UInt8) : Bool := decide (48 ≤ c.toNat ∧ c.toNat ≤ 57)
def lt (c : UInt8) : Bool := decide (97 ≤ c.toNat ∧ c.toNat ≤ 122)
def nmL : List UInt8 → Bool
  | [] => false
  | c :: l => decide (l.length ≤ 11) && !dg c && (c :: l).all fun c => dg c || lt c
def nm (s : ByteArray) : Bool := nmL s.data.toList

/-! ### fields: 0 none, 1 a register, 2 a number, 3 a block -/
def fd (op : Int) : Int := if op = 13 then 3 else if 1 ≤ op ∧ op ≤ 8 ∨ op = 11 then 1 else 0
def fa (op : Int) : Int := if op = 1 then 2 else if op = 12 then 3 else if 2 ≤ op ∧ op ≤ 10 ∨ op = 13 ∨ op = 14 then 1 else 0
def fb (op : Int) : Int := if op = 13 then 3 else if 3 ≤ op ∧ op ≤ 7 ∨ op = 9 then 1 else 0
def fc (op : Int) : Bool := decide (op = 11)
def last (op : Int) : Bool := decide (op = 12 ∨ op = 13 ∨ op = 14)

def uses (x : In) : List Int := (if fa x.op = 1 then [x.a] else []) ++ (if fb x.op = 1 then [x.b] else []) ++ (if fc x.op then x.args else [])
def dest (x : In) : Int := if fd x.op = 1 then x.d else -1
def targets (x : In) : List Int := (if fa x.op = 3 then [x.a] else []) ++ (if fb x.op = 3 then [x.b] else []) ++ (if fd x.op = 3 then [x.d] else [])

def within (l : List Int) (n : Int) : Bool := l.all fun v => decide (0 ≤ v ∧ v < n)

/-- What its Op does not have is 0, or empty; the Op is one. -/
def fits (x : In) : Bool :=
  decide (1 ≤ x.op ∧ x.op ≤ 14 ∧ (fd x.op = 0 → x.d = 0) ∧ (fa x.op = 0 → x.a = 0) ∧ (fb x.op = 0 → x.b = 0)) && (fc x.op || (decide (x.name.size = 0) && decide (x.args.length = 0)))

/-- The first thing that is wrong with an instruction. -/
def one (regs nb : Int) (x : In) (l : Bool) : Int :=
  if !fits x || last x.op != l then 72
  else if (decide (fd x.op = 1) && decide (x.d < 0 ∨ regs ≤ x.d)) || !within (uses x) regs then 73
  else if decide (fa x.op = 2) && decide (x.a < 0 ∨ 65536 ≤ x.a) then 81
  else if !within (targets x) nb then 74
  else if fc x.op && !nm x.name then 70
  else if fc x.op && decide (4 < x.args.length) then 192
  else 0

def chkB (regs nb : Int) : List In → Int
  | [] => 0
  | x :: l => if one regs nb x (decide (l.length = 0)) = 0 then chkB regs nb l else one regs nb x (decide (l.length = 0))
def chkBs (regs nb : Int) : List (List In) → Int
  | [] => 0
  | b :: l => if chkB regs nb b = 0 then chkBs regs nb l else chkB regs nb b

def count : List (List In) → Nat
  | [] => 0
  | b :: l => b.length + count l
def shape (params regs : Int) (bs : List (List In)) : Bool :=
  decide (0 ≤ params ∧ params ≤ 4 ∧ params ≤ regs ∧ regs ≤ 64 ∧ 1 ≤ bs.length ∧ bs.length ≤ 32) && (bs.all fun b => decide (1 ≤ b.length)) && decide (count bs ≤ 200)

def check (f : Fu) : Int := if !nm f.name then 70 else if !shape f.params f.regs f.blocks then 71 else chkBs f.regs (f.blocks.length : Int) f.blocks

/-! ### the document's own way -/
theorem cases_op (op : Int) (h : 1 ≤ op ∧ op ≤ 14) : op = 1 ∨ op = 2 ∨ op = 3 ∨ op = 4 ∨ op = 5 ∨ op = 6 ∨ op = 7 ∨ op = 8 ∨ op = 9 ∨ op = 10 ∨ op = 11 ∨ op = 12 ∨ op = 13 ∨ op = 14 := by omega

theorem drop_cons {α : Type} {l : List α} {k : Nat} {x : α} (h : l[k]? = some x) : l.drop k = x :: l.drop (k + 1) := by
  obtain ⟨h1, rfl⟩ := List.getElem?_eq_some_iff.1 h
  exact List.drop_eq_getElem_cons h1

theorem chkB_at {regs nb : Int} {b : List In} {k : Nat} {x : In} (h : b[k]? = some x) :
    chkB regs nb (b.drop k) = if one regs nb x (decide (b.length - (k + 1) = 0)) = 0 then chkB regs nb (b.drop (k + 1)) else one regs nb x (decide (b.length - (k + 1) = 0)) := by
  rw [drop_cons h, ← List.length_drop]
  rfl
theorem chkBs_at {regs nb : Int} {bs : List (List In)} {k : Nat} {b : List In} (h : bs[k]? = some b) :
    chkBs regs nb (bs.drop k) = if chkB regs nb b = 0 then chkBs regs nb (bs.drop (k + 1)) else chkB regs nb b := by
  rw [drop_cons h]
  rfl

theorem count_append : ∀ a b : List (List In), count (a ++ b) = count a + count b
  | [], b => by simp [count]
  | x :: a, b => by
    show _ + count (a ++ b) = _ + count a + count b
    rw [count_append a b]
    omega
theorem count_up {bs : List (List In)} {k : Nat} {b : List In} (h : bs[k]? = some b) : count (bs.take (k + 1)) = count (bs.take k) + b.length := by
  obtain ⟨h1, rfl⟩ := List.getElem?_eq_some_iff.1 h
  rw [List.take_succ_eq_append_getElem h1, count_append]
  rfl
theorem count_take (bs : List (List In)) (k : Nat) : count (bs.take k) ≤ count bs := by
  conv => rhs; rw [← List.take_append_drop k bs, count_append]
  omega
end Go.Proofs.YtamadegodenobaaDoor.Ir
