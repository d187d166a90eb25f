/- What put comes to, the program's: records as chunks into a half, a barrier, and the calls behind that. -/
import Derived.Test.YtgahcbhdnplnoaaDoorCkLogDo
import Derived.Test.YtgahcbhdnplnoaaDoorCkLogHcut
import Derived.Test.YtgahcbhdnplnoaaDoorCkLogPutHead
namespace Go.Proofs.YtgahcbhdnplnoaaDoor
open Go.RowKit

/-! ### Rows of calls -/
theorem info_fn : (Tryd.prog.info? 39).map (fun i => (i.zero, i.size, i.bytes)) = some (some .nilFunc, 1, 8) := by kernel_rfl

/-- Blocks of calls. -/
def Tf : Obj → Bool
  | .cells _ t _ => t == 39
  | _ => false

theorem IsCl.one {P : Nat → Prop} {w : World} {q g : Nat} {u : Value} {k : Cl} (h : IsCl P w q g u k) : u.oneCell' = true := by
  cases k with
  | ba => rw [show u = _ from h]; rfl
  | wr i c => obtain ⟨a, b, n, s, rfl, _⟩ := h; rfl

set_option maxRecDepth 20000 in
theorem run_append_fn {w : World} {base base2 : Nat} {v1 v2 : Value} {xs ys : List Value} (h : w.ownsRow base 39 1 v1 xs.length xs) (hm : w.ownsRow base2 39 1 v2 ys.length ys) (h1 : ∀ u ∈ ys, u.oneCell' = true) (hl : xs.length + ys.length ≤ 1048576) (hb : base ≤ w.heap.size) (ty : TypeId) :
    ∃ v3 w', (Builtin.append_ #[96, 96] ty #[v1, v2]).run Tryd.prog w = .ok v3 w' ∧ w'.ownsRow base 39 1 v3 (xs ++ ys).length (xs ++ ys) ∧ w.grownBy w' v1.ownBlock := by
  obtain ⟨i0, hi, hz0, hz1, hz2⟩ := info_parts info_fn
  have hm' := hm
  rcases hm.2 with ⟨rfl, h0⟩ | ⟨g, cap, cur, rfl, _⟩
  · have hm0 : ys = [] := List.eq_nil_of_length_eq_zero h0
    subst hm0
    exact ⟨v1, w, run_append_owned_none w base 96 ty 39 i0 1 Tryd.underlying96 hi v1 xs.length _ h, by simpa using h, gr_refl w _⟩
  · obtain ⟨v3, w', hr, h2, h3, _⟩ := run_append_own_at (P := Tryd.prog) w base 96 ty 39 i0 .nilFunc 1 8 Tryd.underlying96 hi hz0 hz1 hz2 rfl (by decide) v1 xs.length _ h ⟨g, 0, none⟩ ys.length cap ys (by simp) (fun j u hj => hm'.cells (g := g) rfl j u hj) h1 (by unfold maxLen; omega) (by omega) hb
    exact ⟨v3, w', hr, by simpa using h2, h3⟩
theorem wpList_append_fn {ops : Array Oper} {rest : List Oper} {o : Oper} {a : Act} {w : World} {Q : Exit → Act → World → Prop} (hg : o.guard = none) (s x : Operand)
    (ho : o.op = .call { callee := .builtin .append, args := #[s, x], argTypes := #[96, 96] })
    {base base2 : Nat} {v1 v2 : Value} {xs ys : List Value} (h : w.ownsRow base 39 1 v1 xs.length xs) (hm : w.ownsRow base2 39 1 v2 ys.length ys) (h1 : ∀ u ∈ ys, u.oneCell' = true) (hl : xs.length + ys.length ≤ 1048576) (hb : base ≤ w.heap.size) (hs : a.eval s = v1) (hx : a.eval x = v2)
    (hK : ∀ v3 w', w'.ownsRow base 39 1 v3 (xs ++ ys).length (xs ++ ys) → w.grownBy w' v1.ownBlock → wpList Tryd.prog ops Q rest (a.put o.dst v3) w') : wpList Tryd.prog ops Q (o :: rest) a w := by
  refine wpList_plain hg fun K' hK' => ?_
  obtain ⟨v3, w', hrun, r1, r2⟩ := run_append_fn h hm h1 hl hb o.type
  unfold Oper.wp
  simp [execOp, ho, resolve, invoke, builtin, hs, hx, hrun, Result.andThen]
  exact hK' _ _ (hK v3 w' r1 r2)

theorem fn_new (w : World) (u : Value) : (w.alloc (.cells #[u] 39)).ownsRow w.heap.size 39 1 (.slice (some ⟨w.heap.size, 0, none⟩) 1 1) [u].length [u] :=
  ⟨rfl, .inr ⟨w.heap.size, 1, #[u], rfl, Nat.le_refl _, Blk.new w _ _, Nat.le_refl _, by decide, rfl, rfl⟩⟩
theorem fn_two (w : World) (u x : Value) : (w.alloc (.cells #[u, x] 39)).ownsRow w.heap.size 39 1 (.slice (some ⟨w.heap.size, 0, none⟩) 2 2) [u, x].length [u, x] :=
  ⟨rfl, .inr ⟨w.heap.size, 2, #[u, x], rfl, Nat.le_refl _, Blk.new w _ _, Nat.le_refl _, by decide, rfl, rfl⟩⟩

/-- Chunks as calls. -/
def putCl (h : Nat) (cs : List Cn.Chu) : List Cl := cs.map fun c => .wr (Lg.sec h c.q.toNat) c

/-! ### What calls come to -/
theorem clR_append : ∀ (a b : List Cl) (st : Dk.St), clR st (a ++ b) = if (clR st a).1 = 0 then clR (clR st a).2 b else clR st a := by
  intro a
  induction a with
  | nil => intro b st; rfl
  | cons k a ih =>
    intro b st
    rw [List.cons_append]
    cases k with
    | wr i c =>
      by_cases h : st.writeE (i : Int) (Lg.encs c) = 0
      · rw [clR_wr h, clR_wr h, ih]
      · rw [clR_wr_no h, clR_wr_no h, if_neg h]
    | ba =>
      by_cases h : st.barrierE = 0
      · rw [clR_ba h, clR_ba h, ih]
      · rw [clR_ba_no h, clR_ba_no h, if_neg h]
theorem clR_puts (h : Nat) : ∀ (cs : List Cn.Chu) (st : Dk.St), clR st (putCl h cs) = Lg.wr st (Lg.puts h cs) := by
  intro cs
  induction cs with
  | nil => intro st; rfl
  | cons c cs ih =>
    intro st
    show clR st (.wr (Lg.sec h c.q.toNat) c :: putCl h cs) = Lg.wr st ((Lg.sec h c.q.toNat, Lg.encs c) :: Lg.puts h cs)
    show _ = if st.writeE ((Lg.sec h c.q.toNat : Nat) : Int) (Lg.encs c) = 0 then Lg.wr (st.write ((Lg.sec h c.q.toNat : Nat) : Int) (Lg.encs c)) (Lg.puts h cs) else (st.writeE ((Lg.sec h c.q.toNat : Nat) : Int) (Lg.encs c), st.write ((Lg.sec h c.q.toNat : Nat) : Int) (Lg.encs c))
    by_cases he : st.writeE ((Lg.sec h c.q.toNat : Nat) : Int) (Lg.encs c) = 0
    · rw [clR_wr he, if_pos he, ih]
    · rw [clR_wr_no he, if_neg he]
theorem clR_one_ba (st : Dk.St) : clR st [.ba] = (st.barrierE, st.barrier) := by
  by_cases h : st.barrierE = 0
  · rw [clR_ba h, h]; rfl
  · exact clR_ba_no h
theorem clR_wrb (h : Nat) (cs : List Cn.Chu) (st : Dk.St) : clR st (putCl h cs ++ [.ba]) = Lg.wrb st (Lg.puts h cs) := by
  rw [clR_append, clR_puts, clR_one_ba]
  rfl
theorem clR_head (t : Lg.Top) (st : Dk.St) : clR st [.wr (Lg.hsec t.e) (Lg.hd t), .ba] = Lg.wrb st [(Lg.hsec t.e, Lg.encs (Lg.hd t))] := by
  show clR st ([.wr (Lg.hsec t.e) (Lg.hd t)] ++ [.ba]) = _
  rw [clR_append, clR_one_ba]
  unfold Lg.wrb
  have e : clR st [.wr (Lg.hsec t.e) (Lg.hd t)] = Lg.wr st [(Lg.hsec t.e, Lg.encs (Lg.hd t))] := by
    show _ = if st.writeE ((Lg.hsec t.e : Nat) : Int) (Lg.encs (Lg.hd t)) = 0 then Lg.wr (st.write ((Lg.hsec t.e : Nat) : Int) (Lg.encs (Lg.hd t))) [] else (st.writeE ((Lg.hsec t.e : Nat) : Int) (Lg.encs (Lg.hd t)), st.write ((Lg.hsec t.e : Nat) : Int) (Lg.encs (Lg.hd t)))
    by_cases h : st.writeE ((Lg.hsec t.e : Nat) : Int) (Lg.encs (Lg.hd t)) = 0
    · rw [clR_wr h, if_pos h]; rfl
    · rw [clR_wr_no h, if_neg h]
  rw [e]

/-! ### put's loop -/
theorem RowC.at {w : World} {base k : Nat} {v : Value} {cs : List Cn.Chu} {c : Cn.Chu} (h : RowC w base v cs) (hk : cs[k]? = some c) :
    ∃ b cap, v = .slice (some ⟨b, 0, none⟩) cs.length cap ∧ w.cell? ⟨b, k * 5, none⟩ = some (.int .i64 c.e) ∧ w.cell? ⟨b, k * 5 + 1, none⟩ = some (.int .i64 c.q) ∧ w.cell? ⟨b, k * 5 + 2, none⟩ = some (.bool c.f) ∧ w.cell? ⟨b, k * 5 + 3, none⟩ = some (.bool c.l) ∧ w.cell? ⟨b, k * 5 + 4, none⟩ = some (.string ⟨c.d.toArray⟩) := by
  have h' : w.ownsRow base 45 5 v cs.length (chCs cs) := h
  rcases h'.2 with ⟨rfl, h0⟩ | ⟨b, cap, cur, rfl, _⟩
  · have := (List.getElem?_eq_some_iff.1 hk).1
    omega
  · have hc : ∀ i, i < 5 → ∀ u, (chC c)[i]? = some u → w.cell? ⟨b, k * 5 + i, none⟩ = some u := fun i hi u hu => by
      have e := h'.cells (g := b) rfl (k * 5 + i) u (by rw [chCs_get hk i hi, hu])
      rwa [Addr.add_lit, Nat.zero_add] at e
    exact ⟨b, cap, rfl, hc 0 (by decide) _ rfl, hc 1 (by decide) _ rfl, hc 2 (by decide) _ rfl, hc 3 (by decide) _ rfl, hc 4 (by decide) _ rfl⟩

/-- What put's loop knows behind k chunks. -/
structure PutAt (P : Nat → Prop) (q g : Nat) (t : Lg.Top) (cs : List Cn.Chu) (w w2 : World) (k : Nat) (v : Value) (wr : World) : Prop where
  row : ∃ vals : List Value, wr.ownsRow w.heap.size 39 1 v vals.length vals ∧ vals.length = k ∧ ∀ (j : Nat) (u : Value) (c : Cn.Chu), vals[j]? = some u → cs[j]? = some c → IsCl (New P w wr) wr q g u (.wr (Lg.sec t.h c.q.toNat) c)
  ch : Ch Tf w.heap.size w2 wr

section
variable {P : Nat → Prop} {w w2 wr w1 : World} {q g k : Nat} {t : Lg.Top} {cs : List Cn.Chu} {v : Value} {u : Value} {kk : Cl}
theorem New.up (h : wr.heap.size ≤ w1.heap.size) : ∀ j, New P w wr j → New P w w1 j := fun j hj => hj.imp id fun h2 => ⟨h2.1, by omega⟩
theorem SameI.tf {B : Nat} (hc : Ch Tf B wr w1) : SameI P wr w1 := fun j _ cs z ho => (hc.block j (lt_of_at ho) (fun _ o h => by rw [ho] at h; injection h with h; rw [← h]; rfl)).trans ho
theorem IsCl.tf {B : Nat} (h : IsCl (New P w wr) wr q g u kk) (hc : Ch Tf B wr w1) : IsCl (New P w w1) w1 q g u kk :=
  (h.kept hc (SameI.tf hc) (fun _ => rfl) (fun _ => rfl)).up (Below.refl _ _) (New.up hc.size)
theorem Ch.tf_below (h : Below wr.heap.size wr w1) (B : Nat) : Ch Tf B wr w1 := Ch.of_below h

theorem eight {W : World} {b1 b2 : Nat} {t : Lg.Top} {e n : Int} {f l : Bool} {s : ByteArray} (h1 : Blk W b1 63 (HdC t)) (h2 : Blk W b2 45 (ChC e n f l s)) :
    W.cell? ⟨b1, 0, none⟩ = some (.int .i64 t.e) ∧ W.cell? ⟨b1, 1, none⟩ = some (.int .i64 t.b) ∧ W.cell? ⟨b1, 2, none⟩ = some (.int .i64 (t.h : Int)) ∧
    W.cell? ⟨b2, 0, none⟩ = some (.int .i64 e) ∧ W.cell? ⟨b2, 1, none⟩ = some (.int .i64 n) ∧ W.cell? ⟨b2, 2, none⟩ = some (.bool f) ∧ W.cell? ⟨b2, 3, none⟩ = some (.bool l) ∧ W.cell? ⟨b2, 4, none⟩ = some (.string s) := by
  obtain ⟨⟨a0, a1, a2⟩, -⟩ := three h1
  obtain ⟨c0, c1, c2, c3, c4⟩ := five h2
  exact ⟨a0, a1, a2, c0, c1, c2, c3, c4⟩
end

end Go.Proofs.YtgahcbhdnplnoaaDoor
