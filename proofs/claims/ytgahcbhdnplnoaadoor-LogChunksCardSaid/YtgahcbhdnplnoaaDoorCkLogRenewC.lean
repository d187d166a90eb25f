/- What Renew comes to, the program's. -/
import Derived.Test.YtgahcbhdnplnoaaDoorCkLogAppendC
namespace Go.Proofs.YtgahcbhdnplnoaaDoor
open Go.RowKit

def RenewPost (B q g : Nat) (lo : Lg.Lo) (st : Dk.St) (R : List ByteArray) (w : World) (e : Ending) (w' : World) : Prop :=
  e = .returned (.int .i64 (Lg.renewR lo st (bls R)).1) ∧ Dsk w' B g (Lg.renewR lo st (bls R)).2.1 ∧ Lgw w' B q g (Lg.renewR lo st (bls R)).2.2 ∧ Ch Tl B w w'

/-- The call of a head, and its barrier. -/
def headCl (t : Lg.Top) : List Cl := [.wr (Lg.hsec t.e) (Lg.hd t), .ba]
theorem headCl_fit {t : Lg.Top} (h0 : 0 ≤ t.b) (h1 : t.b ≤ t.e) (h2 : t.e ≤ 1099511627776) : ∀ k ∈ headCl t, k.fit := by
  intro k hk
  unfold headCl at hk
  simp only [List.mem_cons, List.not_mem_nil, or_false] at hk
  rcases hk with rfl | rfl
  · exact ⟨by have := Lg.hsec_lt t.e; omega, Lg.hd_ok t h0 h1 h2⟩
  · trivial

theorem renew_end {P : Nat → Prop} {B q g : Nat} {lo : Lg.Lo} {st : Dk.St} {R : List ByteArray} {w w' : World} {e : Ending} (hd : Dsk w B g st) (hl : Lgw w B q g lo) (h : LputPost P B q g lo st (Lg.newTop lo.t) 0 R (headCl (Lg.newTop lo.t)) w e w') : RenewPost B q g lo st R w e w' := by
  have he := hl.2.2.2.2.1
  have hm : manyB R = Lg.many (bls R) := rfl
  have hte : (Lg.newTop lo.t).e = lo.t.e + 1 := rfl
  unfold RenewPost Lg.renewR
  rcases h with ⟨hw, rfl, hb⟩ | ⟨hw, hc, rfl, hb⟩ | ⟨hw, hf, ht, rfl, hd', hl', hc⟩
  · rw [if_pos hw]
    exact ⟨rfl, hd.below hb, hl.below hb, Ch.of_below hb⟩
  · rw [if_neg (fun h => h hw), if_pos (by rcases hc with hc | hc <;> omega)]
    exact ⟨rfl, hd.below hb, hl.below hb, Ch.of_below hb⟩
  · rw [if_neg (fun h => h hw), if_neg (by omega)]
    have e1 : clR st (putAll (Lg.newTop lo.t) 0 R (headCl (Lg.newTop lo.t))) = Lg.renew2 lo st (bls R) := by
      unfold putAll
      rw [clR_append, clR_wrb]
      show (if (Lg.renew1 lo st (bls R)).1 = 0 then clR (Lg.renew1 lo st (bls R)).2 (headCl (Lg.newTop lo.t)) else Lg.renew1 lo st (bls R)) = _
      unfold headCl
      rw [clR_head]
      rfl
    rw [e1] at hd' hl' ⊢
    refine ⟨rfl, hd'.dsk, ?_, hc⟩
    by_cases h0 : (Lg.renew2 lo st (bls R)).1 = 0
    · rw [if_pos h0] at hl'
      show Lgw w' B q g (if _ then _ else _)
      rw [if_pos h0]
      have e2 : (⟨Lg.newTop lo.t, Lg.many (bls R), 0⟩ : Lg.Lo) = ⟨Lg.newTop lo.t, 0 + manyB R, 0⟩ := by rw [Nat.zero_add]; rfl
      rw [e2]
      exact hl'
    · rw [if_neg h0] at hl'
      show Lgw w' B q g (if _ then _ else _)
      rw [if_neg h0]
      exact hl'

/-- A head's call and a barrier, in a row of their own. -/
theorem head_row {P : Nat → Prop} {w : World} {q g : Nat} {t : Lg.Top} {u : Value} (hu : IsCl P w q g u (.wr (Lg.hsec t.e) (Lg.hd t))) :
    ClRow P (w.alloc (.cells #[u, .func (.func 20) #[.pointer (some ⟨g, 0, none⟩)] #[]] 39)) w.heap.size q g (.slice (some ⟨w.heap.size, 0, none⟩) 2 2) (headCl t) := by
  refine ⟨_, fn_two w _ _, rfl, fun j x k hx hk => ?_⟩
  rcases j with _ | _ | j
  · simp only [headCl, List.getElem?_cons_zero, Option.some.injEq] at hx hk
    subst hx hk
    exact hu.up ((Below.refl _ _).alloc (Nat.le_refl _) _) (fun _ h => h)
  · simp only [headCl, List.getElem?_cons_succ, List.getElem?_cons_zero, Option.some.injEq] at hx hk
    subst hx hk
    rfl
  · simp [headCl] at hk

theorem hq_four {W : World} {b1 q g : Nat} {t : Lg.Top} {x1 x2 x3 x4 x5 : Value} (h1 : Blk W b1 63 (HdC t)) (h2 : Blk W q 69 #[.pointer (some ⟨g, 0, none⟩), x1, x2, x3, x4, x5]) :
    W.cell? ⟨b1, 0, none⟩ = some (.int .i64 t.e) ∧ W.cell? ⟨b1, 1, none⟩ = some (.int .i64 t.b) ∧ W.cell? ⟨b1, 2, none⟩ = some (.int .i64 (t.h : Int)) ∧ W.cell? ⟨q, 0, none⟩ = some (.pointer (some ⟨g, 0, none⟩)) := by
  obtain ⟨⟨a0, a1, a2⟩, -⟩ := three h1
  obtain ⟨⟨c0, -⟩, -⟩ := six h2
  exact ⟨a0, a1, a2, c0⟩

/-- put, as Renew calls it. -/
theorem renew_put {B q g : Nat} {lo : Lg.Lo} {st : Dk.St} {v : Value} {R : List ByteArray} {w w1 w3 : World} {u : Value} (h : Dsk w B g st) (hl : Lgw w B q g lo) (hr : Strs w v R) (hs : size R ≤ 1048576) (hm : st.many ≤ 1000000) (hb1 : Below w.heap.size w w1) (hb3 : Below w1.heap.size w1 w3)
    (hu : IsCl (New (fun _ => False) w1 w3) w3 q g u (.wr (Lg.hsec (Lg.newTop lo.t).e) (Lg.hd (Lg.newTop lo.t)))) :
    Calls Tryd.prog 33 #[.pointer (some ⟨q, 0, none⟩), HdV (Lg.newTop lo.t), .int .i64 0, v, .slice (some ⟨w3.heap.size, 0, none⟩) 2 2] (w3.alloc (.cells #[u, .func (.func 20) #[.pointer (some ⟨g, 0, none⟩)] #[]] 39))
      (RenewPost B q g lo st R (w3.alloc (.cells #[u, .func (.func 20) #[.pointer (some ⟨g, 0, none⟩)] #[]] 39))) := by
  have hg := hl.2.2
  have hb4 : Below w3.heap.size w3 (w3.alloc (.cells #[u, .func (.func 20) #[.pointer (some ⟨g, 0, none⟩)] #[]] 39)) := (Below.refl _ _).alloc (Nat.le_refl _) _
  have hb2 : Below w.heap.size w w3 := hb1.trans (hb3.mono hb1.size)
  have hbW : Below w.heap.size w (w3.alloc (.cells #[u, .func (.func 20) #[.pointer (some ⟨g, 0, none⟩)] #[]] 39)) := hb2.trans (hb4.mono hb2.size)
  have hd1 : Dsk w1 B g st := h.below hb1
  have hd3 : DskP (New (fun _ => False) w1 w3) w3 B g st := hd1.free.with_new hb3
  have hdW : DskP (New (fun _ => False) w1 w3) (w3.alloc (.cells #[u, .func (.func 20) #[.pointer (some ⟨g, 0, none⟩)] #[]] 39)) B g st := hd3.kept (T := fun _ => false) (B' := 0) (Ch.of_below hb4) (fun _ => rfl) (fun _ _ => rfl) (fun _ => rfl)
  have hlW := hl.below hbW
  have hh : (Lg.newTop lo.t).h ≤ 1 := by show 1 - lo.t.h ≤ 1; omega
  have he : (Lg.newTop lo.t).e = lo.t.e + 1 := rfl
  have hbb : (Lg.newTop lo.t).b = lo.t.e + 1 := rfl
  exact (lput_any (New (fun _ => False) w1 w3) B q g lo st (Lg.newTop lo.t) 0 v R w3.heap.size _ (headCl (Lg.newTop lo.t)) _ hdW hm hlW ⟨by omega, by omega, hh⟩ (by omega) (hr.below hbW) hs (head_row hu) (Nat.le_refl _) (fun ht => headCl_fit (by omega) (by omega) ht)).mono (fun _ _ hp => renew_end hdW.dsk hlW hp)

set_option maxRecDepth 20000 in
set_option maxHeartbeats 2000000 in
theorem renew_any (B q g : Nat) (lo : Lg.Lo) (st : Dk.St) (v : Value) (R : List ByteArray) (w : World) (h : Dsk w B g st) (hl : Lgw w B q g lo) (hr : Strs w v R) (hs : size R ≤ 1048576) (hm : st.many ≤ 1000000) :
    Calls Tryd.prog 19 #[.pointer (some ⟨q, 0, none⟩), v] w (RenewPost B q g lo st R w) := by
  have hmf : ∀ (fn : Fn) (first cap : Array Value) (w : World), (Instr.makeFunc fn first cap).run Tryd.prog w = .ok (.func fn first cap) w := fun _ _ _ _ => rfl
  have hg := hl.2.2
  obtain ⟨hh, hhe⟩ : ∃ hh : Nat, hh = 1 - lo.t.h := ⟨_, rfl⟩
  have hz : (1 : Int) - (lo.t.h : Int) = (hh : Int) := by omega
  have hnt : Lg.newTop lo.t = ⟨lo.t.e + 1, lo.t.e + 1, hh⟩ := by rw [hhe]; rfl
  have hb1 : Below w.heap.size w (w.alloc (.cells (HdC ⟨lo.t.e + 1, lo.t.e + 1, hh⟩) 63)) := (Below.refl _ _).alloc (Nat.le_refl _) _
  have hH1 := Blk.new w 63 (HdC ⟨lo.t.e + 1, lo.t.e + 1, hh⟩)
  have hQ1 := hl.1.alloc (.cells (HdC ⟨lo.t.e + 1, lo.t.e + 1, hh⟩) 63)
  have he1 := hg.2.2.1
  have he0 : 0 ≤ lo.t.e := by omega
  have HALL := Lib.hid (And.intro h (And.intro hl (And.intro hr (And.intro hs (And.intro hm hnt)))))
  have HG := Lib.hid hg
  have hhh : hh ≤ 1 := by omega
  obtain ⟨⟨c0, c1, -, c3, -, -⟩, -⟩ := six hl.1
  clear h hl hr hs hm hnt hg hhe
  go_enter Tryd.func19, Tryd.ntmps19
  go_wp2_with fail
  generalize hW1 : w.alloc (.cells (HdC ⟨lo.t.e + 1, lo.t.e + 1, hh⟩) 63) = w1 at *
  obtain ⟨f0, f1, f2, f3⟩ := hq_four hH1 hQ1
  simp only at f0 f1 f2
  have HB1 := Lib.hid hb1
  have HH1 := Lib.hid hH1
  have HQ1 := Lib.hid hQ1
  clear c0 c1 c3 hW1 hb1 hH1 hQ1
  go_region_held3 (fun W => W.cell? ⟨w.heap.size, 0, none⟩ = some (.int .i64 (lo.t.e + 1)) ∧ W.cell? ⟨w.heap.size, 1, none⟩ = some (.int .i64 (lo.t.e + 1)) ∧ W.cell? ⟨w.heap.size, 2, none⟩ = some (.int .i64 (hh : Int)) ∧ W.cell? ⟨q, 0, none⟩ = some (.pointer (some ⟨g, 0, none⟩))) (first | assumption | exact ⟨f0, f1, f2, f3⟩ | exact hq_four (H3.alloc _) (Q3.alloc _) | go_keep)
    (first
      | (go_at_call 32; refine (puthead_any (fun _ => False) q g ⟨lo.t.e + 1, lo.t.e + 1, hh⟩ _ (by show (0 : Int) ≤ lo.t.e + 1; omega) hhh).mono ?_; rintro x w3 ⟨u, rfl, hu3, hb3⟩; have hu4 := hu3; obtain ⟨ca, cb, cn, cs5, rfl, -⟩ := hu3; have H3 := HH1.out.drew.older hb3 HH1.out.drew.lt; have Q3 := HQ1.out.drew.older hb3 HQ1.out.drew.lt; have s3 := hq_four H3 Q3)
      | (go_at_call 33; have hcall := renew_put HALL.out.1 HALL.out.2.1 HALL.out.2.2.1 HALL.out.2.2.2.1 HALL.out.2.2.2.2.1 HB1.out.drew hb3 (by rw [HALL.out.2.2.2.2.2]; exact hu4); rw [HALL.out.2.2.2.2.2] at hcall; refine hcall.mono ?_; rintro x w5 ⟨rfl, hd5, hl5, hc5⟩; have s5 := hq_four (hc5.blk (H3.alloc _) rfl) hl5.1))
  all_goals
    have hcw := ((Ch.of_below (T := Tl) (B := B) HB1.out.drew).trans (Ch.of_below hb3)).trans ((Ch.refl Tl B w3).alloc (.cells #[.func (.func 67) #[] #[.pointer (some ⟨ca, 0, none⟩), .pointer (some ⟨cb, 0, none⟩), .pointer (some ⟨cn, 0, none⟩)], .func (.func 20) #[.pointer (some ⟨g, 0, none⟩)] #[]] 39))
    go_wp2_with fail
    go_ret
    exact ⟨rfl, hd5, hl5, hcw.trans hc5⟩

end Go.Proofs.YtgahcbhdnplnoaaDoor
