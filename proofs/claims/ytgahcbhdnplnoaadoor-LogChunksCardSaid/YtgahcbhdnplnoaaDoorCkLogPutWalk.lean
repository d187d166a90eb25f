/- What put comes to, the program's: the walk. -/
import Derived.Test.YtgahcbhdnplnoaaDoorCkLogPut
namespace Go.Proofs.YtgahcbhdnplnoaaDoor
open Go.RowKit

/-- All that put hands to do. -/
def putAll (t : Lg.Top) (p : Nat) (R : List ByteArray) (lb : List Cl) : List Cl := putCl t.h (Lg.cksAll t.e p (bls R)) ++ [.ba] ++ lb

def LputPost (P : Nat → Prop) (B q g : Nat) (lo : Lg.Lo) (st : Dk.St) (t : Lg.Top) (p : Nat) (R : List ByteArray) (lb : List Cl) (w : World) (e : Ending) (w' : World) : Prop :=
  (lo.wrong ≠ 0 ∧ e = .returned (.int .i64 lo.wrong) ∧ Below w.heap.size w w') ∨
  (lo.wrong = 0 ∧ (127 < p + manyB R ∨ 1099511627776 < t.e) ∧ e = .returned (.int .i64 50) ∧ Below w.heap.size w w') ∨
  (lo.wrong = 0 ∧ p + manyB R ≤ 127 ∧ t.e ≤ 1099511627776 ∧ e = .returned (.int .i64 (clR st (putAll t p R lb)).1) ∧ DskP P w' B g (clR st (putAll t p R lb)).2 ∧
    Lgw w' B q g (if (clR st (putAll t p R lb)).1 = 0 then ⟨t, p + manyB R, 0⟩ else { lo with wrong := (clR st (putAll t p R lb)).1 }) ∧ Ch Tl B w w')

theorem putAll_fit {t : Lg.Top} {p : Nat} {R : List ByteArray} {lb : List Cl} (h0 : 0 ≤ t.e) (h1 : t.e ≤ 1099511627776) (hh : t.h ≤ 1) (hfit : p + manyB R ≤ 127) (hb : ∀ k ∈ lb, k.fit) : ∀ k ∈ putAll t p R lb, k.fit := by
  intro k hk
  unfold putAll putCl at hk
  simp only [List.mem_append, List.mem_map, List.mem_singleton] at hk
  rcases hk with (⟨c, hc, rfl⟩ | rfl) | hk
  · obtain ⟨i, hi, hg⟩ := List.getElem_of_mem hc
    have hg' : (Lg.cksAll t.e p (bls R))[i]? = some c := by rw [List.getElem?_eq_getElem hi, hg]
    rw [Lg.cksAll_length] at hi
    have hq := (Lg.cksAll_at t.e (bls R) p i c hg').2.1
    have hm : manyB R = Lg.many (bls R) := rfl
    refine ⟨Lg.sec_lt hh (by rw [hq]; omega), Lg.cksAll_ok h0 h1 hfit hg'⟩
  · trivial
  · exact hb k hk
theorem putAll_length (t : Lg.Top) (p : Nat) (R : List ByteArray) (lb : List Cl) : (putAll t p R lb).length = manyB R + 1 + lb.length := by
  unfold putAll putCl
  rw [List.length_append, List.length_append, List.length_map, Lg.cksAll_length]
  rfl

/-- The whole row, when the loop is over. -/
theorem all_row {P : Nat → Prop} {wr : World} {base q g : Nat} {v : Value} {cs : List Cn.Chu} {h : Nat} {lb : List Cl} {vals vb : List Value} {u : Value} (hv : vals.length = cs.length) (hvb : vb.length = lb.length)
    (hrow : wr.ownsRow base 39 1 v (vals ++ [u] ++ vb).length (vals ++ [u] ++ vb)) (h1 : ∀ (j : Nat) (x : Value) (c : Cn.Chu), vals[j]? = some x → cs[j]? = some c → IsCl P wr q g x (.wr (Lg.sec h c.q.toNat) c)) (h2 : IsCl P wr q g u .ba)
    (h3 : ∀ (j : Nat) (x : Value) (k : Cl), vb[j]? = some x → lb[j]? = some k → IsCl P wr q g x k) : ClRow P wr base q g v (putCl h cs ++ [.ba] ++ lb) := by
  refine ⟨_, hrow, by unfold putCl; simp [hv, hvb], fun j x k hx hk => ?_⟩
  have hl : (putCl h cs).length = cs.length := by unfold putCl; rw [List.length_map]
  rw [List.append_assoc] at hx hk
  by_cases hj : j < cs.length
  · rw [List.getElem?_append_left (by omega)] at hx
    rw [List.getElem?_append_left (by omega)] at hk
    unfold putCl at hk
    rw [List.getElem?_map] at hk
    cases hc : cs[j]? with
    | none => rw [hc] at hk; cases hk
    | some c =>
      rw [hc] at hk
      simp only [Option.map_some, Option.some.injEq] at hk
      subst hk
      exact h1 j x c hx hc
  · rw [List.getElem?_append_right (by omega), hv] at hx
    rw [List.getElem?_append_right (by omega), hl] at hk
    obtain ⟨n, hn⟩ : ∃ n, n = j - cs.length := ⟨_, rfl⟩
    rw [← hn] at hx hk
    cases n with
    | zero =>
      simp only [List.cons_append, List.nil_append, List.getElem?_cons_zero, Option.some.injEq] at hx hk
      subst hx hk
      exact h2
    | succ n =>
      simp only [List.cons_append, List.nil_append, List.getElem?_cons_succ] at hx hk
      exact h3 n x k hx hk

/-- One chunk more. -/
theorem PutAt.next {P : Nat → Prop} {q g : Nat} {t : Lg.Top} {cs : List Cn.Chu} {w w2 wr w4 w5 : World} {k : Nat} {v5 u : Value} {vals : List Value} {c : Cn.Chu} (hl : vals.length = k)
    (hcl : ∀ (j : Nat) (u : Value) (c : Cn.Chu), vals[j]? = some u → cs[j]? = some c → IsCl (New P w wr) wr q g u (.wr (Lg.sec t.h c.q.toNat) c)) (hch0 : Ch Tf w.heap.size w2 wr) (hch : Ch Tf w.heap.size wr w5) (hc : cs[k]? = some c)
    (hu : IsCl (New P w w4) w4 q g u (.wr (Lg.sec t.h c.q.toNat) c)) (h45 : Ch Tf w.heap.size w4 w5) (hown : w5.ownsRow w.heap.size 39 1 v5 (k + 1) (vals ++ [u])) : PutAt P q g t cs w w2 (k + 1) v5 w5 where
  row := by
    have e : (vals ++ [u]).length = k + 1 := by rw [List.length_append, hl]; rfl
    refine ⟨vals ++ [u], by rw [e]; exact hown, e, fun j x c' hx hc' => ?_⟩
    by_cases hj : j < k
    · rw [List.getElem?_append_left (by omega)] at hx
      exact (hcl j x c' hx hc').tf hch
    · have hjk : j = k := by
        have := (List.getElem?_eq_some_iff.1 hx).1
        omega
      subst hjk
      rw [List.getElem?_append_right (by omega), hl, Nat.sub_self] at hx
      simp only [List.getElem?_cons_zero, Option.some.injEq] at hx
      subst hx
      rw [hc] at hc'
      injection hc' with hc'
      subst hc'
      exact hu.tf h45
  ch := hch0.trans hch

theorem one_fn {P : Nat → Prop} {w : World} {q g : Nat} {u : Value} {k : Cl} (h : IsCl P w q g u k) : ∀ x ∈ [u], x.oneCell' = true := by
  intro x hx
  simp at hx
  subst hx
  exact h.one
theorem cell_one_fn (w : World) (u : Value) : ∀ (j : Nat) (x : Value), [u][j]? = some x → (w.alloc (.cells #[u] 39)).cell? ((⟨w.heap.size, 0, none⟩ : Addr).add j) = some x := fun j x hj => by
  have h := (Blk.new w 39 #[u]).cell j
  rw [Addr.add_lit, Nat.zero_add, h]
  simpa using hj
theorem at_length {w : World} {base : Nat} {v : Value} {vals : List Value} {k : Nat} (h : w.ownsRow base 39 1 v vals.length vals) (hk : vals.length = k) : w.ownsRow base 39 1 v k vals := hk ▸ h
theorem len_at {w : World} {base : Nat} {v : Value} {vals : List Value} {k : Nat} (h : w.ownsRow base 39 1 v k vals) (hk : vals.length = k) : w.ownsRow base 39 1 v vals.length vals := hk ▸ h
theorem cl_ones {P : Nat → Prop} {w : World} {q g : Nat} {vbs : List Value} {lb : List Cl} (hl : vbs.length = lb.length) (h : ∀ (j : Nat) (u : Value) (k : Cl), vbs[j]? = some u → lb[j]? = some k → IsCl P w q g u k) : ∀ u ∈ vbs, u.oneCell' = true := by
  intro u hu
  obtain ⟨j, hj, hg⟩ := List.getElem_of_mem hu
  exact (h j u lb[j] (by rw [List.getElem?_eq_getElem hj, hg]) (List.getElem?_eq_getElem (by omega))).one
theorem owns_below {w w' : World} {base size n : Nat} {e : TypeId} {v : Value} {xs : List Value} (h : w.ownsRow base e size v n xs) (hb : Below w.heap.size w w') : w'.ownsRow base e size v n xs :=
  owns_ch (T := fun _ => false) (B := 0) h (Ch.of_below hb) (fun _ => rfl)

/-- What is left when a call has gone wrong; and when none has. -/
theorem put_wrong {P : Nat → Prop} {B q g : Nat} {lo : Lg.Lo} {r : Int × Dk.St} {w w7 w8 : World} {e : Ending} (hl : Lgw w B q g lo) (hb : Below w.heap.size w w7)
    (h : DoPost (New P w w7) B q g r (.int .i64 lo.t.e) (.int .i64 lo.t.b) (.int .i64 (lo.t.h : Int)) (.int .i64 (lo.next : Int)) w7 e w8) : DskP P w8 B g r.2 ∧ Lgw w8 B q g { lo with wrong := r.1 } ∧ Ch Tl B w w8 :=
  ⟨h.disk.less fun _ hk => .inl hk, ⟨h.log, hl.2⟩, (Ch.of_below hb).trans h.ch⟩
theorem put_right {P : Nat → Prop} {B q g : Nat} {lo : Lg.Lo} {r : Int × Dk.St} {w w7 w8 : World} {e : Ending} {t : Lg.Top} {p n : Nat} (hl : Lgw w B q g lo) (hb : Below w.heap.size w w7) (ht : 0 ≤ t.b ∧ t.b ≤ t.e ∧ t.h ≤ 1) (he : t.e ≤ 1099511627776) (hn : p + n ≤ 127)
    (h : DoPost (New P w w7) B q g r (.int .i64 lo.t.e) (.int .i64 lo.t.b) (.int .i64 (lo.t.h : Int)) (.int .i64 (lo.next : Int)) w7 e w8) (hr : r.1 = 0) (W : World)
    (hW : W = (((w8.setCell ⟨q, 1, none⟩ (.int .i64 t.e)).setCell ⟨q, 2, none⟩ (.int .i64 t.b)).setCell ⟨q, 3, none⟩ (.int .i64 (t.h : Int))).setCell ⟨q, 4, none⟩ (.int .i64 ((p : Int) + (n : Int)))) :
    DskP P W B g r.2 ∧ Lgw W B q g ⟨t, p + n, 0⟩ ∧ Ch Tl B w W := by
  subst hW
  have k1 := h.log.l1 (.int .i64 t.e)
  have k2 := k1.l2 (.int .i64 t.b)
  have k3 := k2.l3 (.int .i64 (t.h : Int))
  have k4 := k3.l4 (.int .i64 ((p : Int) + (n : Int)))
  have c1 : ∀ {W : World} {cs : Array Value} (i : Nat) (u : Value), Blk W q 69 cs → Ch (fun o => match o with | .cells _ t _ => t == 69 | _ => false) B W (W.setCell ⟨q, i, none⟩ u) := fun i u hb => Ch.set hb hl.2.1 rfl i u
  have c2 : ∀ {W : World} {cs : Array Value} (i : Nat) (u : Value), Blk W q 69 cs → Ch Tl B W (W.setCell ⟨q, i, none⟩ u) := fun i u hb => Ch.set hb hl.2.1 rfl i u
  have cc := (((c1 1 (.int .i64 t.e) h.log).trans (c1 2 (.int .i64 t.b) k1)).trans (c1 3 (.int .i64 (t.h : Int)) k2)).trans (c1 4 (.int .i64 ((p : Int) + (n : Int))) k3)
  refine ⟨(h.disk.less fun _ hk => .inl hk).kept cc (fun _ => rfl) (fun _ _ => rfl) (fun _ => rfl), ⟨?_, hl.2.1, ht.1, ht.2.1, he, ht.2.2, hn⟩, (Ch.of_below hb).trans (h.ch.trans ((((c2 1 (.int .i64 t.e) h.log).trans (c2 2 (.int .i64 t.b) k1)).trans (c2 3 (.int .i64 (t.h : Int)) k2)).trans (c2 4 (.int .i64 ((p : Int) + (n : Int))) k3)))⟩
  rw [hr] at k4
  rw [show ((p + n : Nat) : Int) = (p : Int) + (n : Int) by omega]
  exact k4

theorem room_f {k : Nat} (h : k ≤ 1000) : k + 1 ≤ maxLen := by unfold maxLen; omega
theorem bytes_f {k : Nat} (h : k ≤ 1000) : (k + 1) * 8 ≤ 140737488355328 := by omega

set_option maxRecDepth 20000 in
set_option maxHeartbeats 2000000 in
theorem lput_any (P : Nat → Prop) (B q g : Nat) (lo : Lg.Lo) (st : Dk.St) (t : Lg.Top) (p : Nat) (v : Value) (R : List ByteArray) (base : Nat) (vb : Value) (lb : List Cl) (w : World) (hd : DskP P w B g st) (hm : st.many ≤ 1000000) (hl : Lgw w B q g lo)
    (ht : 0 ≤ t.b ∧ t.b ≤ t.e ∧ t.h ≤ 1) (hp : p ≤ 127) (hr : Strs w v R) (hs : size R ≤ 1048576) (hb : ClRow P w base q g vb lb) (hbl : lb.length ≤ 2) (hbf : t.e ≤ 1099511627776 → ∀ k ∈ lb, k.fit) :
    Calls Tryd.prog 33 #[.pointer (some ⟨q, 0, none⟩), HdV t, .int .i64 (p : Int), v, vb] w (LputPost P B q g lo st t p R lb w) := by
  have hmf : ∀ (fn : Fn) (first cap : Array Value) (w : World), (Instr.makeFunc fn first cap).run Tryd.prog w = .ok (.func fn first cap) w := fun _ _ _ _ => rfl
  obtain ⟨i0, hin, hz0, hz1, hz2⟩ := info_parts info_fn
  have hH := Blk.new w 63 (HdC t)
  have hb1 : Below w.heap.size w (w.alloc (.cells (HdC t) 63)) := (Below.refl _ _).alloc (Nat.le_refl _) _
  have hs1 : (w.alloc (.cells (HdC t) 63)).heap.size = w.heap.size + 1 := by simp
  obtain ⟨⟨c0, -, -, -, -, c5⟩, -⟩ := six (hl.1.alloc (.cells (HdC t) 63))
  by_cases hw : lo.wrong = 0
  · rw [hw] at c5
    have HD := Lib.hid (And.intro hd (And.intro hm hl))
    have HT := Lib.hid ht
    have HB := Lib.hid (And.intro hb (And.intro hbl hbf))
    have HR := Lib.hid (hcut_any t p v R (w.alloc (.cells (HdC t) 63)) (hr.below hb1) hs hp)
    have HW := Lib.hid hw
    clear hd hm hl ht hr hs hb hbl hbf hw
    go_enter Tryd.func33, Tryd.ntmps33
    go_wp2_with fail
    generalize w.alloc (.cells (HdC t) 63) = w1 at *
    obtain ⟨⟨a0, a1, a2⟩, -⟩ := three hH
    have HH := Lib.hid (And.intro hH (And.intro hb1 hs1))
    clear hH hb1 hs1 c0
    go_wp2_with fail
    refine HR.out.mono ?_
    rintro x w2 ⟨hb2, hcase⟩
    have HH2 := Lib.hid (And.intro (HH.out.1.older hb2 HH.out.1.lt) (HH.out.2.1.trans (hb2.mono HH.out.2.1.size)))
    obtain ⟨⟨e0, e1, e2⟩, -⟩ := three HH2.out.1
    have HB2 := Lib.hid hb2
    clear a0 a1 a2 c5 hb2 HR
    rcases hcase with ⟨hfit, v11, rfl, hrow⟩ | ⟨hno, rfl⟩
    · by_cases hte : t.e ≤ 1099511627776
      · obtain ⟨A11, cap11, rfl⟩ := owns_slice hrow
        have hcl : (Lg.cksAll t.e p (bls R)).length = manyB R := Lg.cksAll_length _ _ _
        have HROW := Lib.hid hrow
        have HFIT := Lib.hid hfit
        have hn127 : manyB R ≤ 127 := by omega
        have HTE := Lib.hid hte
        clear hrow
        rw [hcl]
        have hP0 : PutAt P q g t (Lg.cksAll t.e p (bls R)) w w2 0 (.slice none 0 0) w2 := ⟨⟨[], World.ownsRow_nil _ _ _ _, rfl, fun j u c hj => by cases hj⟩, Ch.refl _ _ _⟩
        go_wp2_with fail
        go_loopw [13, 42] (fun v13 v42 wr => ∃ k : Nat, k ≤ manyB R ∧ v42 = .int .i64 (k : Int) ∧ PutAt P q g t (Lg.cksAll t.e p (bls R)) w w2 k v13 wr) (fun _ v _ => manyB R - (intOf v).toNat)
        case atStart => exact ⟨0, Nat.zero_le _, rfl, hP0⟩
        case round =>
          obtain ⟨k, hk, rfl, hP⟩ := hrel
          clear hP0
          obtain ⟨⟨vals, hvrow, hvl, hvcl⟩, hch⟩ := hP
          have HCH := Lib.hid hch
          have HVC := Lib.hid hvcl
          have HVR := Lib.hid hvrow
          have HVL := Lib.hid hvl
          have HBR := Lib.hid (show Below w.heap.size w wr from HH2.out.2.trans (hch.to_below HH2.out.2.size))
          by_cases hlt : k < manyB R
          · obtain ⟨c, hc⟩ : ∃ c, (Lg.cksAll t.e p (bls R))[k]? = some c := ⟨_, List.getElem?_eq_getElem (by rw [hcl]; exact hlt)⟩
            obtain ⟨h1, h2, h3⟩ := Lg.cksAll_at t.e (bls R) p k c hc
            obtain ⟨b, cap, e, d0, d1, d2, d3, d4⟩ := RowC.at (owns_ch (T := Tf) HROW.out hch (fun _ => rfl)) hc
            injection e with e3 e4 e5
            subst e3 e5
            obtain ⟨ce, cq, cf, cl, cd⟩ := c
            obtain ⟨nn, hnn⟩ : ∃ nn, nn = p + k := ⟨_, rfl⟩
            obtain ⟨s, hs⟩ : ∃ s : ByteArray, s = ⟨cd.toArray⟩ := ⟨_, rfl⟩
            simp only at h1 h2 d0 d1 d2 d3 d4
            rw [← hnn] at h2
            subst h1 h2
            rw [← hs] at d4
            have HC := Lib.hid hc
            have hnn2 : nn ≤ 127 := by omega
            have HS := Lib.hid (show s.data.toList = cd by rw [hs])
            have hHa := (hch.blk HH2.out.1 rfl).alloc (.cells (ChC t.e (nn : Int) cf cl s) 45)
            have hCa := Blk.new wr 45 (ChC t.e (nn : Int) cf cl s)
            have hba : Below wr.heap.size wr (wr.alloc (.cells (ChC t.e (nn : Int) cf cl s) 45)) := (Below.refl _ _).alloc (Nat.le_refl _) _
            have HT2 := Lib.hid HT.out.2.2
            clear hc h3 e4 hs hch hvrow hvl hvcl hcl hnn hfit
            go_wp2_with fail
            generalize wr.alloc (.cells (ChC t.e (nn : Int) cf cl s) 45) = wa at *
            obtain ⟨f0, f1, f2, f3, f4, f5, f6, f7⟩ := eight hHa hCa
            have hva := owns_below (at_length HVR.out HVL.out) hba
            have hsza := Nat.le_trans HBR.out.size hba.size
            clear d0 d1 d2 d3 d4 e0 e1 e2
            go_region_held3 (fun W => W.cell? ⟨w.heap.size, 0, none⟩ = some (.int .i64 t.e) ∧ W.cell? ⟨w.heap.size, 1, none⟩ = some (.int .i64 t.b) ∧ W.cell? ⟨w.heap.size, 2, none⟩ = some (.int .i64 (t.h : Int)) ∧ W.cell? ⟨wr.heap.size, 0, none⟩ = some (.int .i64 t.e) ∧ W.cell? ⟨wr.heap.size, 1, none⟩ = some (.int .i64 (nn : Int)) ∧ W.cell? ⟨wr.heap.size, 2, none⟩ = some (.bool cf) ∧ W.cell? ⟨wr.heap.size, 3, none⟩ = some (.bool cl) ∧ W.cell? ⟨wr.heap.size, 4, none⟩ = some (.string s)) (first | assumption | exact ⟨f0, f1, f2, f3, f4, f5, f6, f7⟩ | exact eight (hH4.alloc _) (hC4.alloc _) | go_keep)
              (first
                | (go_at_call 52; refine (hsector_any t nn _ HT2.out hnn2).mono ?_; rintro x w3 ⟨rfl, hb3⟩; have hH3 := hHa.drew.older hb3 hHa.drew.lt; have hC3 := hCa.drew.older hb3 hCa.drew.lt; have s3 := eight hH3 hC3; have hv3 := owns_below (w := wa.drew) hva hb3; have hz3 : w.heap.size ≤ w3.heap.size := Nat.le_trans hsza hb3.size)
                | (go_at_call 57; refine (putchunk_any q g (Lg.sec t.h nn) ⟨t.e, (nn : Int), cf, cl, cd⟩ s HS.out w3 (fun k => w3.heap.size ≤ k ∧ k < w3.heap.size + 3) ⟨by omega, by omega⟩).mono ?_; rintro x w4 ⟨u, rfl, hu4, hb4, hs4⟩; have HS4 := Lib.hid hs4; clear hs4; have hu5 := hu4; obtain ⟨ca, cb, cn, cs5, rfl, -⟩ := hu4; have hH4 := hH3.older hb4 hH3.lt; have hC4 := hC3.older hb4 hC3.lt; have s4 := eight hH4 hC4; have hv4 := owns_below hv3 hb4; have hz4 : w.heap.size ≤ w4.heap.size := Nat.le_trans hz3 hb4.size)
                | (refine step_append_lies _ rfl (.tmp 46) (.tmp 54) 96 rfl w.heap.size 39 i0 .nilFunc 1 8 Tryd.underlying96 hin hz0 hz1 hz2 rfl (by decide) _ k vals rfl (hv4.alloc _) ⟨w4.heap.size, 0, none⟩ 1 1 [.func (.func 67) #[] #[.pointer (some ⟨ca, 0, none⟩), .pointer (some ⟨cb, 0, none⟩), .pointer (some ⟨cn, 0, none⟩)]] rfl rfl (cell_one_fn w4 _) (one_fn hu5) (by decide) (room_f (by omega)) (bytes_f (by omega)) (base_c hz4 _) _ rfl ?_; intro g5 cap5 w5 hown5 hgrow5 _ _; have hc45 := ((Ch.refl Tf w.heap.size w4).alloc (.cells #[.func (.func 67) #[] #[.pointer (some ⟨ca, 0, none⟩), .pointer (some ⟨cb, 0, none⟩), .pointer (some ⟨cn, 0, none⟩)]] 39)).trans (ch_of_append (T := Tf) (hv4.alloc _) hgrow5 (fun _ => rfl)); have s5 := eight (hc45.blk hH4 rfl) (hc45.blk hC4 rfl)))
            have hu6 := hu5.up (R := New P w w4) (Below.refl _ _) (fun j hj => .inr ⟨Nat.le_trans hz3 hj.1, by have := HS4.out; omega⟩)
            have hcr := ((((HCH.out.trans (Ch.of_below hba)).drew.trans (Ch.of_below hb3)).trans (Ch.of_below hb4)).trans hc45)
            have hcw : Ch Tf w.heap.size wr w5 := ((((Ch.of_below (T := Tf) (B := w.heap.size) hba).drew.trans (Ch.of_below hb3)).trans (Ch.of_below hb4)).trans hc45)
            have HN := Lib.hid (show PutAt P q g t (Lg.cksAll t.e p (bls R)) w w2 (k + 1) (.slice (some ⟨g5, 0, none⟩) (k + 1) cap5) w5 from PutAt.next HVL.out HVC.out HCH.out hcw HC.out hu6 hc45 hown5)
            clear hHa hCa hba hva hH3 hC3 s3 hv3 hH4 hC4 s4 hv4 hown5 hgrow5 hc45 s5 hu5 hu6 hcr hcw hb3 hb4 f0 f1 f2 f3 f4 f5 f6 f7
            go_wp2_with fail
            go_roundw
            case rel => exact ⟨k + 1, by omega, by go_num, HN.out⟩
            case measure => simp [intOf]; omega
          · obtain rfl : k = manyB R := by omega
            obtain ⟨⟨vbs, hbrow, hblen, hbcl⟩, hbl, hbf⟩ := HB.out
            have HBB := Lib.hid (And.intro hbrow (And.intro hblen (And.intro hbcl (And.intro hbl hbf))))
            have HBq := HD.out.2.2
            have hqr := HBq.1.older HBR.out HBq.1.lt
            obtain ⟨⟨k0, -, -, -, -, -⟩, -⟩ := six hqr
            have HQR := Lib.hid hqr
            have HLG := Lib.hid HBq
            have hva := at_length HVR.out HVL.out
            have hvlen2 : vbs.length ≤ 2 := by rw [hblen]; exact hbl
            have HV2 := Lib.hid hvlen2
            clear hqr HBq hbrow hblen hbcl hbl hbf hch hvrow hvl hvcl hcl hfit hvlen2 HROW
            go_wp2_with (first
              | (at_builtin; refine wpList_append_lies _ rfl (.tmp 57) (.tmp 63) 96 rfl w.heap.size 39 i0 .nilFunc 1 8 Tryd.underlying96 hin hz0 hz1 hz2 rfl (by decide) _ (manyB R) vals rfl (hva.alloc _) ⟨wr.heap.size, 0, none⟩ 1 1 [.func (.func 20) #[.pointer (some ⟨g, 0, none⟩)] #[]] rfl rfl (cell_one_fn wr _) (one_fn (P := P) (w := wr) (q := q) (g := g) (k := .ba) rfl) (by decide) (room_f (by omega)) (bytes_f (by omega)) (base_c HBR.out.size _) _ rfl ?_; intro g6 cap6 w6 hown6 hgrow6 _ _; have hc6 := ((Ch.refl Tf w.heap.size wr).alloc (.cells #[.func (.func 20) #[.pointer (some ⟨g, 0, none⟩)] #[]] 39)).trans (ch_of_append (T := Tf) (hva.alloc _) hgrow6 (fun _ => rfl)); have hb6 := HBR.out.trans (hc6.to_below HBR.out.size); have hown6' := len_at hown6 (show (vals ++ ([(.func (.func 20) #[.pointer (some ⟨g, 0, none⟩)] #[])] : List Value)).length = manyB R + 1 by rw [List.length_append, HVL.out]; rfl); have hvb6 := owns_below HBB.out.1 hb6; clear hown6 hgrow6 hva)
              | (at_builtin; refine wpList_append_fn rfl (.tmp 66) (.tmp 67) rfl hown6' hvb6 (cl_ones HBB.out.2.1 HBB.out.2.2.1) (by rw [List.length_append, HVL.out]; have := HV2.out; simp; omega) hb6.size rfl rfl ?_; intro v7 w7 hown7 hgrow7; have hc7 := ch_of_append (T := Tf) hown6' hgrow7 (fun _ => rfl); clear hgrow7 hown6' hvb6))
            have hb7 : Below w.heap.size w w7 := hb6.trans (hc7.to_below hb6.size)
            have hcr7 := hc6.trans hc7
            have hd7 : DskP (New P w w7) w7 B g st := HD.out.1.with_new hb7
            have hq7 := HLG.out.1.older hb7 HLG.out.1.lt
            have row7 : ClRow (New P w w7) w7 w.heap.size q g v7 (putAll t p R lb) :=
              all_row (by rw [HVL.out, Lg.cksAll_length]; rfl) HBB.out.2.1 hown7 (fun j x c hx hc => (HVC.out j x c hx hc).tf hcr7) rfl (fun j x k hx hk => (HBB.out.2.2.1 j x k hx hk).up hb7 (fun i hi => .inl hi))
            have HDO := Lib.hid (do_any (New P w w7) B w.heap.size q g st (putAll t p R lb) v7 _ _ _ _ _ w7 hd7 (by
              have h1 := HD.out.2.1
              have h2 := HBB.out.2.2.2.1
              rw [putAll_length]
              omega) hq7 HLG.out.2.1 row7 (putAll_fit (by have := HT.out; omega) HTE.out HT.out.2.2 HFIT.out (HBB.out.2.2.2.2 HTE.out)))
            have HH7 := Lib.hid ((HCH.out.trans hcr7).blk HH2.out.1 rfl)
            have HB7 := Lib.hid hb7
            obtain ⟨r, hr⟩ : ∃ r, r = clR st (putAll t p R lb) := ⟨_, rfl⟩
            rw [← hr] at HDO
            have HRR := Lib.hid hr
            clear hb6 hc6 hc7 hb7 hcr7 hd7 hq7 row7 hown7 hr k0 e0 e1 e2
            refine HDO.out.mono ?_
            rintro e w8 hpost
            have he := hpost.ret
            subst he
            obtain ⟨⟨q0, q1, q2, q3, q4, q5⟩, z0, z1, z2, z3, z4, z5⟩ := six hpost.log
            obtain ⟨⟨e0, e1, e2⟩, -⟩ := three (hpost.ch.blk HH7.out rfl)
            have HP := Lib.hid hpost
            clear hpost HDO
            by_cases hE : r.1 = 0
            · have HE := Lib.hid hE
              rw [hE] at q5 ⊢
              clear hE
              go_wp2_with fail
              go_ret
              refine .inr (.inr ⟨HW.out, HFIT.out, HTE.out, ?_⟩)
              have R := put_right HLG.out HB7.out HT.out HTE.out HFIT.out HP.out HE.out _ rfl
              rw [← HRR.out, if_pos HE.out, HE.out]
              exact ⟨rfl, R⟩
            · have hEb : (r.1 != 0) = true := by rw [bne_iff_ne]; exact hE
              have HE := Lib.hid hE
              go_wp2_with fail
              go_ret
              refine .inr (.inr ⟨HW.out, HFIT.out, HTE.out, ?_⟩)
              have R := put_wrong HLG.out HB7.out HP.out
              rw [← HRR.out, if_neg HE.out]
              exact ⟨rfl, R⟩
      · go_wp2_with fail
        go_ret
        exact .inr (.inl ⟨HW.out, .inr (by omega), rfl, HH2.out.2⟩)
    · go_wp2_with fail
      go_ret
      exact .inr (.inl ⟨HW.out, .inl (by omega), rfl, HH2.out.2⟩)
  · have hwb : (lo.wrong != 0) = true := by rw [bne_iff_ne]; exact hw
    have HB := Lib.hid (And.intro hw hb1)
    clear hd hm hl ht hr hs hb hbl hbf hH hb1 hs1 c0
    go_enter Tryd.func33, Tryd.ntmps33
    go_wp2_with fail
    go_ret
    exact .inl ⟨HB.out.1, rfl, HB.out.2⟩

end Go.Proofs.YtgahcbhdnplnoaaDoor
