/- What a response is written as tells it, or that it is too deep. -/
import Derived.Test.YtdonibkkdhokpaaGreatZWireGr
import Derived.Test.YtdonibkkdhokpaaGreatZWireTrip
namespace Go.Proofs.YtdonibkkdhokpaaGreat
open Go Go.RowKit

def T3.Sm (t : T3) : Prop := Proofs.YtdonibkkdhokpaaGreat.Sm t.a ∧ Proofs.YtdonibkkdhokpaaGreat.Sm t.b ∧ Proofs.YtdonibkkdhokpaaGreat.Sm t.c
def T2.Sm (t : T2) : Prop := Proofs.YtdonibkkdhokpaaGreat.Sm t.a ∧ Proofs.YtdonibkkdhokpaaGreat.Sm t.b
def ruSm (h : RuH) : Prop := in64 h.kind ∧ Sm h.a ∧ Sm h.b
def noSm (h : NoH) : Prop := in64 h.kind ∧ Sm h.o ∧ Sm h.i ∧ Sm h.rel ∧ h.subs.length < 18446744073709551616 ∧ ∀ s ∈ h.subs, s.Sm

theorem rsub3_B {t : T3} (h : t.Sm) (r : List UInt8) : rsub3 (t3B t ++ r) false = (t, r, false) := by
  obtain ⟨h1, h2, h3⟩ := h
  have e : t3B t ++ r = txt t.a ++ (txt t.b ++ (txt t.c ++ r)) := by simp [t3B, txts]
  rw [e]
  unfold rsub3 rsub robj
  simp only [rtxt_txt h1, rtxt_txt h2, rtxt_txt h3]

theorem rpnt3_B {t : T3} (h : t.Sm) (r : List UInt8) : rpnt3 (t3B t ++ r) false = (t, r, false) := by
  obtain ⟨h1, h2, h3⟩ := h
  have e : t3B t ++ r = txt t.a ++ (txt t.b ++ (txt t.c ++ r)) := by simp [t3B, txts]
  rw [e]
  unfold rpnt3 rpnt robj
  simp only [rtxt_txt h1, rtxt_txt h2, rtxt_txt h3]

theorem robj2_B {t : T2} (h : t.Sm) (r : List UInt8) : robj2 (t2B t ++ r) false = (t, r, false) := by
  obtain ⟨h1, h2⟩ := h
  have e : t2B t ++ r = txt t.a ++ (txt t.b ++ r) := by simp [t2B, txts]
  rw [e]
  unfold robj2 robj
  simp only [rtxt_txt h1, rtxt_txt h2]

theorem revt_B {y : Evt} (hr : y.rev < 18446744073709551616) (h : y.x.t.Sm) (r : List UInt8) : revt (evB y ++ r) false = (y, r, false) := by
  unfold revt evB
  rw [List.append_assoc]
  simp only [rnum_enc hr, rwri_B h]

theorem rru_B {h : RuH} (k : ruSm h) (r : List UInt8) : rru (ruB h ++ r) false = (h, r, false) := by
  obtain ⟨k1, k2, k3⟩ := k
  have e : ruB h ++ r = enc (zig h.kind) ++ (txt h.a ++ (txt h.b ++ r)) := by simp [ruB, txts]
  rw [e]
  unfold rru
  simp only [rlong_zig k1, rtxt_txt k2, rtxt_txt k3]

theorem rno_B {h : NoH} (k : noSm h) (r : List UInt8) : rno (noB h ++ r) false = (h, r, false) := by
  obtain ⟨k1, k2, k3, k4, k5, k6⟩ := k
  have e : noB h ++ r = enc (zig h.kind) ++ (t2B ⟨h.o, h.i⟩ ++ (txt h.rel ++ (listB t3B h.subs ++ r))) := by simp [noB, txts, t2B]
  rw [e]
  unfold rno
  simp only [rlong_zig k1, robj2_B (t := ⟨h.o, h.i⟩) ⟨k2, k3⟩, rtxt_txt k4, rlist_B h.subs k5 (fun s hs r => rsub3_B (k6 s hs) r)]

theorem rmany_no {α : Type} {g : List UInt8 → Bool → α × List UInt8 × Bool} {f : α → List UInt8} : ∀ (xs : List α), (∀ x ∈ xs, (∀ r, g (f x ++ r) false = (x, r, false)) ∨ ∀ r, (g (f x ++ r) false).2.2 = true) → (∃ x ∈ xs, ∀ r, (g (f x ++ r) false).2.2 = true) → ∀ r, (rmany g xs.length (xs.flatMap f ++ r) false).2.2 = true
  | [], _, h, _ => by obtain ⟨x, hx, _⟩ := h; cases hx
  | x :: xs, ha, h, r => by
    rw [List.length_cons, rmany_next, List.flatMap_cons, List.append_assoc]
    rcases ha x (by simp) with hx | hx
    · rw [hx]
      refine rmany_no xs (fun y hy => ha y (by simp [hy])) ?_ r
      obtain ⟨y, hy, hb⟩ := h
      rcases List.mem_cons.1 hy with rfl | hy
      · have := hb []
        rw [hx] at this
        cases this
      · exact ⟨y, hy, hb⟩
    · show (rmany g xs.length (g (f x ++ (xs.flatMap f ++ r)) false).2.1 (g (f x ++ (xs.flatMap f ++ r)) false).2.2).2.2 = true
      rw [hx, rmany_bad]

theorem rlist_no {α : Type} {g : List UInt8 → Bool → α × List UInt8 × Bool} {f : α → List UInt8} (xs : List α) (hn : xs.length < 18446744073709551616) (ha : ∀ x ∈ xs, (∀ r, g (f x ++ r) false = (x, r, false)) ∨ ∀ r, (g (f x ++ r) false).2.2 = true) (h : ∃ x ∈ xs, ∀ r, (g (f x ++ r) false).2.2 = true) (r : List UInt8) : (rlist g (listB f xs ++ r) false).2.2 = true := by
  unfold rlist listB
  rw [List.append_assoc, rnum_enc hn]
  exact rmany_no xs ha h r

theorem rtree_B {α : Type} {rh : List UInt8 → Bool → α × List UInt8 × Bool} (z : α) {f : α → List UInt8} (q : α → Prop) (hq : ∀ h, q h → ∀ r, rh (f h ++ r) false = (h, r, false)) : ∀ (D : Nat) (t : Tr α), t.all q → (t.bytes f).length ≤ 20000000 →
    (t.depth ≤ D → ∀ r, rtree rh z D (t.bytes f ++ r) false = (t, r, false)) ∧ (¬ t.depth ≤ D → ∀ r, (rtree rh z D (t.bytes f ++ r) false).2.2 = true)
  | 0, t, _, _ => by
    cases t with
    | mk h ps =>
      rw [Tr.depth_mk]
      exact ⟨fun h => by omega, fun _ r => rfl⟩
  | D + 1, t, ha, hl => by
    cases t with
    | mk h ps =>
      obtain ⟨hh, hps⟩ := (Tr.all_mk _ _ _).1 ha
      rw [Tr.bytes_mk] at hl ⊢
      have hlp : (ps.flatMap (Tr.bytes f)).length ≤ 20000000 := by
        unfold listB at hl
        simp only [List.length_append] at hl
        omega
      have hn := flat_many (Tr.bytes f) (Tr.bytes_pos f) ps
      have hlq : ∀ p ∈ ps, (p.bytes f).length ≤ 20000000 := fun p hp => by
        obtain ⟨i, hi, rfl⟩ := List.mem_iff_getElem.1 hp
        have := flat_take (Tr.bytes f) ps (i + 1)
        rw [flat_next (Tr.bytes f) (List.getElem?_eq_getElem hi), List.length_append] at this
        omega
      have ih := fun p hp => rtree_B z q hq D p (hps p hp) (hlq p hp)
      have hd : (Tr.mk h ps).depth ≤ D + 1 ↔ ∀ p ∈ ps, p.depth ≤ D := by rw [Tr.depth_mk, ← Tr.depthL_le]; omega
      constructor
      · intro h1 r
        rw [List.append_assoc, rtree_next, hq h hh]
        dsimp only
        rw [rlist_B ps (by omega) (fun p hp r => (ih p hp).1 (hd.1 h1 p hp) r)]
      · intro h1 r
        rw [List.append_assoc, rtree_next, hq h hh]
        dsimp only
        refine rlist_no ps (by omega) (fun p hp => ?_) ?_ r
        · by_cases hpd : p.depth ≤ D
          · exact .inl ((ih p hp).1 hpd)
          · exact .inr ((ih p hp).2 hpd)
        · rw [hd] at h1
          obtain ⟨p, hp⟩ := Classical.not_forall.1 h1
          obtain ⟨hp, hpd⟩ := Classical.not_imp.1 hp
          exact ⟨p, hp, (ih p hp).2 hpd⟩

def stSm (y : Stp) : Prop := y.p.Sm ∧ (Tr.mk y.h y.ps).all ruSm ∧ y.s.Sm ∧ y.ys.length < 18446744073709551616 ∧ ∀ n ∈ y.ys, in64 n

theorem rstp_B {y : Stp} (h : stSm y) (hl : (stB y).length ≤ 20000000) : (stFit 0 y = true → ∀ r, rstp (stB y ++ r) false = (y, r, false)) ∧ (stFit 0 y = false → ∀ r, (rstp (stB y ++ r) false).2.2 = true) := by
  obtain ⟨h1, h2, h3, h4, h5⟩ := h
  have hb : ((Tr.mk y.h y.ps).bytes ruB).length ≤ 20000000 := by
    unfold stB at hl
    simp only [List.length_append] at hl
    omega
  obtain ⟨t1, t2⟩ := rtree_B ruZero ruSm (fun h k r => rru_B k r) 64 (Tr.mk y.h y.ps) h2 hb
  have hfit : stFit 0 y = decide ((Tr.mk y.h y.ps).depth ≤ 64) := by
    unfold stFit fit
    rw [Int.zero_add]
    congr 1
    exact propext ⟨fun h => by omega, fun h => by omega⟩
  constructor
  · intro hf r
    rw [hfit] at hf
    have e : stB y ++ r = t3B y.p ++ ((Tr.mk y.h y.ps).bytes ruB ++ (t3B y.s ++ (listB intB y.ys ++ r))) := by unfold stB; simp
    rw [e]
    unfold rstp
    simp only [rpnt3_B h1, t1 (of_decide_eq_true hf), rsub3_B h3, rlist_B (f := rlong) (g := intB) y.ys h4 (fun n hn r => rlong_zig (h5 n hn) r), Tr.head, Tr.parts]
  · intro hf r
    rw [hfit] at hf
    have hb2 := t2 (of_decide_eq_false hf) (t3B y.s ++ (listB intB y.ys ++ r))
    have e : stB y ++ r = t3B y.p ++ ((Tr.mk y.h y.ps).bytes ruB ++ (t3B y.s ++ (listB intB y.ys ++ r))) := by unfold stB; simp
    rw [e]
    unfold rstp
    simp only [rpnt3_B h1]
    generalize rtree rru ruZero 64 ((Tr.mk y.h y.ps).bytes ruB ++ (t3B y.s ++ (listB intB y.ys ++ r))) false = x at hb2 ⊢
    rw [hb2]
    have h6 : (rsub3 x.2.1 true).2.2 = true := eats_sub3.2.1 x.2.1
    rw [h6]
    exact (eats_list eats_long).2.1 _

structure RespSm (p : Resp) : Prop where
  token : Sm p.token
  tuples : ∀ x ∈ p.tuples, x.Sm
  objs : ∀ x ∈ p.objs, x.Sm
  events : ∀ x ∈ p.events, x.x.t.Sm
  steps : ∀ y ∈ p.steps, stSm y
  tree : (Tr.mk p.th p.tps).all noSm

theorem getResp_B (p : Resp) (hi : RespIn p) (hs : RespSm p) (hl : (respB p).length ≤ 20000000) : (respFit p = true → getResp ((respB p).drop 2) false = (p, [], false)) ∧ (respFit p = false → (getResp ((respB p).drop 2) false).2.2 = true) := by
  have e : (respB p).drop 2 = enc p.id ++ (enc (zig p.err) ++ (enc p.rev ++ (txt p.token ++ (listB flagB p.flags ++ (listB t6B p.tuples ++ (listB t2B p.objs ++ (listB evB p.events ++ (listB stB p.steps ++ ((Tr.mk p.th p.tps).bytes noB ++ []))))))))) := by
    simp [respB, txts]
  have hlen := congrArg List.length e
  simp only [List.length_append, List.length_drop, List.length_nil] at hlen
  have hln : ((Tr.mk p.th p.tps).bytes noB).length ≤ 20000000 := by omega
  have hls : ∀ y ∈ p.steps, (stB y).length ≤ 20000000 := fun y hy => by
    obtain ⟨i, hi, rfl⟩ := List.mem_iff_getElem.1 hy
    have h1 := flat_take stB p.steps (i + 1)
    rw [flat_next stB (List.getElem?_eq_getElem hi), List.length_append] at h1
    have h2 : (listB stB p.steps).length = (enc p.steps.length).length + (p.steps.flatMap stB).length := by unfold listB; rw [List.length_append]
    omega
  obtain ⟨t1, t2⟩ := rtree_B noZero noSm (fun h k r => rno_B k r) 64 (Tr.mk p.th p.tps) hs.tree hln
  have hst := fun y (hy : y ∈ p.steps) => rstp_B (hs.steps y hy) (hls y hy)
  have hfit : fit 0 (Tr.mk p.th p.tps) = decide ((Tr.mk p.th p.tps).depth ≤ 64) := by
    unfold fit
    rw [Int.zero_add]
    congr 1
    exact propext ⟨fun h => by omega, fun h => by omega⟩
  have n1 := hi.flags
  have n2 := hi.tuples
  have n3 := hi.objs
  have n4 := hi.events
  have n5 := hi.steps
  have r5 := fun r => rlist_B (f := rtru) (g := flagB) p.flags (by omega) (fun x _ r => rtru_bit x r) r
  have r6 := fun r => rlist_B (f := rtup) (g := t6B) p.tuples (by omega) (fun x hx r => rtup_t6 (hs.tuples x hx) r) r
  have r7 := fun r => rlist_B (f := robj2) (g := t2B) p.objs (by omega) (fun x hx r => robj2_B (hs.objs x hx) r) r
  have r8 := fun r => rlist_B (f := revt) (g := evB) p.events (by omega) (fun x hx r => revt_B (hi.evs x hx) (hs.events x hx) r) r
  rw [e]
  unfold respFit
  constructor
  · intro hf
    rw [Bool.and_eq_true, List.all_eq_true, hfit, decide_eq_true_eq] at hf
    have r9 := fun r => rlist_B (f := rstp) (g := stB) p.steps (by omega) (fun y hy r => (hst y hy).1 (hf.1 y hy) r) r
    unfold getResp
    simp only [rnum_enc hi.id, rlong_zig hi.err, rnum_enc hi.rev, rtxt_txt hs.token, r5, r6, r7, r8, r9, t1 hf.2, Tr.head, Tr.parts]
  · intro hf
    unfold getResp
    simp only [rnum_enc hi.id, rlong_zig hi.err, rnum_enc hi.rev, rtxt_txt hs.token, r5, r6, r7, r8]
    cases hall : p.steps.all (stFit 0) with
    | true =>
      rw [hall, Bool.true_and, hfit] at hf
      have r9 := fun r => rlist_B (f := rstp) (g := stB) p.steps (by omega) (fun y hy r => (hst y hy).1 (List.all_eq_true.1 hall y hy) r) r
      simp only [r9]
      exact t2 (of_decide_eq_false hf) []
    | false =>
      obtain ⟨y, hy, hyf⟩ := List.all_eq_false.1 hall
      have hno := rlist_no (g := rstp) (f := stB) p.steps (by omega) (fun y hy => by
        cases h : stFit 0 y with
        | true => exact .inl ((hst y hy).1 h)
        | false => exact .inr ((hst y hy).2 h)) ⟨y, hy, (hst y hy).2 (by simpa using hyf)⟩ ((Tr.mk p.th p.tps).bytes noB ++ [])
      generalize rlist rstp (listB stB p.steps ++ ((Tr.mk p.th p.tps).bytes noB ++ [])) false = x at hno ⊢
      rw [hno, rtree_bad]

theorem readResp_B (p : Resp) (hi : RespIn p) (hs : RespSm p) (hl : (respB p).length ≤ 20000000) : (respFit p = true → readResp (respB p) = some p) ∧ (respFit p = false → readResp (respB p) = none) := by
  have h2 : starts2 [112, 49] (respB p) = true := by
    unfold starts2 respB
    simp
  have h3 : startP (respB p) = (respB p).drop 2 := by
    unfold startP
    rw [if_pos h2]
  obtain ⟨g1, g2⟩ := getResp_B p hi hs hl
  unfold readResp
  rw [h3, h2, show (!true) = false from rfl]
  constructor
  · intro hf
    rw [g1 hf]
    simp
  · intro hf
    rw [if_neg]
    rintro ⟨h, _⟩
    rw [g2 hf] at h
    cases h
end Go.Proofs.YtdonibkkdhokpaaGreat
