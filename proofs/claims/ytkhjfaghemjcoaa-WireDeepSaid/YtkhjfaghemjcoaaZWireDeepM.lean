/- Chains of rules and nodes (written by gen_wiredeep.py). -/
import Derived.Test.YtkhjfaghemjcoaaZWireTm
import Derived.Test.YtkhjfaghemjcoaaZWireRo
import Derived.Test.YtkhjfaghemjcoaaZWireFixed
namespace Go.Proofs.Ytkhjfaghemjcoaa
open Go Go.RowKit

def e0 : ByteArray := ⟨#[]⟩
theorem sm_e0 : Sm e0 := by unfold Sm; decide
theorem nil_all {α : Type} {P : α → Prop} : ∀ x ∈ ([] : List α), P x := fun x hx => by cases hx
theorem in0 : in64 0 := by unfold in64; omega

def ruK (k : Int) : RuH := ⟨k, e0, e0⟩
def noK (k : Int) : NoH := ⟨k, e0, e0, e0, []⟩

def chain {α : Type} (h0 h1 : α) : Nat → Tr α
  | 0 => .mk h0 []
  | i + 1 => .mk h1 [chain h0 h1 i]

theorem chain_depth {α : Type} (h0 h1 : α) : ∀ i, (chain h0 h1 i).depth = i + 1
  | 0 => by rw [chain, Tr.depth_mk, Tr.depthL]
  | i + 1 => by rw [chain, Tr.depth_mk, Tr.depthL, Tr.depthL, chain_depth h0 h1 i]; omega

theorem chain_all {α : Type} (q : α → Prop) {h0 h1 : α} (k0 : q h0) (k1 : q h1) : ∀ i, (chain h0 h1 i).all q
  | 0 => by rw [chain, Tr.all_mk]; exact ⟨k0, nil_all⟩
  | i + 1 => by
    rw [chain, Tr.all_mk]
    refine ⟨k1, fun p hp => ?_⟩
    simp at hp
    subst hp
    exact chain_all q k0 k1 i

theorem chain_len {α : Type} (f : α → List UInt8) {h0 h1 : α} (k0 : (f h0).length ≤ 90) (k1 : (f h1).length ≤ 90) : ∀ i, ((chain h0 h1 i).bytes f).length ≤ (i + 1) * 100
  | 0 => by
    rw [chain, Tr.bytes_mk]
    have := enc_length_le 9 ([] : List (Tr α)).length (by show (0 : Nat) < _; decide)
    unfold listB
    simp only [List.length_append, List.flatMap_nil, List.length_nil] at this ⊢
    omega
  | i + 1 => by
    have ih := chain_len f k0 k1 i
    rw [chain, Tr.bytes_mk]
    have := enc_length_le 9 [chain h0 h1 i].length (by simp)
    unfold listB
    simp only [List.length_append, List.flatMap_cons, List.flatMap_nil, List.append_nil, List.length_cons, List.length_nil] at this ⊢
    omega

theorem chain_open {α : Type} (h0 h1 : α) (i : Nat) : ∃ h ps, chain h0 h1 i = .mk h ps ∧ (h = h0 ∨ h = h1) := by
  cases i with
  | zero => exact ⟨h0, [], rfl, .inl rfl⟩
  | succ i => exact ⟨h1, [chain h0 h1 i], rfl, .inr rfl⟩

theorem ruK_ok (k : Int) (h : in64 k) : ruIn (ruK k) ∧ ruSm (ruK k) ∧ (ruB (ruK k)).length ≤ 90 := by
  refine ⟨h, ⟨h, sm_e0, sm_e0⟩, ?_⟩
  have h1 := enc_length_le 9 (zig k) (Nat.lt_of_lt_of_le (zig_lt h) (by decide))
  have h2 : (txts [e0, e0]).length = 2 := by unfold txts e0; simp [txt_zero]
  show (enc (zig k) ++ txts [e0, e0]).length ≤ 90
  rw [List.length_append]
  omega

theorem noK_ok (k : Int) (h : in64 k) : noIn (noK k) ∧ noSm (noK k) ∧ (noB (noK k)).length ≤ 90 := by
  refine ⟨⟨h, Nat.zero_le _⟩, ⟨h, sm_e0, sm_e0, sm_e0, by show (0 : Nat) < _; decide, nil_all⟩, ?_⟩
  have h1 := enc_length_le 9 (zig k) (Nat.lt_of_lt_of_le (zig_lt h) (by decide))
  have h2 : (txts [e0, e0]).length = 2 := by unfold txts e0; simp [txt_zero]
  have h3 : (txts [e0]).length = 1 := by unfold txts e0; simp [txt_zero]
  have h4 : (listB t3B ([] : List T3)).length = 1 := by unfold listB; simp [enc_zero]
  show (enc (zig k) ++ txts [e0, e0] ++ txts [e0] ++ listB t3B []).length ≤ 90
  simp only [List.length_append]
  omega

/-- A response of a chain of rules, or of nodes. -/
def ruResp (i : Nat) : Resp := ⟨0, 0, 0, e0, [], [], [], [], [⟨⟨e0, e0, e0⟩, (chain (ruK 1) (ruK 4) i).head, (chain (ruK 1) (ruK 4) i).parts, ⟨e0, e0, e0⟩, []⟩], noK 0, []⟩
def noResp (i : Nat) : Resp := ⟨0, 0, 0, e0, [], [], [], [], [], (chain (noK 0) (noK 4) i).head, (chain (noK 0) (noK 4) i).parts⟩

theorem Tr.eta {α : Type} (t : Tr α) : Tr.mk t.head t.parts = t := by cases t; rfl

structure RespOk (p : Resp) (K : Nat) : Prop where
  ok : RespIn p
  sm : RespSm p
  len : (respB p).length ≤ 1000000
  fit : respFit p = decide (K ≤ 64)

theorem enc_z (n : Nat) (h : n < 100) : (enc n).length ≤ 10 := enc_length_le 9 n (by omega)

theorem ruResp_ok (i : Nat) (hi : i < 100) : RespOk (ruResp i) (i + 1) := by
  obtain ⟨a1, a2, a3⟩ := ruK_ok 1 (by unfold in64; omega)
  obtain ⟨b1, b2, b3⟩ := ruK_ok 4 (by unfold in64; omega)
  obtain ⟨n1, n2, n3⟩ := noK_ok 0 (by unfold in64; omega)
  have hall := chain_all ruIn a1 b1 i
  have hsm := chain_all ruSm a2 b2 i
  have hln := chain_len ruB a3 b3 i
  have hdp := chain_depth (ruK 1) (ruK 4) i
  have heta := Tr.eta (chain (ruK 1) (ruK 4) i)
  have h2 : (txts [e0, e0, e0]).length = 3 := by unfold txts e0; simp [txt_zero]
  have h1 : (txts [e0]).length = 1 := by unfold txts e0; simp [txt_zero]
  have hz : (enc 0).length = 1 := by rw [enc_zero]; rfl
  refine ⟨⟨by show (0 : Nat) < _; decide, in0, by show (0 : Nat) < _; decide, Nat.zero_le _, Nat.zero_le _, Nat.zero_le _, Nat.zero_le _, by show (1 : Nat) ≤ _; decide, nil_all, fun y hy => ?_, ?_⟩, ⟨sm_e0, nil_all, nil_all, nil_all, fun y hy => ?_, ?_⟩, ?_, ?_⟩
  · simp [ruResp] at hy
    subst hy
    exact ⟨by dsimp only; rw [heta]; exact hall, nil_all, Nat.zero_le _⟩
  · rw [Tr.all_mk]
    exact ⟨n1, nil_all⟩
  · simp [ruResp] at hy
    subst hy
    exact ⟨⟨sm_e0, sm_e0, sm_e0⟩, by dsimp only; rw [heta]; exact hsm, ⟨sm_e0, sm_e0, sm_e0⟩, by show (0 : Nat) < _; decide, nil_all⟩
  · rw [Tr.all_mk]
    exact ⟨n2, nil_all⟩
  · have hn : ((Tr.mk (noK 0) []).bytes noB).length ≤ 100 := by
      have := chain_len noB n3 n3 0
      simpa [chain] using this
    have hst : (listB stB (ruResp i).steps).length ≤ 10 + (3 + 10100 + 3 + 10) := by
      unfold listB ruResp
      simp only [List.length_append, List.flatMap_cons, List.flatMap_nil, List.append_nil]
      have := enc_z [(⟨⟨e0, e0, e0⟩, (chain (ruK 1) (ruK 4) i).head, (chain (ruK 1) (ruK 4) i).parts, ⟨e0, e0, e0⟩, []⟩ : Stp)].length (by simp)
      unfold stB t3B
      dsimp only
      rw [heta]
      have h5 : (listB intB ([] : List Int)).length = 1 := by unfold listB; simp [enc_zero]
      simp only [List.length_append]
      omega
    unfold respB
    simp only [List.length_append]
    have h6 : (listB flagB (ruResp i).flags).length = 1 := by unfold listB ruResp; simp [enc_zero]
    have h7 : (listB t6B (ruResp i).tuples).length = 1 := by unfold listB ruResp; simp [enc_zero]
    have h8 : (listB t2B (ruResp i).objs).length = 1 := by unfold listB ruResp; simp [enc_zero]
    have h9 : (listB evB (ruResp i).events).length = 1 := by unfold listB ruResp; simp [enc_zero]
    have h10 : (enc (ruResp i).id).length = 1 := hz
    have h11 : (enc (zig (ruResp i).err)).length = 1 := hz
    have h12 : (enc (ruResp i).rev).length = 1 := hz
    have h13 : (txts [(ruResp i).token]).length = 1 := h1
    have h14 : ((Tr.mk (ruResp i).th (ruResp i).tps).bytes noB).length ≤ 100 := hn
    simp only [List.length_cons, List.length_nil]
    omega
  · unfold respFit stFit fit ruResp
    simp only [List.all_cons, List.all_nil, Bool.and_true]
    rw [heta, hdp, Tr.depth_mk, Tr.depthL, Bool.eq_iff_iff, Bool.and_eq_true]
    simp only [decide_eq_true_eq]
    omega

theorem noResp_ok (i : Nat) (hi : i < 100) : RespOk (noResp i) (i + 1) := by
  obtain ⟨a1, a2, a3⟩ := noK_ok 0 (by unfold in64; omega)
  obtain ⟨b1, b2, b3⟩ := noK_ok 4 (by unfold in64; omega)
  have hall := chain_all noIn a1 b1 i
  have hsm := chain_all noSm a2 b2 i
  have hln := chain_len noB a3 b3 i
  have hdp := chain_depth (noK 0) (noK 4) i
  have heta := Tr.eta (chain (noK 0) (noK 4) i)
  have h1 : (txts [e0]).length = 1 := by unfold txts e0; simp [txt_zero]
  have hz : (enc 0).length = 1 := by rw [enc_zero]; rfl
  refine ⟨⟨by show (0 : Nat) < _; decide, in0, by show (0 : Nat) < _; decide, Nat.zero_le _, Nat.zero_le _, Nat.zero_le _, Nat.zero_le _, Nat.zero_le _, nil_all, nil_all, ?_⟩, ⟨sm_e0, nil_all, nil_all, nil_all, nil_all, ?_⟩, ?_, ?_⟩
  · show (Tr.mk (chain (noK 0) (noK 4) i).head (chain (noK 0) (noK 4) i).parts).all noIn
    rw [heta]
    exact hall
  · show (Tr.mk (chain (noK 0) (noK 4) i).head (chain (noK 0) (noK 4) i).parts).all noSm
    rw [heta]
    exact hsm
  · unfold respB
    simp only [List.length_append]
    have h5 : (listB stB (noResp i).steps).length = 1 := by unfold listB noResp; simp [enc_zero]
    have h6 : (listB flagB (noResp i).flags).length = 1 := by unfold listB noResp; simp [enc_zero]
    have h7 : (listB t6B (noResp i).tuples).length = 1 := by unfold listB noResp; simp [enc_zero]
    have h8 : (listB t2B (noResp i).objs).length = 1 := by unfold listB noResp; simp [enc_zero]
    have h9 : (listB evB (noResp i).events).length = 1 := by unfold listB noResp; simp [enc_zero]
    have h10 : (enc (noResp i).id).length = 1 := hz
    have h11 : (enc (zig (noResp i).err)).length = 1 := hz
    have h12 : (enc (noResp i).rev).length = 1 := hz
    have h13 : (txts [(noResp i).token]).length = 1 := h1
    have h14 : ((Tr.mk (noResp i).th (noResp i).tps).bytes noB).length ≤ (i + 1) * 100 := by
      show ((Tr.mk (chain (noK 0) (noK 4) i).head (chain (noK 0) (noK 4) i).parts).bytes noB).length ≤ (i + 1) * 100
      rw [heta]
      exact hln
    simp only [List.length_cons, List.length_nil]
    omega
  · unfold respFit fit noResp
    simp only [List.all_nil, Bool.true_and]
    rw [heta, hdp, Bool.eq_iff_iff]
    simp only [decide_eq_true_eq]
    omega
end Go.Proofs.Ytkhjfaghemjcoaa
