/- Rules in memory that calls of the parser leave. -/
import Derived.Test.YtopnldebekhelaaDoorZSchTake
import Derived.Test.YtopnldebekhelaaDoorMga
namespace Go.Proofs.YtopnldebekhelaaDoor
open Go Go.RowKit

theorem rows_of_at {ok : Nat → Prop} {w : World} {s : Nat} {a : Option Addr} : ∀ (ps : List (Tr RuH)) (i0 : Nat), s = 4 → TrsAt ruHd ok s w a i0 ps →
    ∃ fs : List RuE, fs.map RuE.tree = ps ∧ (∀ f ∈ fs, ruEAt ok w f) ∧ ∀ j u, (fs.flatMap RuE.cells)[j]? = some u → ∃ b off, a = some ⟨b, off, none⟩ ∧ b < w.heap.size ∧ w.cell? ⟨b, off + i0 * 4 + j, none⟩ = some u
  | [], _, _, _ => ⟨[], rfl, (fun f hf => by cases hf), (fun j u h => by simp at h)⟩
  | p :: ps, i0, hs, h => by
    subst hs
    rw [TrsAt] at h
    obtain ⟨⟨b, off, cs, ha, hb, hl, hcl, hcs, ht⟩, hr⟩ := h
    obtain ⟨fs, h1, h2, h3⟩ := rows_of_at ps (i0 + 1) rfl hr
    obtain ⟨hd, pp⟩ := p
    obtain ⟨xa, xcap, rfl, x1, x2, x3⟩ := trRu_open ht
    refine ⟨⟨hd, pp, xa, xcap⟩ :: fs, by rw [List.map_cons, h1]; rfl, fun f hf => ?_, fun j u hj => ?_⟩
    · rcases List.mem_cons.1 hf with rfl | hf
      · exact ⟨x1, x2, x3⟩
      · exact h2 f hf
    · rw [List.flatMap_cons] at hj
      by_cases h4 : j < 4
      · rw [List.getElem?_append_left (by simpa [RuE.cells] using h4)] at hj
        exact ⟨b, off, ha, hl, hcs j u hj⟩
      · rw [List.getElem?_append_right (by simp [RuE.cells]; omega)] at hj
        obtain ⟨b2, off2, e2, l2, c2⟩ := h3 _ _ hj
        rw [ha] at e2
        cases e2
        refine ⟨b, off, ha, hl, ?_⟩
        have e : off + (i0 + 1) * 4 + (j - 4) = off + i0 * 4 + j := by omega
        simp only [RuE.cells, List.length_cons, List.length_nil] at c2
        rw [e] at c2
        exact c2

/-- The parts of an element, as a row. -/
theorem ruE_rows {ok : Nat → Prop} {w : World} {x : RuE} (h : ruEAt ok w x) : ∃ fs : List RuE, fs.map RuE.tree = x.ps ∧ (∀ f ∈ fs, ruEAt ok w f) ∧ Reads w 4 (.slice x.a x.ps.length x.cap) x.ps.length (fs.flatMap RuE.cells) := by
  obtain ⟨h1, h2, h3⟩ := h
  obtain ⟨fs, k1, k2, k3⟩ := rows_of_at x.ps 0 rfl h3
  have hl : fs.length = x.ps.length := by rw [← k1, List.length_map]
  refine ⟨fs, k1, k2, ?_, x.a, x.cap, rfl, h1, h2, fun j u hj => ?_⟩
  · rw [flat_length RuE.cells 4 (fun _ => rfl), hl]
  · obtain ⟨b, off, e1, e2, e3⟩ := k3 j u hj
    rw [Nat.zero_mul, Nat.add_zero] at e3
    exact ⟨b, off, e1, e2, e3⟩

theorem ruE_one (fs : List RuE) : ∀ u ∈ fs.flatMap RuE.cells, u.oneCell' = true := by
  intro u hu
  obtain ⟨f, _, hf⟩ := List.mem_flatMap.1 hu
  simp [RuE.cells] at hf
  rcases hf with rfl | rfl | rfl | rfl <;> rfl

/-- A row to which others were appended. -/
theorem EOwn.pushes {ε : Type} {ec : ε → List Value} {eat : (Nat → Prop) → World → ε → Prop} {ty : TypeId} {s B0 : Nat} {w w6 : World} {v v6 : Value} {es fs : List ε} {C : Nat} (hk : EKeep eat) (h : EOwn ec eat ty s B0 w v es) (he : ∀ f ∈ fs, eat (fun b => C ≤ b) w f) (hC : B0 ≤ C) (hv : ∀ c, v.ownBlock = some c → c < C)
    (o6 : w6.ownsRow B0 ty s v6 (es.length + fs.length) (es.flatMap ec ++ fs.flatMap ec)) (g6 : w.grownBy w6 v.ownBlock) (m6 : Moves w v v6) : EOwn ec eat ty s B0 w6 v6 (es ++ fs) := by
  refine ⟨by rw [List.length_append, List.flatMap_append]; exact o6, fun x hx => ?_⟩
  have hkp : Keeps (fun b => v.ownBlock ≠ some b) w w6 := ⟨g6.size, fun b hb hl => g6.block b hl (fun e => hb e.symm)⟩
  have hin : eat (fun b => B0 ≤ b ∧ v.ownBlock ≠ some b) w x := by
    rcases List.mem_append.1 hx with hx | hx
    · exact h.2 x hx
    · exact hk.mono _ _ _ _ (fun b _ hb => ⟨Nat.le_trans hC hb, fun e => by have := hv b e; omega⟩) (he x hx)
  have h1 := hk.keep _ _ _ _ (hkp.mono (fun b _ hb => hb.2)) (hk.mono _ (fun b => (B0 ≤ b ∧ v.ownBlock ≠ some b) ∧ v6.ownBlock ≠ some b) _ _ (fun b hl hb => ⟨hb, m6 b hl hb.2⟩) hin |> hk.mono _ (fun b => (B0 ≤ b ∧ v6.ownBlock ≠ some b) ∧ v.ownBlock ≠ some b) _ _ (fun b _ hb => ⟨⟨hb.1.1, hb.2⟩, hb.1.2⟩))
  exact hk.mono _ _ _ _ (fun b _ hb => hb.1) h1

theorem infoE_Ru : (Tryd.prog.info? 42).map (fun i => (i.zero, i.size, i.bytes)) = some (some (.agg #[.int .i64 0, .string ⟨#[]⟩, .string ⟨#[]⟩, .slice none 0 0]), 4, 64) := by kernel_rfl

/-- What a call answers, and where the parser stands then. -/
def PrRes (w' : World) (g : Nat) (T : List ByteArray) (d : Int) (t : Tr RuH) : Pr → Prop
  | some (t', T') => t = t' ∧ PAt w' g T' d false
  | none => t.wt ≤ wtT T + 8 ∧ ∃ T' d', PAt w' g T' d' true

theorem PrRes.at {w' : World} {g : Nat} {T : List ByteArray} {d : Int} {t : Tr RuH} {r : Pr} (h : PrRes w' g T d t r) : ∃ T' d' bad, PAt w' g T' d' bad := by
  cases r with
  | none => obtain ⟨_, T', d', h⟩ := h; exact ⟨T', d', _, h⟩
  | some x => exact ⟨_, _, _, h.2⟩

def RuPost (w : World) (g : Nat) (T : List ByteArray) (d : Int) (r : Pr) (e : Ending) (w' : World) : Prop :=
  ∃ x : RuE, e = .returned (.agg #[.int .i64 x.h.kind, .string x.h.a, .string x.h.b, .slice x.a x.ps.length x.cap]) ∧ ruEAt (fun b => w.heap.size ≤ b) w' x ∧ Touch w w' [g] ∧ PrRes w' g T d x.tree r

theorem rule_stored {w : World} {g : Nat} {cs : Array Value} (hs : cs.size = 4) (h : w.heap[g]? = some (.cells cs 42 (0, 0))) (v0 v1 v2 v3 : Value) :
    ((((w.setCell ⟨g, 0, none⟩ v0).setCell ⟨g, 1, none⟩ v1).setCell ⟨g, 2, none⟩ v2).setCell ⟨g, 3, none⟩ v3).heap[g]? = some (.cells #[v0, v1, v2, v3] 42 (0, 0)) := by
  rw [heap_setCell_same _ _ 3 _ _ _ (heap_setCell_same _ _ 2 _ _ _ (heap_setCell_same _ _ 1 _ _ _ (heap_setCell_same _ _ 0 _ _ _ h)))]
  match cs, hs with
  | ⟨[a, b, c, d]⟩, _ => rfl

theorem ret_rule {w' : World} {g : Nat} {k : Int} {s1 s2 : ByteArray} {a : Option Addr} {n c : Nat} {fn : Func} {p : Tmp} {tmps : Array Value} (hf : fn.results = #[.cell p 42]) (hp : tmps.getD p undef = .pointer (some ⟨g, 0, none⟩))
    (ht : w'.heap[g]? = some (.cells #[.int .i64 k, .string s1, .string s2, .slice a n c] 42 (0, 0))) :
    (results fn tmps).run Tryd.prog w' = .ok (.agg #[.int .i64 k, .string s1, .string s2, .slice a n c]) w' := by
  have hp' : tmps[p]?.getD undef = .pointer (some ⟨g, 0, none⟩) := by simpa using hp
  have hl := run_loadVar_row (P := Tryd.prog) w' g _ 42 _ _ _ ht Tryd.underlying42 rfl (by kernel_rfl)
  simp [results, hf, hp', asAddr, hl]
end Go.Proofs.YtopnldebekhelaaDoor
