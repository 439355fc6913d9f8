/- CachePlays: the cache and the reference hold the same. -/
import Derived.Test.YtdooedlapoknbaaCacheRefGet
namespace Go.Proofs.Ytdooedlapoknbaa
open Go Go.RowKit Go.Maps

/-- What keeps the cache. -/
theorem CA.kept {G : Nat → Prop} {W W' : World} {B c room : Nat} {E : List (Int × Int × List ByteArray)} (h : CA G W B c room E)
    (hm : ∀ (k : Nat) (es) (cl), W.heap[k]? = some (Obj.map es cl) → W'.heap[k]? = some (Obj.map es cl))
    (hc : ∀ (k : Nat) (cs : Array Value) (t : TypeId) (fz : Nat × Nat), W.heap[k]? = some (Obj.cells cs t fz) → t = 54 ∨ t = 50 ∨ (t = 9 ∧ G k) → W'.heap[k]? = some (Obj.cells cs t fz)) : CA G W' B c room E := by
  obtain ⟨r, m, it, pv, nx, xs, h, he⟩ := h
  obtain ⟨D, ⟨es, clock, hb, F, hs, hD⟩, hl, hsz⟩ := h.map
  refine ⟨r, m, it, pv, nx, xs, ⟨h.lo, hc _ _ _ _ h.cell (.inl rfl), fun y hy => hc _ _ _ _ (h.nodes y hy) (.inr (.inl rfl)), h.ring, ⟨D, ⟨es, clock, hm _ _ _ hb, F, hs, hD⟩, hl, hsz⟩, fun y hy => ?_, h.dist, h.small⟩, he⟩
  obtain ⟨q1, q2, q3, a, cap, h1, ⟨h2, a', cap', h3, h4, h5, h6⟩, h7⟩ := h.okI y hy
  refine ⟨q1, q2, q3, a, cap, h1, ⟨h2, a', cap', h3, h4, h5, fun j u hj => ?_⟩, fun g hg => ?_⟩
  · obtain ⟨b, off, e1, e2, e3⟩ := h6 j u hj
    obtain ⟨hG, cs, fz, hcc⟩ := h7 b (by rw [h3, e1]; rfl)
    have hc' := hc b cs _ fz hcc (.inr (.inr ⟨rfl, hG⟩))
    refine ⟨b, off, e1, (Array.getElem?_eq_some_iff.1 hc').1, ?_⟩
    unfold World.cell? at e3 ⊢
    rw [hcc] at e3
    rw [hc']
    exact e3
  · obtain ⟨hG, cs, fz, hcc⟩ := h7 g hg
    exact ⟨hG, cs, fz, hc g cs _ fz hcc (.inr (.inr ⟨rfl, hG⟩))⟩

theorem CA.rf {G : Nat → Prop} {W W' : World} {B B' c room : Nat} {E : List (Int × Int × List ByteArray)} (h : CA G W B c room E) (f : RF B' W W') : CA G W' B c room E :=
  h.kept (fun k es cl hk => f.keep k _ hk (fun _ _ e => by cases e) (fun _ _ e => by cases e)) (fun k cs t fz hk ht => f.keep k _ hk (fun cs' fz' e => by
    injection e with _ e _
    subst e
    rcases ht with h | h | h
    · exact absurd h (by decide)
    · exact absurd h (by decide)
    · exact absurd h.1 (by decide)) (fun cs' fz' e => by
    injection e with _ e _
    subst e
    rcases ht with h | h | h
    · exact absurd h (by decide)
    · exact absurd h (by decide)
    · exact absurd h.1 (by decide)))

theorem CA.setS {G : Nat → Prop} {W : World} {B c room : Nat} {E : List (Int × Int × List ByteArray)} (h : CA G W B c room E) {g : Nat} {cs : Array Value} {fz : Nat × Nat} (hg : W.heap[g]? = some (Obj.cells cs 9 fz)) (hG : ¬ G g) (j : Nat) (u : Value) : CA G (W.setCell ⟨g, j, none⟩ u) B c room E :=
  h.kept (fun k es cl hk => (Below.heap_setCell _ _ _ _ (fun e => by rw [e, hg] at hk; cases hk)).trans hk) (fun k cs' t fz' hk ht => by
    refine (Below.heap_setCell _ _ _ _ (fun e => ?_)).trans hk
    subst e
    rw [hg] at hk
    injection hk with hk
    injection hk with _ hk _
    subst hk
    rcases ht with h | h | h
    · exact absurd h (by decide)
    · exact absurd h (by decide)
    · exact hG h.2)

theorem CA.tight {G : Nat → Prop} {W : World} {B c room : Nat} {E : List (Int × Int × List ByteArray)} (h : CA G W B c room E) : CA (fun g => g < W.heap.size) W B c room E := by
  obtain ⟨r, m, it, pv, nx, xs, h, he⟩ := h
  refine ⟨r, m, it, pv, nx, xs, ⟨h.lo, h.cell, h.nodes, h.ring, h.map, fun y hy => ?_, h.dist, h.small⟩, he⟩
  obtain ⟨q1, q2, q3, a, cap, h1, h2, h7⟩ := h.okI y hy
  refine ⟨q1, q2, q3, a, cap, h1, h2, fun g hg => ?_⟩
  obtain ⟨hG, cs, fz, hcc⟩ := h7 g hg
  exact ⟨(Array.getElem?_eq_some_iff.1 hcc).1, cs, fz, hcc⟩

theorem CA.less {G : Nat → Prop} {W : World} {B B' c room : Nat} {E : List (Int × Int × List ByteArray)} (h : CA G W B c room E) (hB : B' ≤ B) : CA G W B' c room E := by
  obtain ⟨r, m, it, pv, nx, xs, h, he⟩ := h
  exact ⟨r, m, it, pv, nx, xs, ⟨⟨Nat.le_trans hB h.lo.1, Nat.le_trans hB h.lo.2.1, fun x hx => Nat.le_trans hB (h.lo.2.2 x hx)⟩, h.cell, h.nodes, h.ring, h.map, h.okI, h.dist, h.small⟩, he⟩

theorem CA.nodup {G : Nat → Prop} {W : World} {B c room : Nat} {E : List (Int × Int × List ByteArray)} (h : CA G W B c room E) : (E.map fun p => (p.1, p.2.1)).Nodup := by
  obtain ⟨r, m, it, pv, nx, xs, h, rfl⟩ := h
  exact dist_ent h.dist

theorem RCAt.less {w : World} {B B' b room : Nat} {R : List CAct} (h : RCAt w B b room R) (hB : B' ≤ B) : RCAt w B' b room R := by
  obtain ⟨v, h1, h2, h3⟩ := h
  exact ⟨v, h1, Nat.le_trans hB h2, h3.less hB⟩

theorem RCAt.cf {w w' : World} {B B' b room : Nat} {R : List CAct} (h : RCAt w B b room R) (f : CF B' w w') : RCAt w' B b room R :=
  h.keep fun k cs t hk ht => f.keep k cs t _ hk (by rcases ht with rfl | rfl <;> decide) (by rcases ht with rfl | rfl <;> decide)

theorem RCAt.setS {w : World} {B b room : Nat} {R : List CAct} (h : RCAt w B b room R) {g : Nat} {cs : Array Value} {fz : Nat × Nat} (hg : w.heap[g]? = some (Obj.cells cs 9 fz)) (j : Nat) (u : Value) : RCAt (w.setCell ⟨g, j, none⟩ u) B b room R :=
  h.keep fun k cs' t hk ht => (Below.heap_setCell _ _ _ _ (cells_ne hk hg (by rcases ht with rfl | rfl <;> decide))).trans hk

def entR (x : CAct) : Int × Int × List ByteArray := (x.f, x.b, x.ks)

theorem used_ent (R : List CAct) : usedE (R.map entR) = rsum R := by
  unfold usedE rsum
  rw [List.map_map]
  rfl

theorem trim_ent (room : Nat) : ∀ (R : List CAct), trimE room (R.map entR) = (trimR room R).map entR
  | [] => rfl
  | x :: t => by
    rw [List.map_cons]
    unfold trimE trimR
    rw [← List.map_cons, used_ent]
    split
    · exact trim_ent room t
    · rfl

theorem trimR_mem {room : Nat} : ∀ {R : List CAct} {x : CAct}, x ∈ trimR room R → x ∈ R
  | [], _, h => h
  | y :: t, x, h => by
    unfold trimR at h
    split at h
    · exact List.mem_cons_of_mem _ (trimR_mem h)
    · exact h

theorem trimR_len (room : Nat) : ∀ (R : List CAct), (trimR room R).length ≤ R.length
  | [] => Nat.le_refl _
  | y :: t => by
    unfold trimR
    split
    · exact Nat.le_trans (trimR_len room t) (by simp)
    · exact Nat.le_refl _

theorem left_ent {R R1 : List CAct} {f b : Int} (h : Left R f b R1) (hn : ((R.map entR).map fun p => (p.1, p.2.1)).Nodup) : others (R.map entR) f b = R1.map entR := by
  rcases h with ⟨A, x, Z, rfl, _, hx, rfl⟩ | ⟨hno, rfl⟩
  · rw [List.map_append, List.map_cons] at hn ⊢
    obtain ⟨rfl, rfl⟩ := hx
    rw [show entR x = (x.f, x.b, x.ks) from rfl] at hn ⊢
    rw [others_mid hn, List.map_append]
  · refine others_none fun p hp => ?_
    obtain ⟨x, hx, rfl⟩ := List.mem_map.1 hp
    exact hno x hx

theorem drop_ent (R : List CAct) (f : Int) : dropE (R.map entR) f = (R.filter fun x => !(decide (x.f = f))).map entR := by
  unfold dropE
  rw [List.filter_map]
  rfl

theorem ent_uniq {α β : Type} (f : α → β) : ∀ {l : List α} {p q : α}, (l.map f).Nodup → p ∈ l → q ∈ l → f p = f q → p = q
  | x :: t, p, q, hn, hp, hq, he => by
    rw [List.map_cons, List.nodup_cons] at hn
    rcases List.mem_cons.1 hp with h1 | h1
    · rcases List.mem_cons.1 hq with h2 | h2
      · rw [h1, h2]
      · exact absurd (List.mem_map.2 ⟨q, h2, by rw [← he, h1]⟩) hn.1
    · rcases List.mem_cons.1 hq with h2 | h2
      · exact absurd (List.mem_map.2 ⟨p, h1, by rw [he, h2]⟩) hn.1
      · exact ent_uniq f hn.2 h1 h2 he

/-- The state behind so many acts. -/
structure PSt (w : World) (l : List CAct) (c b room k : Nat) (G : Nat → Prop) (R : List CAct) (W : World) : Prop where
  ca : CA G W w.heap.size c room (R.map entR)
  rc : RCAt W w.heap.size b room R
  mem : ∀ x ∈ R, x ∈ l
  len : R.length ≤ k
  below : Below w.heap.size w W

theorem rsum_few {l R : List CAct} (hf : fewC l = true) (hm : ∀ x ∈ R, x ∈ l) : rsum R ≤ 2001 * R.length := by
  induction R with
  | nil => exact Nat.le_refl _
  | cons x t ih =>
    have h1 := ih fun y hy => hm y (List.mem_cons_of_mem _ hy)
    have h2 := ((fewC_of hf).2 x (hm x (by simp))).2
    rw [rsum_cons, List.length_cons]
    omega

theorem PSt.keys {w : World} {l : List CAct} {c b room k : Nat} {G : Nat → Prop} {R : List CAct} {W : World} (h : PSt w l c b room k G R W) {a : Option Addr} {len cap : Nat} (ha : CActsAt w a len cap l) (hf : fewC l = true) : ∀ W', Below w.heap.size w W' → RKeys W' R := fun W' hb x hx => by
  obtain ⟨_, _, _, _, h5⟩ := ha.2.2 x (h.mem x hx)
  obtain ⟨h1, h2⟩ := (fewC_of hf).2 x (h.mem x hx)
  exact ⟨h5.below' hb, by omega, by omega⟩

def G1of (g7 s g : Nat) : Prop := g < g7 ∨ s ≤ g

def PlaysRel (w : World) (l : List CAct) (c b room : Nat) (i : Value) (wr : World) : Prop :=
  ∃ (k : Nat) (G : Nat → Prop) (R : List CAct), i = .int .i64 (k : Int) ∧ k ≤ l.length ∧ PSt w l c b room k G R wr

/-- While a row of one's own is turned. -/
def TurnRel (w : World) (l : List CAct) (c b room k : Nat) (G : Nat → Prop) (R : List CAct) (g n : Nat) (i : Value) (wi : World) : Prop :=
  ∃ (j : Nat), i = .int .i64 (j : Int) ∧ j ≤ n ∧ PSt w l c b room k G R wi ∧ (0 < n → ∃ cs, wi.heap[g]? = some (Obj.cells cs 9 (0, 0)) ∧ n ≤ cs.size)

/-- A row of one's own, if it has anything, lies in a block that the cache hasn't. -/
theorem NewRow.block {B : Nat} {w : World} {v : Value} {l : List ByteArray} (h : NewRow B w v l) : ∃ a cap g, v = .slice a l.length cap ∧ Reads w 1 (.slice a l.length cap) l.length (scells l) ∧ (0 < l.length → a = some ⟨g, 0, none⟩ ∧ B ≤ g ∧ ∃ cs, w.heap[g]? = some (Obj.cells cs 9 (0, 0)) ∧ l.length ≤ cs.size) := by
  obtain ⟨a, cap, rfl, h2, h3⟩ := h
  cases a with
  | none =>
    refine ⟨none, cap, 0, rfl, h2, fun h0 => ?_⟩
    obtain ⟨_, _, _, he, _⟩ := h2.scell 0 h0
    cases he
  | some a =>
    obtain ⟨hB, cs, hc, cap', hv, hl⟩ := h3 a.block rfl
    injection hv with hv _ _
    injection hv with hv
    exact ⟨_, cap, a.block, rfl, h2, fun _ => ⟨by rw [hv], hB, cs, hc, hl⟩⟩

theorem PSt.turn {w : World} {l : List CAct} {c b room k : Nat} {G : Nat → Prop} {R : List CAct} {W : World} (h : PSt w l c b room k G R W) {g : Nat} {cs : Array Value} (hg : W.heap[g]? = some (Obj.cells cs 9 (0, 0))) (hG : ¬ G g) (hw : w.heap.size ≤ g) (j : Nat) (u : Value) : PSt w l c b room k G R (W.setCell ⟨g, j, none⟩ u) :=
  ⟨h.ca.setS hg hG j u, h.rc.setS hg j u, h.mem, h.len, h.below.setCell (p := ⟨g, j, none⟩) hw u⟩

theorem PSt.fresh {w : World} {l : List CAct} {c b room k : Nat} {G : Nat → Prop} {R : List CAct} {W W' : World} (h : PSt w l c b room k G R W) (hb : Below W.heap.size W W') : PSt w l c b room k G R W' :=
  ⟨h.ca.fresh hb, h.rc.below hb, h.mem, h.len, h.below.trans (hb.mono h.below.size)⟩

theorem PSt.more {w : World} {l : List CAct} {c b room k : Nat} {G : Nat → Prop} {R : List CAct} {W : World} (h : PSt w l c b room k G R W) : PSt w l c b room (k + 1) G R W :=
  ⟨h.ca, h.rc, h.mem, Nat.le_succ_of_le h.len, h.below⟩
end Go.Proofs.Ytdooedlapoknbaa
