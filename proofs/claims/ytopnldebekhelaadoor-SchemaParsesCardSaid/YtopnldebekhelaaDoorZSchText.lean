/- A rule's text. -/
import Derived.Test.YtopnldebekhelaaDoorZSchM
namespace Go.Proofs.YtopnldebekhelaaDoor
open Go Go.RowKit

def thisS : List UInt8 := [116, 104, 105, 115]
def arrowS : List UInt8 := [45, 62]
def barS : List UInt8 := [32, 124, 32]
def ampS : List UInt8 := [32, 38, 32]

/-- May it stand there? -/
def okR (above : Int) (h : RuH) (n : Nat) : Bool :=
  if h.kind = 1 then decide (h.a = cNone) && decide (h.b = cNone) && decide (n = 0)
  else if h.kind = 2 then isRefB h.a && decide (h.b = cNone) && decide (n = 0)
  else if h.kind = 3 then isRefB h.a && isRefB h.b && decide (n = 0)
  else if h.kind = 4 ∨ h.kind = 5 then decide (h.a = cNone) && decide (h.b = cNone) && decide (h.kind ≠ above) && decide (2 ≤ n)
  else false

mutual
def textF (above : Int) (d : Nat) : Tr RuH → Option (List UInt8)
  | .mk h ps => if okR above h ps.length = true then
      if h.kind = 4 then (if above = 5 then (if d < 8 then (goT 4 (d + 1) barS true ps).map (fun s => 40 :: (s ++ [41])) else none) else goT 4 d barS true ps)
      else if h.kind = 5 then goT 5 d ampS true ps
      else if h.kind = 1 then some thisS
      else if h.kind = 2 then some h.a.data.toList
      else some (h.a.data.toList ++ arrowS ++ h.b.data.toList)
    else none
def goT (k : Int) (d : Nat) (sep : List UInt8) (first : Bool) : List (Tr RuH) → Option (List UInt8)
  | [] => some []
  | p :: ps => match textF k d p with
    | none => none
    | some s => match goT k d sep false ps with
      | none => none
      | some r => some ((if first = true then [] else sep) ++ s ++ r)
end

theorem textF_mk (above : Int) (d : Nat) (h : RuH) (ps : List (Tr RuH)) : textF above d (.mk h ps) = if okR above h ps.length = true then
      if h.kind = 4 then (if above = 5 then (if d < 8 then (goT 4 (d + 1) barS true ps).map (fun s => 40 :: (s ++ [41])) else none) else goT 4 d barS true ps)
      else if h.kind = 5 then goT 5 d ampS true ps
      else if h.kind = 1 then some thisS
      else if h.kind = 2 then some h.a.data.toList
      else some (h.a.data.toList ++ arrowS ++ h.b.data.toList)
    else none := by rw [textF]
theorem goT_nil (k : Int) (d : Nat) (sep : List UInt8) (first : Bool) : goT k d sep first [] = some [] := by rw [goT]
theorem goT_cons (k : Int) (d : Nat) (sep : List UInt8) (first : Bool) (p : Tr RuH) (ps : List (Tr RuH)) : goT k d sep first (p :: ps) = match textF k d p with
    | none => none
    | some s => match goT k d sep false ps with
      | none => none
      | some r => some ((if first = true then [] else sep) ++ s ++ r) := by rw [goT]

mutual
theorem textF_wt (above : Int) (d : Nat) : ∀ (t : Tr RuH) (s : List UInt8), textF above d t = some s → s.length + 3 ≤ t.wt
  | .mk h ps, s, e => by
    rw [textF_mk] at e
    rw [wt_mk]
    have ha : h.a.data.toList.length = h.a.size := Array.length_toList
    have hb : h.b.data.toList.length = h.b.size := Array.length_toList
    split at e
    · rename_i hok
      split at e
      · rename_i hk
        have hn : 2 ≤ ps.length := by
          unfold okR at hok
          rw [if_neg (by omega), if_neg (by omega), if_neg (by omega), if_pos (.inl hk)] at hok
          simp at hok
          exact hok.2
        split at e
        · split at e
          · cases hg : goT 4 (d + 1) barS true ps with
            | none => rw [hg] at e; cases e
            | some r =>
              rw [hg] at e
              simp at e
              subst e
              have := goT_wt 4 (d + 1) barS rfl true ps r hg
              simp
              omega
          · cases e
        · have := goT_wt 4 d barS rfl true ps s e
          omega
      · split at e
        · have := goT_wt 5 d ampS rfl true ps s e
          omega
        · split at e
          · cases e; simp [thisS]; omega
          · split at e
            · cases e; omega
            · cases e
              simp [arrowS]
              omega
    · cases e
theorem goT_wt (k : Int) (d : Nat) (sep : List UInt8) (hs : sep.length = 3) (first : Bool) : ∀ (ps : List (Tr RuH)) (s : List UInt8), goT k d sep first ps = some s → s.length ≤ wtL ps
  | [], s, e => by rw [goT_nil] at e; cases e; simp
  | p :: ps, s, e => by
    rw [goT_cons] at e
    rw [wtL_cons]
    split at e
    · cases e
    · rename_i s1 h1
      have i1 := textF_wt k d p s1 h1
      split at e
      · cases e
      · rename_i r h2
        have i2 := goT_wt k d sep hs false ps r h2
        cases e
        simp only [List.length_append]
        split
        · simp; omega
        · omega
end
end Go.Proofs.YtopnldebekhelaaDoor
