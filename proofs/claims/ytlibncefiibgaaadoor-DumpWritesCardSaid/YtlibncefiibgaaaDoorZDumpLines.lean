/- The lines of a dump; what stays of a list put in order, each once. -/
import Derived.Test.YtlibncefiibgaaaDoorZDumpSort
import Derived.Test.YtlibncefiibgaaaDoorZBuilderG
namespace Go.Proofs.YtlibncefiibgaaaDoor
open Go Go.RowKit

def linesL (ts : List Six) : List UInt8 := ts.flatMap fun t => t.text.data.toList ++ [10]
def dumpL (ts : List Six) : List UInt8 := headB.data.toList ++ [10] ++ linesL ts ++ (endB ts.length).data.toList ++ [10]
def dumpB (ts : List Six) : ByteArray := ⟨(dumpL ts).toArray⟩

theorem linesL_snoc (ts : List Six) (t : Six) : linesL (ts ++ [t]) = linesL ts ++ t.text.data.toList ++ [10] := by simp [linesL]

theorem text_len605 (t : Six) (h : t.short 100) : t.text.size ≤ 605 := by
  obtain ⟨h1, h2, h3, h4, h5, h6⟩ := h
  have hb : t.base.size ≤ 504 := by
    unfold Six.base
    simp only [ByteArray.size_append]
    show t.a.size + 1 + t.b.size + 1 + t.c.size + 1 + t.d.size + 1 + t.e.size ≤ 504
    omega
  unfold Six.text
  split
  · omega
  · rw [ByteArray.size_append, ByteArray.size_append]
    show t.base.size + (1 + t.f.size) ≤ 605
    omega

theorem linesL_len : ∀ (ts : List Six), (∀ t ∈ ts, t.short 100) → (linesL ts).length ≤ 606 * ts.length
  | [], _ => Nat.zero_le _
  | t :: ts, h => by
    have ih := linesL_len ts fun u hu => h u (List.mem_cons_of_mem _ hu)
    have ht := text_len605 t (h t (List.mem_cons_self ..))
    have e : linesL (t :: ts) = t.text.data.toList ++ [10] ++ linesL ts := by simp [linesL]
    rw [e]
    simp only [List.length_append, List.length_cons, List.length_nil, Array.length_toList]
    have : t.text.data.size = t.text.size := rfl
    omega

theorem ddN_sub (l : List Six) : ∀ j, (ddN l j).Sublist (l.take j)
  | 0 => by simp [ddN]
  | 1 => by rw [ddN]; exact List.Sublist.refl _
  | j + 2 => by
    have ih := ddN_sub l (j + 1)
    rw [List.take_add_one]
    unfold ddN
    split
    · exact ih.trans (List.sublist_append_left ..)
    · exact ih.append (List.Sublist.refl _)

theorem once6_sub (l : List Six) : (once6 l).Sublist (srt6 l) := by
  have := ddN_sub (srt6 l) (srt6 l).length
  rwa [List.take_of_length_le (Nat.le_refl _)] at this
theorem once6_mem {l : List Six} {t : Six} (h : t ∈ once6 l) : t ∈ l := (srt6_perm l).mem_iff.1 ((once6_sub l).mem h)
theorem once6_len (l : List Six) : (once6 l).length ≤ l.length := by
  have h1 := (once6_sub l).length_le
  have h2 := (srt6_perm l).length_eq
  omega

/-- The tuples that may be, in order, each once. -/
noncomputable def goodL (l : List Six) : List Six := once6 (l.filter Six.ok)
theorem goodL_mem {l : List Six} {t : Six} (h : t ∈ goodL l) : t ∈ l ∧ t.ok = true := by
  have := once6_mem h
  rwa [List.mem_filter] at this
theorem goodL_len (l : List Six) : (goodL l).length ≤ l.length := Nat.le_trans (once6_len _) (List.length_filter_le ..)

def LinePostR (B b B2 : Nat) (v : Value) (n : Nat) (xs : List Value) (l : List UInt8) (w : World) (e : Ending) (w' : World) : Prop :=
  e = .returned (.tuple #[]) ∧ Lib.IsBuilder 43 5 B b (bcells l) w' ∧ Below B w w' ∧ w'.ownsRow B2 37 6 v n xs

theorem line_r (B b : Nat) (l : List UInt8) (s : ByteArray) (w : World) (B2 : Nat) (v : Value) (n : Nat) (xs : List Value) (hr : w.ownsRow B2 37 6 v n xs) (h : Lib.IsBuilder 43 5 B b (bcells l) w) (hl : l.length ≤ 1000000000) (hs : s.size ≤ 1000000000) (hB : B ≤ w.heap.size) :
    Calls Tryd.prog 14 #[.string s, .pointer (some ⟨b, 0, none⟩)] w (LinePostR B b B2 v n xs (l ++ s.data.toList ++ [10]) w) := by
  obtain ⟨hx, ⟨rfl, hz⟩ | ⟨g, cap, cur, rfl, hB2, hh, h1, h2, h3, h4⟩⟩ := hr
  · refine (line_any B b l s w h hl hs hB).mono ?_
    rintro e w' ⟨h1, h2, h3⟩
    exact ⟨h1, h2, h3, hx, .inl ⟨rfl, hz⟩⟩
  · refine (line_g B b l s w g cur hh h hl hs hB).mono ?_
    rintro e w' ⟨p1, p2, p3, p4⟩
    exact ⟨p1, p2, p3, hx, .inr ⟨g, cap, cur, rfl, hB2, p4, h1, h2, h3, h4⟩⟩
end Go.Proofs.YtlibncefiibgaaaDoor
