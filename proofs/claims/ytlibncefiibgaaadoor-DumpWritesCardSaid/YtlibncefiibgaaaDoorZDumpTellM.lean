/- What a dump's text tells: its tuples. -/
import Derived.Test.YtlibncefiibgaaaDoorZDumpSetM
import Derived.Test.YtlibncefiibgaaaDoorZTupleTextMath
namespace Go.Proofs.YtlibncefiibgaaaDoor
open Go Go.RowKit

theorem digits_free (c : UInt8) (hc : c.toNat < 48 ∨ 57 < c.toNat) : ∀ n, Free c (Lib.decDigits n) := by
  intro n
  induction n using Nat.strongRecOn with
  | ind n ih =>
    have hd : ∀ k, k < 10 → (UInt8.ofNat (48 + k)) ≠ c := by
      intro k hk e
      subst e
      rw [UInt8.toNat_ofNat'] at hc
      omega
    rw [Lib.decDigits]
    split
    · rename_i h
      intro b hb
      rw [List.mem_singleton] at hb
      subst hb
      exact hd n h
    · rename_i h
      intro b hb
      rcases List.mem_append.1 hb with hb | hb
      · exact ih (n / 10) (by omega) b hb
      · rw [List.mem_singleton] at hb
        subst hb
        exact hd (n % 10) (by omega)

theorem endB_data (n : Nat) : (endB n).data.toList = [101, 110, 100, 32] ++ Lib.decDigits n := by
  unfold endB
  simp

theorem end_free (n : Nat) (c : UInt8) (hc : c.toNat < 48 ∨ 57 < c.toNat) (h : c ∉ ([101, 110, 100, 32] : List UInt8)) : Free c (endB n).data.toList := by
  rw [endB_data]
  intro b hb
  rcases List.mem_append.1 hb with hb | hb
  · exact fun e => h (e ▸ hb)
  · exact digits_free c hc n b hb

theorem Free.append {c : UInt8} {l m : List UInt8} (h : Free c l) (k : Free c m) : Free c (l ++ m) := fun b hb => (List.mem_append.1 hb).elim (h b) (k b)
theorem Free.cons {c a : UInt8} {l : List UInt8} (h : a ≠ c) (k : Free c l) : Free c (a :: l) := fun b hb => (List.mem_cons.1 hb).elim (fun e => e ▸ h) (k b)

theorem text_free {t : Six} (h : t.ok = true) : Free 10 t.text.data.toList := by
  simp only [Six.ok, nameB, Bool.and_eq_true, Bool.or_eq_true, decide_eq_true_eq] at h
  obtain ⟨⟨⟨⟨⟨h1, h2⟩, h3⟩, h4⟩, h5⟩, h6⟩ := h
  rw [text_bytes]
  have ht : Free 10 t.tail := by
    unfold Six.tail
    split
    · intro b hb; cases hb
    · rename_i hf
      exact Free.cons (by decide) (free_name (h6.resolve_left hf) (by decide))
  exact (free_name h1 (by decide)).append (Free.cons (by decide) ((free_name h2 (by decide)).append (Free.cons (by decide) ((free_name h3 (by decide)).append (Free.cons (by decide) ((free_name h4 (by decide)).append (Free.cons (by decide) ((free_name h5 (by decide)).append ht))))))))

theorem text_not_end {t : Six} {n : Nat} : t.text ≠ endB n := by
  intro e
  have h : (58 : UInt8) ∈ t.text.data.toList := by rw [text_bytes]; simp
  rw [e] at h
  exact end_free n 58 (by decide) (by decide) 58 h rfl

theorem line_mem (x r : List UInt8) : (10 : UInt8) ∈ x ++ 10 :: r := by simp
theorem line_cut {x r : List UInt8} (h : Free 10 x) : cutAL (x ++ 10 :: r) 10 = x ∧ cutRL (x ++ 10 :: r) 10 = r := by
  have := takeWhile_free 10 x r h
  unfold cutAL cutRL
  rw [this.1, this.2]
  exact ⟨rfl, rfl⟩

theorem toBytes (s : ByteArray) : (ByteArray.mk s.data.toList.toArray) = s := rfl

theorem isText_text {t : Six} (h : t.ok = true) : isText t.text = true := by
  unfold isText
  rw [of_text h, h]
  simp

theorem read_lines (n : Nat) : ∀ (rest done : List Six) (at' : Nat), 2 ≤ at' → (done ++ rest).length = n → (∀ t ∈ rest, t.ok = true) → Strict6 (done ++ rest) →
    readD at' done (linesL rest ++ ((endB n).data.toList ++ [10])) = .ok (done ++ rest)
  | [], done, at', h2, hn, _, _ => by
    rw [List.append_nil] at *
    have hc := line_cut (r := []) (end_free n 10 (by decide) (by decide))
    show readD at' done ((endB n).data.toList ++ [10]) = _
    rw [readD_done (line_mem _ _) (by
      unfold takeD
      rw [hc.1, toBytes, if_neg (by omega), if_pos (by rw [hn])]), hc.2, if_pos rfl]
  | t :: rest, done, at', h2, hn, hok, hs => by
    have ht := hok t (List.mem_cons_self ..)
    have hl : linesL (t :: rest) ++ ((endB n).data.toList ++ [10]) = t.text.data.toList ++ 10 :: (linesL rest ++ ((endB n).data.toList ++ [10])) := by simp [linesL]
    have hc := line_cut (r := linesL rest ++ ((endB n).data.toList ++ [10])) (text_free ht)
    have hst : stepT done t = .more (done ++ [t]) := by
      unfold stepT
      cases hp : done.getLast? with
      | none => rfl
      | some p =>
        have hpm : p ∈ done := List.mem_of_getLast? hp
        have hlt : slt p t = true := (List.pairwise_append.1 hs).2.2 p hpm t (List.mem_cons_self ..)
        have : cmpBs p.list t.list < 0 := of_decide_eq_true hlt
        simp only
        rw [if_neg (by omega)]
    have htk : takeD at' done t.text = .more (done ++ [t]) := by
      unfold takeD
      rw [if_neg (by omega), if_neg text_not_end, if_pos (isText_text ht), of_text ht, hst]
    rw [hl, readD_more (line_mem _ _) (by rw [hc.1, toBytes]; exact htk), hc.2]
    have ih := read_lines n rest (done ++ [t]) (at' + 1) (by omega) (by rw [List.append_assoc]; exact hn) (fun u hu => hok u (List.mem_cons_of_mem _ hu)) (by rw [List.append_assoc]; exact hs)
    rw [ih, List.append_assoc]
    rfl

theorem read_dump (ts : List Six) (hok : ∀ t ∈ ts, t.ok = true) (hs : Strict6 ts) : readD 1 [] (dumpL ts) = .ok ts := by
  have hl : dumpL ts = headB.data.toList ++ 10 :: (linesL ts ++ ((endB ts.length).data.toList ++ [10])) := by simp [dumpL]
  have hc := line_cut (x := headB.data.toList) (r := linesL ts ++ ((endB ts.length).data.toList ++ [10])) (by intro b hb e; subst e; revert hb; decide)
  rw [hl, readD_more (ts' := []) (line_mem _ _) (by
    unfold takeD
    rw [hc.1, toBytes, if_pos rfl, if_pos rfl]), hc.2]
  have := read_lines ts.length ts [] 2 (Nat.le_refl _) rfl hok hs
  exact this

theorem dump_len (ts : List Six) (hs : ∀ t ∈ ts, t.short 100) (hn : ts.length ≤ 60) : (dumpB ts).size ≤ 40000 := by
  have h1 := linesL_len ts hs
  have h2 : (endB ts.length).data.toList.length ≤ 24 := by
    have := dec_size ts.length (by omega)
    rw [endB_data, List.length_append]
    have e1 : (ByteArray.mk (Lib.decDigits ts.length).toArray).size = (Lib.decDigits ts.length).length := by simp [ByteArray.size]
    have e2 : ([101, 110, 100, 32] : List UInt8).length = 4 := rfl
    omega
  have e0 : (dumpB ts).size = (dumpL ts).length := by simp [dumpB, ByteArray.size]
  have e3 : (headB.data.toList ++ [10]).length = 7 := rfl
  have e4 : ([10] : List UInt8).length = 1 := rfl
  rw [e0]
  unfold dumpL
  simp only [List.length_append] at e3 ⊢
  omega
end Go.Proofs.YtlibncefiibgaaaDoor
