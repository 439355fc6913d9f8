/- slices.Clone of bytes; Read, Sync, Append. -/
import Derived.Test.YtbhapbioibhalaaDiskUsed
import Derived.Lib.SliceRun
namespace Go.Proofs.Ytbhapbioibhalaa
open Go Go.RowKit Go.Maps

theorem info8 : (Try.prog.info? 5).map (fun i => (i.zero, i.size, i.bytes)) = some (some (.int .u8 0), 1, 1) := by kernel_rfl

theorem wpList_append_at_src {P : Program} {w : World} {B n size : Nat} {e : TypeId} {v : Value} {xs : List Value} {ops : Array Oper} {rest : List Oper} {o : Oper} {a : Act} {Q : Exit → Act → World → Prop} (hgd : o.guard = none) (s x : Operand) (t tx : TypeId)
    (ho : o.op = .call { callee := .builtin .append, args := #[s, x], argTypes := #[t, tx] })
    (i : TypeInfo) (z : Value) (bytes : Nat) (ht : P.underlying t = some (.slice e)) (hi : P.info? e = some i) (hz : i.zero = some z)
    (hsize : i.size = size) (hby : i.bytes = bytes) (hzs : z.cells.size = size)
    (hs : a.eval s = v) (hown : OwnAt w B e size v n xs) (xv : Value) (m : Nat) (news : List Value) (hx : a.eval x = xv) (hsrc : Src P size tx xv m news w)
    (h63 : n + m ≤ maxLen) (hbytes : (n + m) * bytes ≤ 140737488355328) (hB : B ≤ w.heap.size)
    (h : ∀ v' w', OwnAt w' B e size v' (n + m) (xs ++ news) → w.grownBy w' v.ownBlock → Below B w w' → (v'.ownBlock = v.ownBlock ∨ v'.ownBlock = some w.heap.size) → wpList P ops Q rest (a.put o.dst v') w') : wpList P ops Q (o :: rest) a w := by
  refine wpList_plain hgd fun K hK => ?_
  obtain ⟨v', w', hr, h2, h3, h4, h5⟩ := run_append_at2 (P := P) t tx o.type i z bytes ht hi hz hsize hby hzs hown xv m news hsrc h63 hbytes hB
  unfold Oper.wp execOp
  simp only [ho, resolve, invoke, builtin, Sem.run_bind, Sem.run_pure, Result.andThen_ok, List.map_toArray, List.map_cons, List.map_nil, hs, hx, hr]
  exact hK _ _ (h v' w' h2 h3 h4 h5)

def ClonePost (w : World) (l : List UInt8) (e : Ending) (w' : World) : Prop := ∃ v, e = .returned v ∧ w'.ownsRow w.heap.size 5 1 v l.length (bcells l) ∧ Below w.heap.size w w'

set_option maxRecDepth 100000 in
set_option maxHeartbeats 1000000 in
theorem clone_any (w : World) (v : Value) (l : List UInt8) (h : Reads w 1 v l.length (bcells l)) (hn : l.length ≤ 1000000000) :
    Calls Try.prog 40 #[v] w (ClonePost w l) := by
  obtain ⟨i0, hi, hz0, hz1, hz2⟩ := info_parts info8
  obtain ⟨x, cap, hv, h1, h2⟩ := h.le
  subst hv
  cases x with
  | none =>
    have hl0 : l = [] := by
      obtain ⟨_, a, cap', hv, h1, h2, h3⟩ := h
      cases l with
      | nil => rfl
      | cons y l =>
        obtain ⟨b, off, e, _⟩ := h3 0 _ rfl
        cases hv
        cases e
    subst hl0
    have hnil := Lib.run_eql_slice_nil (P := Try.prog) w 29 5 none 0 cap 0 0 Try.underlying29
    clear h
    go_enter Try.func40, Try.ntmps40
    go_wp2
    go_ret
    exact ⟨_, rfl, ⟨by simp [bcells], .inl ⟨rfl, rfl⟩⟩, Below.refl _ _⟩
  | some x =>
    have hsrc := Reads.src (P := Try.prog) (tx := 29) Try.underlying29 (h.alloc (.cells #[] 5)) (bcells_one l)
    have hf0 : (w.alloc (.cells #[] 5)).ownsRow w.heap.size 5 1 (.slice (some ⟨w.heap.size, 0, none⟩) 0 0) 0 [] := World.ownsRow_lit w #[] 0 (Nat.le_refl _) (Nat.zero_le _) rfl
    clear h
    obtain ⟨n, hn'⟩ : ∃ n, l.length = n := ⟨_, rfl⟩
    rw [hn'] at hsrc hn h1 ⊢
    have HN := Lib.hid hn'
    clear hn'
    have hnil := Lib.run_eql_slice_nil (P := Try.prog) w 29 5 (some x) n cap 0 0 Try.underlying29
    go_enter Try.func40, Try.ntmps40
    go_wp2_with (at_builtin; go_must (refine wpList_append_owns rfl _ _ 29 29 rfl w.heap.size 5 i0 (.int .u8 0) 1 1 Try.underlying29 hi hz0 hz1 hz2 rfl (.slice (some ⟨w.heap.size, 0, none⟩) 0 0) 0 [] rfl hf0 (.slice (some x) n cap) n (bcells l) rfl hsrc ?_ ?_ ?_ ?_))
    · unfold maxLen; omega
    · omega
    · simp
    intro v2 w2 f2 g2 b2 m2
    have b3 : Below w.heap.size w w2 := ((Below.refl _ _).alloc (Nat.le_refl _) _).trans b2
    have hf : w2.ownsRow w.heap.size 5 1 v2 l.length (bcells l) := by
      rw [HN.out]
      simpa using f2
    have HSt := Lib.hid hf
    clear f2 m2 hf
    go_wp2
    go_ret
    exact ⟨_, rfl, HSt.out, b3⟩

variable {W : World} {B d : Nat} {S : Dk}

/-- What is read. -/
def ReadPost (W : World) (S : Dk) (s : ByteArray) (e : Ending) (W' : World) : Prop :=
  ∃ v, e = .returned (.tuple #[v, .int .i64 (findR S s).2]) ∧ Below W.heap.size W W' ∧
    (((findR S s).1 = none ∧ (findR S s).2 ≠ 0 ∧ v = .slice none 0 0) ∨ ∃ g, findR S s = (some g, 0) ∧ W'.ownsRow W.heap.size 5 1 v (S.fl g).data.length (bcells (S.fl g).data))

theorem find_ways (S : Dk) (s : ByteArray) : (∃ g, findR S s = (some g, 0) ∧ fileOf S.dir s = some g) ∨ ∃ z, z ≠ 0 ∧ findR S s = (none, z) := by
  unfold findR
  by_cases hz : readyE S.down [s] = 0
  · rw [if_neg (by simp [hz])]
    cases hf : fileOf S.dir s with
    | none => exact .inr ⟨4, by decide, rfl⟩
    | some g => exact .inl ⟨g, rfl, rfl⟩
  · rw [if_pos hz]
    exact .inr ⟨_, hz, rfl⟩

set_option maxRecDepth 100000 in
set_option maxHeartbeats 2000000 in
theorem read_any (h : DAt W B d S) (s : ByteArray) (hs : s.size ≤ 1000000000) :
    Calls Try.prog 18 #[.pointer (some ⟨d, 0, none⟩), .string s] W (ReadPost W S s) := by
  have HFi := Lib.hid (find_any h s hs)
  have HH := Lib.hid h
  clear h
  go_enter Try.func18, Try.ntmps18
  go_wp2_with (go_at_call 39; go_must (refine HFi.out.mono ?_))
  rintro e w1 ⟨rfl, b1⟩
  rcases find_ways S s with ⟨g, hfr, hf⟩ | ⟨z, hz, hfr⟩
  · have hf1 := (HH.out.below b1).fs g (HH.out.fileIn hf)
    have HC := Lib.hid (fun w (hb : w = w1) => clone_any w (S.sl g) (S.fl g).data (by rw [hb]; exact hf1.2.1.reads) (by have := hf1.2.2.2; omega))
    have f0 := Lib.cell_of_heap hf1.1 0
    simp at f0
    have hlt : g < w1.heap.size := (Array.getElem?_eq_some_iff.1 hf1.1).1
    have HFr := Lib.hid hfr
    have HB := Lib.hid b1
    obtain ⟨fa, fc, hfv, _, _⟩ := hf1.2.1.reads.le
    rw [hfr]
    rw [hfv] at f0 HC
    clear hf1 hfr b1 hf
    simp only [fileV]
    go_wp2_with (go_at_call 40; go_must (refine (HC.out _ rfl).mono ?_))
    rintro e w2 ⟨v2, rfl, o2, b2⟩
    have HO := Lib.hid (owns_less o2 HB.out.size)
    have HB2 := Lib.hid (HB.out.trans (b2.mono HB.out.size))
    clear o2 b2
    go_wp2
    go_ret2
    refine ⟨v2, by rw [HFr.out]; rfl, HB2.out, .inr ⟨g, HFr.out, HO.out⟩⟩
  · have HFr := Lib.hid hfr
    have HB := Lib.hid b1
    have HZ := Lib.hid hz
    rw [hfr]
    clear hfr b1
    simp only [fileV]
    go_wp2
    go_ret2
    refine ⟨_, by rw [HFr.out]; rfl, HB.out, .inl ⟨by rw [HFr.out], by rw [HFr.out]; exact HZ.out, rfl⟩⟩
end Go.Proofs.Ytbhapbioibhalaa
