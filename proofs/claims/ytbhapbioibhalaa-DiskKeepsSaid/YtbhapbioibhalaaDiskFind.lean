/- ready, find. -/
import Derived.Test.YtbhapbioibhalaaDiskS
import Derived.Test.YtbhapbioibhalaaStrs
namespace Go.Proofs.Ytbhapbioibhalaa
open Go Go.RowKit Go.Maps

theorem strU : Try.prog.underlying 9 = some .string := Try.underlying9
theorem dmapU : Try.prog.underlying 53 = some (.map 9 63) := by kernel_rfl
theorem zeroFl (w : World) : (zeroValue 63).run Try.prog w = .ok (.pointer none) w := by kernel_rfl
theorem strK : Keyed Try.prog 9 := string_keyed strU
theorem sKey {s : ByteArray} (hs : s.size ≤ maxLen) : keyOf Try.prog 9 (.string s) = some (sL s) := WideMaps.keyOf_string_mk strU hs

def fileV : Option Nat → Value
  | some g => .pointer (some ⟨g, 0, none⟩)
  | none => .pointer none

/-- What the map tells of a name. -/
theorem look_run {W : World} {m : Nat} {l : Dir} (h : MapAt W m l) {s : ByteArray} (hs : s.size ≤ maxLen) :
    (Instr.lookup 53 (.map (some m)) (.string s) true).run Try.prog W = .ok (.tuple #[fileV (fileOf l s), .bool (fileOf l s).isSome]) W := by
  obtain ⟨D, hown, hd⟩ := h
  obtain ⟨v, ps, hrun, hv⟩ := hown.look_ok strK dmapU (zeroFl W) (show fileR (.pointer none) = some (.lit (.bool false), []) from rfl) (sKey hs)
  cases e : fileOf l s with
  | some g =>
    rw [hd.2.2.1 s g e] at hv
    rw [hrun, fileR_inv hv, hd.2.1, e]
    rfl
  | none =>
    have hh : has D (sL s) = false := by rw [hd.2.1, e]; rfl
    rw [atKey_of_not_has hh] at hv
    rw [hrun, fileR_none hv, hh]
    rfl

def readyE (down : Bool) (l : List ByteArray) : Int := if down then 6 else if l.all nameOk then 0 else 2

def GivesI (w : World) (z : Int) (e : Ending) (w' : World) : Prop := e = .returned (.int .i64 z) ∧ Below w.heap.size w w'

set_option maxRecDepth 100000 in
theorem ready_nil (W : World) (v : Value) : Calls Try.prog 36 #[.pointer none, v] W (GivesI W 6) := by
  go_enter Try.func36, Try.ntmps36
  go_wp2
  go_ret
  exact ⟨rfl, Below.refl _ _⟩

def ReadyRel (W : World) (l : List ByteArray) (iv : Value) (wr : World) : Prop := ∃ k : Nat, iv = .int .i64 (k : Int) ∧ k ≤ l.length ∧ (l.take k).all nameOk = true ∧ Below W.heap.size W wr

variable {W : World} {B d : Nat} {S : Dk}

set_option maxRecDepth 100000 in
set_option maxHeartbeats 1000000 in
theorem ready_any (h : DAt W B d S) (v : Value) (l : List ByteArray) (hr : Reads W 1 v l.length (scells l)) (hs : ∀ s ∈ l, s.size ≤ 1000000000) :
    Calls Try.prog 36 #[.pointer (some ⟨d, 0, none⟩), v] W (GivesI W (readyE S.down l)) := by
  have c5 := Lib.cell_of_heap h.cell 5
  have hlt : d < W.heap.size := (Array.getElem?_eq_some_iff.1 h.cell).1
  simp [Dk.cells] at c5
  clear h
  obtain ⟨a, cap, hv, hc1, hc2⟩ := hr.le
  subst hv
  obtain ⟨n, hn⟩ : ∃ n, l.length = n := ⟨_, rfl⟩
  rw [hn] at hr hc1 ⊢
  have HR := Lib.hid hr
  have HS := Lib.hid hs
  unfold maxLen at hc2
  have HN := Lib.hid hn
  clear hr hs hn
  go_enter Try.func36, Try.ntmps36
  cases hd : S.down with
  | true =>
    rw [hd] at c5
    go_wp2
    go_ret
    exact ⟨rfl, Below.refl _ _⟩
  | false =>
    rw [hd] at c5
    clear hd
    go_wp2
    go_loopw [17] (fun iv wr => ReadyRel W l iv wr) (fun iv _ => n - (intOf iv).toNat)
    case atStart => exact ⟨0, rfl, Nat.zero_le _, rfl, Below.refl _ _⟩
    case round =>
      obtain ⟨k, rfl, hk, hall, hb⟩ := hrel
      rw [HN.out] at hk
      have HAll := Lib.hid hall
      have HB := Lib.hid hb
      clear hall hb
      by_cases hlt2 : k < n
      · obtain ⟨s, hs⟩ : ∃ s, l[k]? = some s := ⟨_, List.getElem?_eq_getElem (by rw [HN.out]; exact hlt2)⟩
        obtain ⟨g, off, rfl, hg, k0⟩ := (HR.out.below' HB.out).at (j := k) (u := .string s) (by simp [scells, hs])
        have HSz := Lib.hid (HS.out s (List.mem_of_getElem? hs))
        have htk : (l.take (k + 1)).all nameOk = ((l.take k).all nameOk && nameOk s) := by rw [List.take_add_one, hs, List.all_append]; simp
        have HTk := Lib.hid htk
        have HM := Lib.hid (List.mem_of_getElem? hs)
        clear hs htk
        have hkI : (k : Int) < n := by omega
        cases hok : nameOk s with
        | true =>
          rw [hok] at HTk
          have HI := Lib.hid (fun w => isName_any w s HSz.out)
          rw [hok] at HI
          clear hok
          go_wp2_with (go_at_call 51; go_must (refine (HI.out _).mono ?_))
          rintro e w' ⟨rfl, b⟩
          go_wp2
          exact ⟨⟨k + 1, by go_num, by rw [HN.out]; omega, by rw [HTk.out, HAll.out]; rfl, HB.out.trans (b.mono HB.out.size)⟩, by simp [intOf]; omega⟩
        | false =>
          have HI := Lib.hid (fun w => isName_any w s HSz.out)
          rw [hok] at HI
          have hf : l.all nameOk = false := by rw [List.all_eq_false]; exact ⟨s, HM.out, by rw [hok]; decide⟩
          have HF := Lib.hid hf
          clear hok hf
          go_wp2_with (go_at_call 51; go_must (refine (HI.out _).mono ?_))
          rintro e w' ⟨rfl, b⟩
          go_wp2
          go_ret
          refine ⟨?_, HB.out.trans (b.mono HB.out.size)⟩
          unfold readyE
          rw [HF.out]
          rfl
      · have hf : l.all nameOk = true := by have := HAll.out; rwa [List.take_of_length_le (by rw [HN.out]; omega)] at this
        have HF := Lib.hid hf
        clear hf
        have hkI : ¬ (k : Int) < n := by omega
        go_wp2
        go_ret
        refine ⟨?_, HB.out⟩
        unfold readyE
        rw [HF.out]
        rfl

def findR (S : Dk) (s : ByteArray) : Option Nat × Int :=
  if readyE S.down [s] ≠ 0 then (none, readyE S.down [s]) else match fileOf S.dir s with
    | some g => (some g, 0)
    | none => (none, 4)

def FindPost (W : World) (r : Option Nat × Int) (e : Ending) (W' : World) : Prop := e = .returned (.tuple #[fileV r.1, .int .i64 r.2]) ∧ Below W.heap.size W W'

theorem ready_ok {S : Dk} {s : ByteArray} (h : readyE S.down [s] = 0) : S.down = false ∧ nameOk s = true ∧ s.size ≤ maxLen := by
  unfold readyE at h
  cases hd : S.down with
  | true => rw [hd] at h; simp at h
  | false =>
    rw [hd] at h
    cases hn : nameOk s with
    | false => simp [hn] at h
    | true =>
      refine ⟨rfl, rfl, ?_⟩
      unfold nameOk at hn
      simp at hn
      unfold maxLen
      omega

set_option maxRecDepth 100000 in
set_option maxHeartbeats 1000000 in
theorem find_any (h : DAt W B d S) (s : ByteArray) (hs : s.size ≤ 1000000000) :
    Calls Try.prog 39 #[.pointer (some ⟨d, 0, none⟩), .string s] W (FindPost W (findR S s)) := by
  have HH := Lib.hid h
  have HRd := Lib.hid (fun (w : World) (hb : Below W.heap.size W w) (v : Value) (hr : Reads w 1 v 1 (scells [s])) => ready_any (h.below hb) v [s] hr (by simpa using hs))
  have b0 : Below W.heap.size W (W.alloc (.cells #[.string s] 9)) := (Below.refl _ _).alloc (Nat.le_refl _) _
  have hr0 : Reads (W.alloc (.cells #[.string s] 9)) 1 (.slice (some ⟨W.heap.size, 0, none⟩) 1 1) 1 (scells [s]) := lit_reads (cs := scells [s]) (size := 1) (heap_alloc_new W _) rfl (by decide)
  have HB0 := Lib.hid b0
  have HR0 := Lib.hid hr0
  clear h b0 hr0
  go_enter Try.func39, Try.ntmps39
  go_wp2_with (go_at_call 36; go_must (refine (HRd.out _ HB0.out _ HR0.out).mono ?_))
  rintro e w1 ⟨rfl, b1⟩
  have b2 := HB0.out.trans (b1.mono HB0.out.size)
  by_cases hz : readyE S.down [s] = 0
  · obtain ⟨hdn, hok, hsz⟩ := ready_ok hz
    have h1 := HH.out.below b2
    have c0 := Lib.cell_of_heap h1.cell 0
    simp [Dk.cells] at c0
    have hl := look_run h1.fm hsz
    rw [hz]
    cases hf : fileOf S.dir s with
    | some g =>
      have hfr : findR S s = (some g, 0) := by unfold findR; rw [if_neg (by simp [hz]), hf]
      have HFr := Lib.hid hfr
      have HB2 := Lib.hid b2
      rw [hf] at hl
      simp only [fileV, Option.isSome_some] at hl
      clear hfr b2 h1 b1 hz hdn hok hf
      go_wp2
      go_ret2
      rw [HFr.out]
      exact ⟨rfl, HB2.out⟩
    | none =>
      have hfr : findR S s = (none, 4) := by unfold findR; rw [if_neg (by simp [hz]), hf]
      have HFr := Lib.hid hfr
      have HB2 := Lib.hid b2
      rw [hf] at hl
      simp only [fileV, Option.isSome_none] at hl
      clear hfr b2 h1 b1 hz hdn hok hf
      go_wp2
      go_ret2
      rw [HFr.out]
      exact ⟨rfl, HB2.out⟩
  · have hfr : findR S s = (none, readyE S.down [s]) := by unfold findR; rw [if_pos hz]
    have HFr := Lib.hid hfr
    have HB2 := Lib.hid b2
    clear hfr b2 b1
    generalize readyE S.down [s] = z at *
    go_wp2
    go_ret2
    rw [HFr.out]
    exact ⟨rfl, HB2.out⟩
end Go.Proofs.Ytbhapbioibhalaa
