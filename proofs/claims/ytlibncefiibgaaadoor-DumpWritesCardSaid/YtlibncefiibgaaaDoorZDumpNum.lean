/- Numbers as texts: dump's end, the reference's Decimal. -/
import Derived.Test.YtlibncefiibgaaaDoorZDumpM
import Derived.Test.YtlibncefiibgaaaDoorZShelf
import Derived.Test.YtlibncefiibgaaaDoorMga
import Derived.Lib.AppendIntMem
import Derived.Lib.SmallJoins
import Derived.Lib.ItoaLen
namespace Go.Proofs.YtlibncefiibgaaaDoor
open Go Go.RowKit

def Pow10 (w : World) : Prop := Lib.TabIs Tryd.prog w "internal/strconv.uint64pow10" .u64 Lib.pow10Tab

theorem gPow : Tryd.prog.globalNamed "internal/strconv.uint64pow10" = some 1 := by kernel_rfl

theorem Pow10.lt {w : World} (h : Pow10 w) : 1 < w.heap.size :=
  World.block_lt_of_cell? _ _ (Lib.TabIs.cell h gPow 0 (by rw [Lib.pow10Tab_length]; decide))

theorem Pow10.stays {B : Nat} {w w' : World} (h : Pow10 w) (h1 : 1 < B) (hb : Below B w w') : Pow10 w' := by
  unfold Pow10 Lib.TabIs World.var? at h ⊢
  rw [gPow] at h ⊢
  simp only [Option.bind_some] at h ⊢
  rw [hb.block 1 h1]
  exact h

theorem Pow10.below {w w' : World} (h : Pow10 w) (hb : Below w.heap.size w w') : Pow10 w' := h.stays h.lt hb

theorem itoa_any (w : World) (n : Nat) (hn : n ≤ 1000000000) (hp : Pow10 w) : Calls Tryd.prog 39 #[.int .i64 (n : Int)] w (GivesVal w (.string ⟨(Lib.decDigits n).toArray⟩)) :=
  (Tryd.strconv_Itoa (n : Int) (by omega) (by omega) w hp).mono fun e w' h => by
    obtain ⟨h1, k, os, rfl⟩ := h
    have e1 : Lib.itoa (n : Int) = Lib.decDigits n := by
      unfold Lib.itoa
      rw [if_neg (by omega)]
      rfl
    rw [e1] at h1
    exact ⟨h1, Lib.below_grow _ w (Nat.le_refl _) k os⟩

theorem dec_size (n : Nat) (hn : n < 18446744073709551616) : (ByteArray.mk (Lib.decDigits n).toArray).size ≤ 20 := by
  show (Lib.decDigits n).toArray.size ≤ 20
  rw [List.size_toArray, Lib.decDigits_length]
  exact Lib.nDigits_le20 n hn

set_option maxRecDepth 100000 in
theorem end_any (w : World) (n : Nat) (hn : n ≤ 1000000000) (hp : Pow10 w) : Calls Tryd.prog 23 #[.int .i64 (n : Int)] w (GivesVal w (.string (endB n))) := by
  have hI := itoa_any w n hn hp
  have hds := dec_size n (by omega)
  unfold endB
  generalize (ByteArray.mk (Lib.decDigits n).toArray) = d at *
  have HI := Lib.hid hI
  clear hp hI
  go_enter Tryd.func23, Tryd.ntmps23
  go_wp2_with (go_at_call 39; go_must (refine HI.out.mono ?_))
  rintro e w1 ⟨rfl, b1⟩
  go_wp2
  go_ret
  exact ⟨rfl, b1⟩

theorem dec_small {n : Nat} (h : n < 10) : Lib.decDigits n = [UInt8.ofNat (48 + n)] := Lib.decDigits_one h
theorem dec_big {n : Nat} (h : ¬ n < 10) : Lib.decDigits n = Lib.decDigits (n / 10) ++ [UInt8.ofNat (48 + n % 10)] := by
  rw [Lib.decDigits, dif_neg h]

theorem y_litF {P : Program} {ρ : Operand → Value} {o : Oper} {w : World} {e : TypeId} {cs : Array Value} {n : Nat} (h : (execOp ρ o).run P w = .ok (.value (.slice (some ⟨w.heap.size, 0, none⟩) n n)) (w.alloc (.cells cs e))) : YieldsP P ρ o w (fun u w' => (litF e cs n).1 u w' ∧ Below w.heap.size w w') := by
  unfold YieldsP
  rw [h]
  exact ⟨⟨w.heap.size, rfl, heap_alloc_new w _⟩, (Below.refl _ _).alloc (Nat.le_refl _) _⟩

theorem lit_one (W : World) (g k : Nat) (hk : k < 10) (h : W.heap[g]? = some (.cells #[.int .u8 (48 + (k : Int))] 5 (0, 0))) : Reads W 1 (.slice (some ⟨g, 0, none⟩) 1 1) 1 (bcells [UInt8.ofNat (48 + k)]) := by
  have e1 : (Value.int .u8 (48 + (k : Int))) = .int .u8 ((UInt8.ofNat (48 + k)).toNat : Int) := by
    rw [UInt8.toNat_ofNat']
    congr 1
    omega
  rw [e1] at h
  refine ⟨rfl, _, 1, rfl, Nat.le_refl _, by decide, fun j u hj => ⟨g, 0, rfl, (Array.getElem?_eq_some_iff.1 h).1, ?_⟩⟩
  rw [Nat.zero_add, Lib.cell_of_heap h j]
  simpa [bcells] using hj

set_option maxRecDepth 100000 in
set_option maxHeartbeats 1000000 in
theorem decimal_any : ∀ (n : Nat) (w : World), n ≤ 1000000000 → Calls Tryd.prog 28 #[.int .i64 (n : Int)] w (GivesVal w (.string ⟨(Lib.decDigits n).toArray⟩)) := by
  intro n
  induction n using Nat.strongRecOn with
  | ind n ih =>
    intro w hn
    by_cases h10 : n < 10
    · have hnI : (n : Int) < 10 := by omega
      have hn0 : ¬ (n : Int) < 0 := by omega
      rw [dec_small h10]
      have e1 : (Value.int .u8 (48 + (n : Int))) = .int .u8 ((UInt8.ofNat (48 + n)).toNat : Int) := by
        rw [UInt8.toNat_ofNat']
        congr 1
        omega
      have hr : Reads (w.alloc (.cells #[.int .u8 (48 + (n : Int))] 5)) 1 (.slice (some ⟨w.heap.size, 0, none⟩) 1 1) 1 (bcells [UInt8.ofNat (48 + n)]) :=
        ⟨rfl, _, 1, rfl, Nat.le_refl _, by decide, fun j u hj => ⟨_, 0, rfl, by simp, by
          rw [Nat.zero_add, World.cell?_alloc_new w _ _ j, e1]
          simpa [bcells] using hj⟩⟩
      have hc := Reads.conv (P := Tryd.prog) (src := 41) (e := 5) (dst := 9) Tryd.underlying41 Tryd.underlying5 Tryd.underlying9 hr
      clear ih e1 hr
      go_enter Tryd.func28, Tryd.ntmps28
      go_wp2
      go_ret
      exact ⟨rfl, (Below.refl _ _).alloc (Nat.le_refl _) _⟩
    · have hnI : ¬ (n : Int) < 10 := by omega
      have hn0 : ¬ (n : Int) < 0 := by omega
      have hd : (n : Int).tdiv 10 = ((n / 10 : Nat) : Int) := by rw [Int.tdiv_eq_ediv_of_nonneg (by omega)]; omega
      have hm : (n : Int).tmod 10 = ((n % 10 : Nat) : Int) := by rw [Int.tmod_eq_emod_of_nonneg (by omega)]; omega
      have hih := fun w => ih (n / 10) (by omega) w (by omega)
      rw [dec_big h10]
      have hds := dec_size (n / 10) (by omega)
      have hap : (ByteArray.mk (Lib.decDigits (n / 10) ++ [UInt8.ofNat (48 + n % 10)]).toArray) = (ByteArray.mk (Lib.decDigits (n / 10)).toArray) ++ ByteArray.mk #[UInt8.ofNat (48 + n % 10)] := by
        apply ByteArray.ext
        simp
      rw [hap]
      generalize (ByteArray.mk (Lib.decDigits (n / 10)).toArray) = d at *
      obtain ⟨k, hk⟩ : ∃ k, n % 10 = k := ⟨_, rfl⟩
      obtain ⟨m, hmm⟩ : ∃ m, n / 10 = m := ⟨_, rfl⟩
      have hk9 : k < 10 := by omega
      rw [hk] at hm ⊢
      rw [hmm] at hd hih
      have HI := Lib.hid hih
      have HRd := Lib.hid (fun (W : World) (g : Nat) (h : W.heap[g]? = some (.cells #[.int .u8 (48 + (k : Int))] 5 (0, 0))) => lit_one W g k hk9 h)
      obtain ⟨c, hce⟩ : ∃ c, (ByteArray.mk #[UInt8.ofNat (48 + k)]) = c := ⟨_, rfl⟩
      have hcs : c.size = 1 := by rw [← hce]; rfl
      have HCe2 : Hid ((ByteArray.mk #[48 + UInt8.ofNat k]) = c) := Lib.hid (by rw [← hce]; simp)
      have hdc : d.size + c.size ≤ 9223372036854775807 := by omega
      have hw1 : IntKind.i64.wrap ((n : Int) / 10) = (m : Int) := by rw [IntKind.wrap_i64]; omega
      have hw3 : IntKind.i64.wrap (48 + (k : Int)) = 48 + (k : Int) := by rw [IntKind.wrap_i64]; omega
      have hw4 : IntKind.u8.wrap (48 + (k : Int)) = 48 + (k : Int) := by rw [IntKind.wrap_u8]; omega
      rw [hce]
      clear ih hap hih hk hmm hce
      go_enter Tryd.func28, Tryd.ntmps28
      go_wp2_with fail
      refine wp_region_all (by kernel_rfl) [eqF (.int .i64 (n : Int)), eqF (.int .i64 (m : Int)), eqF (.string d), eqF (.int .i64 (n : Int)), eqF (.int .i64 (k : Int)), eqF (.int .i64 (48 + (k : Int))), eqF (.int .u8 (48 + (k : Int))), litF 5 #[.int .u8 (48 + (k : Int))] 1, eqF (.string c), eqF (.string (d ++ c)), eqF (.string (d ++ c))] (by kernel_rfl) ⟨?_, ?_, ?_, ?_, ?_, ?_, ?_, ?_, ?_, ?_, ?_, trivial⟩ ⟨trivial, trivial, trivial, trivial, trivial, trivial, trivial, trivial, trivial, trivial, trivial, trivial⟩ ?_
      · intro ρ wx hρ hbx hl
        have e0 : ρ (.tmp 0) = .int .i64 (n : Int) := hρ.tmp 0 (by decide +kernel)
        refine y_val (v := .int .i64 (n : Int)) ?_ rfl
        simp [execOp, go_sem, e0]
      · intro ρ wx hρ hbx hl
        have e16 : ρ (.tmp 16) = .int .i64 (n : Int) := hl 0 (by decide +kernel) 16 rfl
        refine y_val (v := .int .i64 (m : Int)) ?_ rfl
        simp [execOp, hρ.const, go_sem, e16, hw1]
      · intro ρ wx hρ hbx hl
        have e17 : ρ (.tmp 17) = .int .i64 (m : Int) := hl 1 (by decide +kernel) 17 rfl
        refine y_call (f := 28) (args := #[.int .i64 (m : Int)]) (by simp [execOp, resolve, invoke, hρ.func, go_sem, e17]) ?_
        refine (HI.out wx).mono ?_
        rintro e w6 ⟨rfl, b7⟩
        exact ⟨_, rfl, rfl, b7⟩
      · intro ρ wx hρ hbx hl
        have e0 : ρ (.tmp 0) = .int .i64 (n : Int) := hρ.tmp 0 (by decide +kernel)
        refine y_val (v := .int .i64 (n : Int)) ?_ rfl
        simp [execOp, go_sem, e0]
      · intro ρ wx hρ hbx hl
        have e19 : ρ (.tmp 19) = .int .i64 (n : Int) := hl 3 (by decide +kernel) 19 rfl
        refine y_val (v := .int .i64 (k : Int)) ?_ rfl
        simp [execOp, hρ.const, go_sem, e19, hm]
      · intro ρ wx hρ hbx hl
        have e20 : ρ (.tmp 20) = .int .i64 (k : Int) := hl 4 (by decide +kernel) 20 rfl
        refine y_val (v := .int .i64 (48 + (k : Int))) ?_ rfl
        simp [execOp, hρ.const, go_sem, e20, hw3]
      · intro ρ wx hρ hbx hl
        have e21 : ρ (.tmp 21) = .int .i64 (48 + (k : Int)) := hl 5 (by decide +kernel) 21 rfl
        refine y_val (v := .int .u8 (48 + (k : Int))) ?_ rfl
        simp [execOp, go_sem, e21, hw4]
      · intro ρ wx hρ hbx hl
        have e22 : ρ (.tmp 22) = .int .u8 (48 + (k : Int)) := hl 6 (by decide +kernel) 22 rfl
        refine y_litF ?_
        simp [execOp, go_sem, e22]
      · intro ρ wx hρ hbx hl
        have e23 := hl 7 (by decide +kernel) 23 rfl
        obtain ⟨g, h23, hg⟩ := e23
        have hc := Reads.conv (P := Tryd.prog) (src := 41) (e := 5) (dst := 9) Tryd.underlying41 Tryd.underlying5 Tryd.underlying9 (HRd.out wx g hg)
        refine y_val (v := .string c) ?_ rfl
        simp [execOp, go_sem, h23, hc]
        exact HCe2.out
      · intro ρ wx hρ hbx hl
        have e18 : ρ (.tmp 18) = .string d := hl 2 (by decide +kernel) 18 rfl
        have e24 : ρ (.tmp 24) = .string c := hl 8 (by decide +kernel) 24 rfl
        refine y_val (v := .string (d ++ c)) ?_ rfl
        simp [execOp, go_sem, e18, e24, hdc]
      · intro ρ wx hρ hbx hl
        have e25 : ρ (.tmp 25) = .string (d ++ c) := hl 9 (by decide +kernel) 25 rfl
        refine y_val (v := .string (d ++ c)) ?_ rfl
        simp [execOp, go_sem, e25]
      intro aa wz hdef hsz hlk hbz hf
      have ha := act_of_like hdef hsz hlk [16, 17, 18, 19, 20, 21, 22, 23, 24, 25, 2] 26 rfl (by decide +kernel)
      have e16 : aa.tmps.getD 16 undef = .int .i64 (n : Int) := hf 0 _ 16 rfl rfl
      have e17 : aa.tmps.getD 17 undef = .int .i64 (m : Int) := hf 1 _ 17 rfl rfl
      have e18 : aa.tmps.getD 18 undef = .string d := hf 2 _ 18 rfl rfl
      have e19 : aa.tmps.getD 19 undef = .int .i64 (n : Int) := hf 3 _ 19 rfl rfl
      have e20 : aa.tmps.getD 20 undef = .int .i64 (k : Int) := hf 4 _ 20 rfl rfl
      have e21 : aa.tmps.getD 21 undef = .int .i64 (48 + (k : Int)) := hf 5 _ 21 rfl rfl
      have e22 : aa.tmps.getD 22 undef = .int .u8 (48 + (k : Int)) := hf 6 _ 22 rfl rfl
      have e24 : aa.tmps.getD 24 undef = .string c := hf 8 _ 24 rfl rfl
      have e25 : aa.tmps.getD 25 undef = .string (d ++ c) := hf 9 _ 25 rfl rfl
      have e2 : aa.tmps.getD 2 undef = .string (d ++ c) := hf 10 _ 2 rfl rfl
      simp only [putAll, List.foldl_cons, List.foldl_nil, e16, e17, e18, e19, e20, e21, e22, e24, e25, e2] at ha
      generalize aa.tmps.getD 23 undef = v23 at ha
      simp [Act.put] at ha
      subst ha
      clear hdef hsz hlk hf e16 e17 e18 e19 e20 e21 e22 e24 e25 e2
      go_wp2
      go_ret
      exact ⟨rfl, hbz⟩
end Go.Proofs.YtlibncefiibgaaaDoor
