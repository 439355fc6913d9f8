/- The reader's node that is nothing; wire.GetResponse of a response that has an ID alone (written by gen_wireget0.py). -/
import Derived.Test.YtdonibkkdhokpaaGreatZWirePut0
import Derived.Test.YtdonibkkdhokpaaGreatZWireGet
import Derived.Test.YtdonibkkdhokpaaGreatMga
namespace Go.Proofs.YtdonibkkdhokpaaGreat
open Go Go.RowKit

theorem rlong_zero (r : List UInt8) : rlong (0 :: r) false = (0, r, false) := by
  have := rlong_zig (n := 0) (by unfold in64; omega) r
  rwa [show zig 0 = 0 from rfl, enc_zero] at this

theorem rtxt_zero (r : List UInt8) : rtxt (0 :: r) false = (⟨#[]⟩, r, false) := by
  have := rtxt_txt (s := ⟨#[]⟩) (by decide) r
  rwa [txt_zero] at this

theorem rwhole0 (B : Nat) (w : World) (g : Nat) (r : List UInt8) (d : Int) (h : RAt B w g (0 :: r) d false) : Calls Tryz.prog 36 #[.pointer (some ⟨g, 0, none⟩)] w (RPost B w g r d false (.int .i64 0)) := by
  have := rwhole_any2 B w g (0 :: r) d false h
  rwa [rlong_zero] at this

theorem rtext0 (B : Nat) (w : World) (g : Nat) (r : List UInt8) (d : Int) (h : RAt B w g (0 :: r) d false) : Calls Tryz.prog 37 #[.pointer (some ⟨g, 0, none⟩)] w (RPost B w g r d false (.string ⟨#[]⟩)) := by
  have := rtext_any B w g (0 :: r) d false h
  rwa [rtxt_zero] at this

theorem robj0 (B : Nat) (w : World) (g : Nat) (r : List UInt8) (d : Int) (h : RAt B w g (0 :: 0 :: r) d false) (hB : B ≤ w.heap.size) : Calls Tryz.prog 43 #[.pointer (some ⟨g, 0, none⟩)] w (RPost B w g r d false (.agg #[.string ⟨#[]⟩, .string ⟨#[]⟩])) := by
  have := robj_any B w g (0 :: 0 :: r) d false h hB
  unfold robj at this
  simp only [rtxt_zero] at this
  exact this

theorem y_store_row {P : Program} {ρ : Operand → Value} {o : Oper} {w : World} {J : World → Prop} (ty : TypeId) (x y : Operand) (ho : o.op = .store ty x y) (g : Nat) (cells : Array Value) (hx : ρ x = .pointer (some ⟨g, 0, none⟩)) (hy : ρ y = .agg cells)
    (t : TypeId) (old : Array Value) (hg : w.heap[g]? = some (.cells old t (0, 0))) (hi : (P.info? ty).map (·.size) = some cells.size) (hold : old.size = cells.size) (h1 : cells.all (·.oneCell') = true) (hJ : J (w.setRow g cells)) : YieldsP P ρ o w (fun u w' => u = undef ∧ J w') := by
  unfold YieldsP execOp
  simp only [ho, hx, hy, Instr.storeAt, Instr.sureAddr, Sem.run_bind, Sem.run_pure, Result.andThen_ok, run_storeVar_row w g t ty old cells hg hi hold h1]
  exact ⟨trivial, hJ⟩

theorem touch_row {w w' : World} {l : List Nat} {g : Nat} (h : Touch w w' l) (hg : g ∈ l) (cs : Array Value) : Touch w (w'.setRow g cs) l :=
  h.same ⟨rfl, rfl, rfl, Nat.le_of_eq (setRow_size _ _ _).symm, fun _ _ hk => setRow_other _ _ _ _ (fun e => hk (e ▸ hg))⟩

theorem RAt.setRow {B : Nat} {w : World} {g c : Nat} {l : List UInt8} {d : Int} {b : Bool} (h : RAt B w g l d b) (hne : c ≠ g) (hB : B ≤ c) (cs : Array Value) : RAt B (w.setRow c cs) g l d b := by
  obtain ⟨u, h1, h2, h3⟩ := h
  exact ⟨u, (setRow_other _ _ _ _ (fun e => hne e.symm)).trans h1, h2.below (below_setRow (Below.refl B w) hB cs), h3⟩

def restN (L : Nat → Bool) (R : List UInt8) : List UInt8 :=
  if L 13 = true then R else if L 9 = true then 0 :: R else if L 5 = true then 0 :: 0 :: R else if L 3 = true then 0 :: 0 :: 0 :: R else if L 1 = true then 0 :: 0 :: 0 :: 0 :: 0 :: R else 0 :: 0 :: 0 :: 0 :: 0 :: 0 :: R

def Ord (L : Nat → Bool) : Prop := (L 3 = true → L 1 = true) ∧ (L 5 = true → L 3 = true) ∧ (L 9 = true → L 5 = true) ∧ (L 13 = true → L 9 = true)

theorem ord_none {L : Nat → Bool} (h : ∀ i, i < 16 → L i = false) : Ord L := by
  unfold Ord
  rw [h 3 (by decide), h 5 (by decide), h 9 (by decide), h 13 (by decide)]
  simp

theorem restN_none {L : Nat → Bool} (R : List UInt8) (h : ∀ i, i < 16 → L i = false) : restN L R = 0 :: 0 :: 0 :: 0 :: 0 :: 0 :: R := by
  unfold restN
  rw [h 1 (by decide), h 3 (by decide), h 5 (by decide), h 9 (by decide), h 13 (by decide)]
  rfl

theorem ord_1 {L : Nat → Bool} (R : List UInt8) (h : Ord L) (h1 : L 1 = false) : Ord (setL L 1) ∧ restN L R = 0 :: 0 :: 0 :: 0 :: 0 :: 0 :: R ∧ restN (setL L 1) R = 0 :: 0 :: 0 :: 0 :: 0 :: R := by
  obtain ⟨o1, o2, o3, o4⟩ := h
  have h3 : L 3 = false := by cases h : L 3 with | false => rfl | true => rw [o1 h] at h1; cases h1
  have h5 : L 5 = false := by cases h : L 5 with | false => rfl | true => rw [o2 h] at h3; cases h3
  have h9 : L 9 = false := by cases h : L 9 with | false => rfl | true => rw [o3 h] at h5; cases h5
  have h13 : L 13 = false := by cases h : L 13 with | false => rfl | true => rw [o4 h] at h9; cases h9
  unfold Ord restN setL
  simp [h1, h3, h5, h9, h13]

theorem ord_3 {L : Nat → Bool} (R : List UInt8) (h : Ord L) (h3 : L 3 = false) (h1 : L 1 = true) : Ord (setL L 3) ∧ restN L R = 0 :: 0 :: 0 :: 0 :: 0 :: R ∧ restN (setL L 3) R = 0 :: 0 :: 0 :: R := by
  obtain ⟨o1, o2, o3, o4⟩ := h
  have h5 : L 5 = false := by cases h : L 5 with | false => rfl | true => rw [o2 h] at h3; cases h3
  have h9 : L 9 = false := by cases h : L 9 with | false => rfl | true => rw [o3 h] at h5; cases h5
  have h13 : L 13 = false := by cases h : L 13 with | false => rfl | true => rw [o4 h] at h9; cases h9
  unfold Ord restN setL
  simp [h1, h3, h5, h9, h13]

theorem ord_5 {L : Nat → Bool} (R : List UInt8) (h : Ord L) (h5 : L 5 = false) (h3 : L 3 = true) : Ord (setL L 5) ∧ restN L R = 0 :: 0 :: 0 :: R ∧ restN (setL L 5) R = 0 :: 0 :: R := by
  obtain ⟨o1, o2, o3, o4⟩ := h
  have h1 := o1 h3
  have h9 : L 9 = false := by cases h : L 9 with | false => rfl | true => rw [o3 h] at h5; cases h5
  have h13 : L 13 = false := by cases h : L 13 with | false => rfl | true => rw [o4 h] at h9; cases h9
  unfold Ord restN setL
  simp [h1, h3, h5, h9, h13]

theorem ord_9 {L : Nat → Bool} (R : List UInt8) (h : Ord L) (h9 : L 9 = false) (h5 : L 5 = true) : Ord (setL L 9) ∧ restN L R = 0 :: 0 :: R ∧ restN (setL L 9) R = 0 :: R := by
  obtain ⟨o1, o2, o3, o4⟩ := h
  have h3 := o2 h5
  have h1 := o1 h3
  have h13 : L 13 = false := by cases h : L 13 with | false => rfl | true => rw [o4 h] at h9; cases h9
  unfold Ord restN setL
  simp [h1, h3, h5, h9, h13]

theorem ord_13 {L : Nat → Bool} (R : List UInt8) (h : Ord L) (h13 : L 13 = false) (h9 : L 9 = true) : Ord (setL L 13) ∧ restN L R = 0 :: R ∧ restN (setL L 13) R = R := by
  obtain ⟨o1, o2, o3, o4⟩ := h
  have h5 := o3 h9
  have h3 := o2 h5
  have h1 := o1 h3
  unfold Ord restN setL
  simp [h1, h3, h5, h9, h13]

def NI (B : Nat) (w0 : World) (g b1 b2 : Nat) (R : List UInt8) (d : Int) (L : Nat → Bool) (w : World) : Prop :=
  Ord L ∧ RAt B w g (restN L R) d false ∧ Touch w0 w [g, b2] ∧ w.heap[b1]? = some (.cells #[.pointer (some ⟨g, 0, none⟩)] 96 (0, 0)) ∧ w.heap[b2]? = some (.cells #[.int .i64 0, .string ⟨#[]⟩, .string ⟨#[]⟩, .string ⟨#[]⟩, .slice none 0 0, .slice none 0 0] 34 (0, 0))

theorem ni_keep {B : Nat} {w0 w : World} {g b1 b2 : Nat} {R : List UInt8} {d : Int} {L : Nat → Bool} {i : Nat} (hi : i ≠ 1 ∧ i ≠ 3 ∧ i ≠ 5 ∧ i ≠ 9 ∧ i ≠ 13) (h : NI B w0 g b1 b2 R d L w) : NI B w0 g b1 b2 R d (setL L i) w := by
  obtain ⟨h1, h3, h5, h9, h13⟩ := hi
  have e1 : setL L i 1 = L 1 := by unfold setL; rw [if_neg (Ne.symm h1)]
  have e3 : setL L i 3 = L 3 := by unfold setL; rw [if_neg (Ne.symm h3)]
  have e5 : setL L i 5 = L 5 := by unfold setL; rw [if_neg (Ne.symm h5)]
  have e9 : setL L i 9 = L 9 := by unfold setL; rw [if_neg (Ne.symm h9)]
  have e13 : setL L i 13 = L 13 := by unfold setL; rw [if_neg (Ne.symm h13)]
  unfold NI Ord restN at h ⊢
  rw [e1, e3, e5, e9, e13]
  exact h

def NCPost (B : Nat) (w : World) (g b2 : Nat) (R : List UInt8) (d : Int) (e : Ending) (w' : World) : Prop :=
  e = .returned (.tuple #[]) ∧ RAt B w' g R d false ∧ Touch w w' [g, b2] ∧ w'.heap[b2]? = some (.cells #[.int .i64 0, .string ⟨#[]⟩, .string ⟨#[]⟩, .string ⟨#[]⟩, .slice none 0 0, .slice none 0 0] 34 (0, 0))

set_option maxRecDepth 100000 in
set_option maxHeartbeats 4000000 in
theorem rnodeclo0 (w : World) (B g b1 b2 : Nat) (R : List UInt8) (d : Int) (hr : RAt B w g (0 :: 0 :: 0 :: 0 :: 0 :: 0 :: R) d false) (hB : B ≤ w.heap.size) (hbB : B ≤ b2) (hn1 : b1 ≠ g) (hn2 : b2 ≠ g) (hn12 : b1 ≠ b2) (h1 : w.heap[b1]? = some (.cells #[.pointer (some ⟨g, 0, none⟩)] 96 (0, 0))) (h2 : w.heap[b2]? = some (.cells #[.int .i64 0, .string ⟨#[]⟩, .string ⟨#[]⟩, .string ⟨#[]⟩, .slice none 0 0, .slice none 0 0] 34 (0, 0))) :
    Calls Tryz.prog 104 #[.pointer (some ⟨b1, 0, none⟩), .pointer (some ⟨b2, 0, none⟩)] w (NCPost B w g b2 R d) := by
  have hmf : ∀ (fn : Fn) (first cap : Array Value) (w : World), (Instr.makeFunc fn first cap).run Tryz.prog w = .ok (.func fn first cap) w := fun _ _ _ _ => rfl
  have HR := Lib.hid hr
  have H1 := Lib.hid h1
  have H2 := Lib.hid h2
  clear hr h1 h2
  go_enter Tryz.func104, Tryz.ntmps104
  go_upto_region 0 with fail
  refine wp_region_state (by kernel_rfl) [.pointer (some ⟨g, 0, none⟩), .int .i64 0, .pointer (some ⟨g, 0, none⟩), .agg #[.string ⟨#[]⟩, .string ⟨#[]⟩], .pointer (some ⟨g, 0, none⟩), .string ⟨#[]⟩, .pointer (some ⟨g, 0, none⟩), .pointer (some ⟨g, 0, none⟩), .func (.func 99) #[.pointer (some ⟨g, 0, none⟩)] #[], .slice none 0 0, .pointer (some ⟨g, 0, none⟩), .pointer (some ⟨g, 0, none⟩), .func (.func 48) #[.pointer (some ⟨g, 0, none⟩)] #[], .slice none 0 0, .agg #[.int .i64 0, .string ⟨#[]⟩, .string ⟨#[]⟩, .string ⟨#[]⟩, .slice none 0 0, .slice none 0 0], undef] (by kernel_rfl) (by kernel_rfl) (fun L W => NI B w g b1 b2 R d L W) ?_ ⟨?_, ?_, ?_, ?_, ?_, ?_, ?_, ?_, ?_, ?_, ?_, ?_, ?_, ?_, ?_, ?_, trivial⟩ ?_
  · intro L hL0
    exact ⟨ord_none hL0, by rw [restN_none R hL0]; exact HR.out.below (Below.refl w.heap.size w).drew hB, (Touch.refl w _).drew, H1.out, H2.out⟩
  · intro ρ wx L hρ hL hd hl hI
    have e0 : ρ (.tmp 0) = .pointer (some ⟨b1, 0, none⟩) := hρ.tmp 0 (by decide +kernel)
    have kk : wx.cell? ⟨b1, 0, none⟩ = some (.pointer (some ⟨g, 0, none⟩)) := by simpa using Lib.cell_of_heap hI.2.2.2.1 0
    refine s_val (v := .pointer (some ⟨g, 0, none⟩)) ?_ rfl ?_
    · simp [execOp, go_sem, e0, kk]
    · exact ni_keep (by decide) hI
  · intro ρ wx L hρ hL hd hl hI
    have e2 : ρ (.tmp 2) = .pointer (some ⟨g, 0, none⟩) := hl 0 (by decide +kernel) 2 rfl
    obtain ⟨ho, hr, ht, hp1, hp2⟩ := id hI
    refine s_call (f := 36) (args := #[.pointer (some ⟨g, 0, none⟩)]) (by simp [execOp, resolve, invoke, hρ.func, go_sem, e2]) ?_
    obtain ⟨hq1, hq2, hq3⟩ := ord_1 R ho hL
    rw [hq2] at hr
    refine (rwhole0 B wx g _ d hr).mono ?_
    rintro e w6 ⟨rfl, h6, t6⟩
    exact ⟨rfl, hq1, by rw [hq3]; exact h6, ht.trans t6 (fun _ h => h) (fun x h => .inl (by simp at h; simp [h])), t6.keep hp1 (by simpa using hn1), t6.keep hp2 (by simpa using hn2)⟩
  · intro ρ wx L hρ hL hd hl hI
    have e0 : ρ (.tmp 0) = .pointer (some ⟨b1, 0, none⟩) := hρ.tmp 0 (by decide +kernel)
    have kk : wx.cell? ⟨b1, 0, none⟩ = some (.pointer (some ⟨g, 0, none⟩)) := by simpa using Lib.cell_of_heap hI.2.2.2.1 0
    refine s_val (v := .pointer (some ⟨g, 0, none⟩)) ?_ rfl ?_
    · simp [execOp, go_sem, e0, kk]
    · exact ni_keep (by decide) hI
  · intro ρ wx L hρ hL hd hl hI
    have e4 : ρ (.tmp 4) = .pointer (some ⟨g, 0, none⟩) := hl 2 (by decide +kernel) 4 rfl
    obtain ⟨ho, hr, ht, hp1, hp2⟩ := id hI
    refine s_call (f := 43) (args := #[.pointer (some ⟨g, 0, none⟩)]) (by simp [execOp, resolve, invoke, hρ.func, go_sem, e4]) ?_
    obtain ⟨hq1, hq2, hq3⟩ := ord_3 R ho hL (hd 1 (by decide +kernel))
    rw [hq2] at hr
    refine (robj0 B wx g _ d hr (Nat.le_trans hB ht.size)).mono ?_
    rintro e w6 ⟨rfl, h6, t6⟩
    exact ⟨rfl, hq1, by rw [hq3]; exact h6, ht.trans t6 (fun _ h => h) (fun x h => .inl (by simp at h; simp [h])), t6.keep hp1 (by simpa using hn1), t6.keep hp2 (by simpa using hn2)⟩
  · intro ρ wx L hρ hL hd hl hI
    have e0 : ρ (.tmp 0) = .pointer (some ⟨b1, 0, none⟩) := hρ.tmp 0 (by decide +kernel)
    have kk : wx.cell? ⟨b1, 0, none⟩ = some (.pointer (some ⟨g, 0, none⟩)) := by simpa using Lib.cell_of_heap hI.2.2.2.1 0
    refine s_val (v := .pointer (some ⟨g, 0, none⟩)) ?_ rfl ?_
    · simp [execOp, go_sem, e0, kk]
    · exact ni_keep (by decide) hI
  · intro ρ wx L hρ hL hd hl hI
    have e6 : ρ (.tmp 6) = .pointer (some ⟨g, 0, none⟩) := hl 4 (by decide +kernel) 6 rfl
    obtain ⟨ho, hr, ht, hp1, hp2⟩ := id hI
    refine s_call (f := 37) (args := #[.pointer (some ⟨g, 0, none⟩)]) (by simp [execOp, resolve, invoke, hρ.func, go_sem, e6]) ?_
    obtain ⟨hq1, hq2, hq3⟩ := ord_5 R ho hL (hd 3 (by decide +kernel))
    rw [hq2] at hr
    refine (rtext0 B wx g _ d hr).mono ?_
    rintro e w6 ⟨rfl, h6, t6⟩
    exact ⟨rfl, hq1, by rw [hq3]; exact h6, ht.trans t6 (fun _ h => h) (fun x h => .inl (by simp at h; simp [h])), t6.keep hp1 (by simpa using hn1), t6.keep hp2 (by simpa using hn2)⟩
  · intro ρ wx L hρ hL hd hl hI
    have e0 : ρ (.tmp 0) = .pointer (some ⟨b1, 0, none⟩) := hρ.tmp 0 (by decide +kernel)
    have kk : wx.cell? ⟨b1, 0, none⟩ = some (.pointer (some ⟨g, 0, none⟩)) := by simpa using Lib.cell_of_heap hI.2.2.2.1 0
    refine s_val (v := .pointer (some ⟨g, 0, none⟩)) ?_ rfl ?_
    · simp [execOp, go_sem, e0, kk]
    · exact ni_keep (by decide) hI
  · intro ρ wx L hρ hL hd hl hI
    have e0 : ρ (.tmp 0) = .pointer (some ⟨b1, 0, none⟩) := hρ.tmp 0 (by decide +kernel)
    have kk : wx.cell? ⟨b1, 0, none⟩ = some (.pointer (some ⟨g, 0, none⟩)) := by simpa using Lib.cell_of_heap hI.2.2.2.1 0
    refine s_val (v := .pointer (some ⟨g, 0, none⟩)) ?_ rfl ?_
    · simp [execOp, go_sem, e0, kk]
    · exact ni_keep (by decide) hI
  · intro ρ wx L hρ hL hd hl hI
    have e9 : ρ (.tmp 9) = .pointer (some ⟨g, 0, none⟩) := hl 7 (by decide +kernel) 9 rfl
    refine s_val (v := .func (.func 99) #[.pointer (some ⟨g, 0, none⟩)] #[]) ?_ rfl ?_
    · simp [execOp, go_sem, e9]
    · exact ni_keep (by decide) hI
  · intro ρ wx L hρ hL hd hl hI
    have e8 : ρ (.tmp 8) = .pointer (some ⟨g, 0, none⟩) := hl 6 (by decide +kernel) 8 rfl
    have e10 : ρ (.tmp 10) = .func (.func 99) #[.pointer (some ⟨g, 0, none⟩)] #[] := hl 8 (by decide +kernel) 10 rfl
    obtain ⟨ho, hr, ht, hp1, hp2⟩ := id hI
    refine s_call (f := 105) (args := #[.pointer (some ⟨g, 0, none⟩), .func (.func 99) #[.pointer (some ⟨g, 0, none⟩)] #[]]) (by simp [execOp, resolve, invoke, hρ.func, go_sem, e8, e10]) ?_
    obtain ⟨hq1, hq2, hq3⟩ := ord_9 R ho hL (hd 5 (by decide +kernel))
    rw [hq2] at hr
    refine (getSubs_nil B wx g _ d _ hr).mono ?_
    rintro e w6 ⟨rfl, h6, t6⟩
    exact ⟨rfl, hq1, by rw [hq3]; exact h6, ht.trans t6 (fun _ h => h) (fun x h => .inl (by simp at h; simp [h])), t6.keep hp1 (by simpa using hn1), t6.keep hp2 (by simpa using hn2)⟩
  · intro ρ wx L hρ hL hd hl hI
    have e0 : ρ (.tmp 0) = .pointer (some ⟨b1, 0, none⟩) := hρ.tmp 0 (by decide +kernel)
    have kk : wx.cell? ⟨b1, 0, none⟩ = some (.pointer (some ⟨g, 0, none⟩)) := by simpa using Lib.cell_of_heap hI.2.2.2.1 0
    refine s_val (v := .pointer (some ⟨g, 0, none⟩)) ?_ rfl ?_
    · simp [execOp, go_sem, e0, kk]
    · exact ni_keep (by decide) hI
  · intro ρ wx L hρ hL hd hl hI
    have e0 : ρ (.tmp 0) = .pointer (some ⟨b1, 0, none⟩) := hρ.tmp 0 (by decide +kernel)
    have kk : wx.cell? ⟨b1, 0, none⟩ = some (.pointer (some ⟨g, 0, none⟩)) := by simpa using Lib.cell_of_heap hI.2.2.2.1 0
    refine s_val (v := .pointer (some ⟨g, 0, none⟩)) ?_ rfl ?_
    · simp [execOp, go_sem, e0, kk]
    · exact ni_keep (by decide) hI
  · intro ρ wx L hρ hL hd hl hI
    have e13 : ρ (.tmp 13) = .pointer (some ⟨g, 0, none⟩) := hl 11 (by decide +kernel) 13 rfl
    refine s_val (v := .func (.func 48) #[.pointer (some ⟨g, 0, none⟩)] #[]) ?_ rfl ?_
    · simp [execOp, go_sem, e13]
    · exact ni_keep (by decide) hI
  · intro ρ wx L hρ hL hd hl hI
    have e12 : ρ (.tmp 12) = .pointer (some ⟨g, 0, none⟩) := hl 10 (by decide +kernel) 12 rfl
    have e14 : ρ (.tmp 14) = .func (.func 48) #[.pointer (some ⟨g, 0, none⟩)] #[] := hl 12 (by decide +kernel) 14 rfl
    obtain ⟨ho, hr, ht, hp1, hp2⟩ := id hI
    refine s_call (f := 106) (args := #[.pointer (some ⟨g, 0, none⟩), .func (.func 48) #[.pointer (some ⟨g, 0, none⟩)] #[]]) (by simp [execOp, resolve, invoke, hρ.func, go_sem, e12, e14]) ?_
    obtain ⟨hq1, hq2, hq3⟩ := ord_13 R ho hL (hd 9 (by decide +kernel))
    rw [hq2] at hr
    refine (getNodes_nil B wx g _ d _ hr).mono ?_
    rintro e w6 ⟨rfl, h6, t6⟩
    exact ⟨rfl, hq1, by rw [hq3]; exact h6, ht.trans t6 (fun _ h => h) (fun x h => .inl (by simp at h; simp [h])), t6.keep hp1 (by simpa using hn1), t6.keep hp2 (by simpa using hn2)⟩
  · intro ρ wx L hρ hL hd hl hI
    have e3 : ρ (.tmp 3) = .int .i64 0 := hl 1 (by decide +kernel) 3 rfl
    have e5 : ρ (.tmp 5) = .agg #[.string ⟨#[]⟩, .string ⟨#[]⟩] := hl 3 (by decide +kernel) 5 rfl
    have e7 : ρ (.tmp 7) = .string ⟨#[]⟩ := hl 5 (by decide +kernel) 7 rfl
    have e11 : ρ (.tmp 11) = .slice none 0 0 := hl 9 (by decide +kernel) 11 rfl
    have e15 : ρ (.tmp 15) = .slice none 0 0 := hl 13 (by decide +kernel) 15 rfl
    refine s_val (v := .agg #[.int .i64 0, .string ⟨#[]⟩, .string ⟨#[]⟩, .string ⟨#[]⟩, .slice none 0 0, .slice none 0 0]) ?_ rfl ?_
    · simp [execOp, go_sem, e3, e5, e7, e11, e15]
    · exact ni_keep (by decide) hI
  · intro ρ wx L hρ hL hd hl hI
    have e1 : ρ (.tmp 1) = .pointer (some ⟨b2, 0, none⟩) := hρ.tmp 1 (by decide +kernel)
    have e16 : ρ (.tmp 16) = .agg #[.int .i64 0, .string ⟨#[]⟩, .string ⟨#[]⟩, .string ⟨#[]⟩, .slice none 0 0, .slice none 0 0] := hl 14 (by decide +kernel) 16 rfl
    obtain ⟨ho, hr, ht, hp1, hp2⟩ := id hI
    refine y_store_row _ _ _ rfl b2 _ e1 e16 _ _ hp2 (by kernel_rfl) rfl (by kernel_rfl) ?_
    have hs := setRow_heap wx b2 #[.int .i64 0, .string ⟨#[]⟩, .string ⟨#[]⟩, .string ⟨#[]⟩, .slice none 0 0, .slice none 0 0] #[.int .i64 0, .string ⟨#[]⟩, .string ⟨#[]⟩, .string ⟨#[]⟩, .slice none 0 0, .slice none 0 0] 34 (0, 0) hp2
    exact ni_keep (by decide) ⟨ho, RAt.setRow hr hn2 hbB _, touch_row ht (by simp) _, (setRow_other _ _ _ _ hn12).trans hp1, hs⟩
  · intro aa wz L hdef hsz hlk hL hI hf
    have ha := act_of_like hdef hsz hlk [2, 3, 4, 5, 6, 7, 8, 9, 10, 11, 12, 13, 14, 15, 16] 17 rfl (by decide +kernel)
    have e2 : aa.tmps.getD 2 undef = .pointer (some ⟨g, 0, none⟩) := hf 0 _ 2 rfl rfl
    have e3 : aa.tmps.getD 3 undef = .int .i64 0 := hf 1 _ 3 rfl rfl
    have e4 : aa.tmps.getD 4 undef = .pointer (some ⟨g, 0, none⟩) := hf 2 _ 4 rfl rfl
    have e5 : aa.tmps.getD 5 undef = .agg #[.string ⟨#[]⟩, .string ⟨#[]⟩] := hf 3 _ 5 rfl rfl
    have e6 : aa.tmps.getD 6 undef = .pointer (some ⟨g, 0, none⟩) := hf 4 _ 6 rfl rfl
    have e7 : aa.tmps.getD 7 undef = .string ⟨#[]⟩ := hf 5 _ 7 rfl rfl
    have e8 : aa.tmps.getD 8 undef = .pointer (some ⟨g, 0, none⟩) := hf 6 _ 8 rfl rfl
    have e9 : aa.tmps.getD 9 undef = .pointer (some ⟨g, 0, none⟩) := hf 7 _ 9 rfl rfl
    have e10 : aa.tmps.getD 10 undef = .func (.func 99) #[.pointer (some ⟨g, 0, none⟩)] #[] := hf 8 _ 10 rfl rfl
    have e11 : aa.tmps.getD 11 undef = .slice none 0 0 := hf 9 _ 11 rfl rfl
    have e12 : aa.tmps.getD 12 undef = .pointer (some ⟨g, 0, none⟩) := hf 10 _ 12 rfl rfl
    have e13 : aa.tmps.getD 13 undef = .pointer (some ⟨g, 0, none⟩) := hf 11 _ 13 rfl rfl
    have e14 : aa.tmps.getD 14 undef = .func (.func 48) #[.pointer (some ⟨g, 0, none⟩)] #[] := hf 12 _ 14 rfl rfl
    have e15 : aa.tmps.getD 15 undef = .slice none 0 0 := hf 13 _ 15 rfl rfl
    have e16 : aa.tmps.getD 16 undef = .agg #[.int .i64 0, .string ⟨#[]⟩, .string ⟨#[]⟩, .string ⟨#[]⟩, .slice none 0 0, .slice none 0 0] := hf 14 _ 16 rfl rfl
    simp only [putAll, List.foldl_cons, List.foldl_nil, e2, e3, e4, e5, e6, e7, e8, e9, e10, e11, e12, e13, e14, e15, e16] at ha
    simp [Act.put] at ha
    subst ha
    clear hdef hsz hlk hf e2 e3 e4 e5 e6 e7 e8 e9 e10 e11 e12 e13 e14 e15 e16
    have hfin : restN L R = R := by unfold restN; rw [if_pos (hL 13 (by decide))]
    obtain ⟨_, hr, ht, _, hp2⟩ := hI
    rw [hfin] at hr
    clear hL hfin
    go_wp2
    go_end0
    exact ⟨rfl, hr, ht, hp2⟩

theorem RAt.depth {B : Nat} {w : World} {g : Nat} {l : List UInt8} {d : Int} {b : Bool} (h : RAt B w g l d b) (d' : Int) : RAt B (w.setCell ⟨g, 1, none⟩ (.int .i64 d')) g l d' b := by
  obtain ⟨u, h1, h2, h3⟩ := h
  exact ⟨u, by rw [heap_setCell_same _ _ 1 _ _ _ h1]; rfl, h2.below ((Below.refl B w).setCell (p := ⟨g, 1, none⟩) h3 _), h3⟩

theorem RAt.badSet {B : Nat} {w : World} {g : Nat} {l : List UInt8} {d : Int} {b : Bool} (h : RAt B w g l d b) (b' : Bool) : RAt B (w.setCell ⟨g, 2, none⟩ (.bool b')) g l d b' := by
  obtain ⟨u, h1, h2, h3⟩ := h
  exact ⟨u, by rw [heap_setCell_same _ _ 2 _ _ _ h1]; rfl, h2.below ((Below.refl B w).setCell (p := ⟨g, 2, none⟩) h3 _), h3⟩

set_option maxRecDepth 100000 in
set_option maxHeartbeats 2000000 in
theorem rwithin0 (w : World) (B g b1 b2 : Nat) (R : List UInt8) (d : Int) (h : RAt B w g (0 :: 0 :: 0 :: 0 :: 0 :: 0 :: R) d false) (hB : B ≤ w.heap.size) (hd : 0 ≤ d ∧ d < 64) (hbB : B ≤ b2) (hn1 : b1 ≠ g) (hn2 : b2 ≠ g) (hn12 : b1 ≠ b2) (hp1 : w.heap[b1]? = some (.cells #[.pointer (some ⟨g, 0, none⟩)] 96 (0, 0))) (hp2 : w.heap[b2]? = some (.cells #[.int .i64 0, .string ⟨#[]⟩, .string ⟨#[]⟩, .string ⟨#[]⟩, .slice none 0 0, .slice none 0 0] 34 (0, 0))) :
    Calls Tryz.prog 103 #[.pointer (some ⟨g, 0, none⟩), .func (.func 104) #[] #[.pointer (some ⟨b1, 0, none⟩), .pointer (some ⟨b2, 0, none⟩)]] w (NCPost B w g b2 R d) := by
  have hen : ∀ (args : Array Value) (w : World), (callFunc 104 args).run Tryz.prog w = .ok (.enter 104 args) w := fun _ _ => by kernel_rfl
  have hg := h.lt
  have hBg : B ≤ g := by obtain ⟨_, _, _, h3⟩ := h; exact h3
  obtain ⟨a, h1, _, _⟩ := id h
  have c1 := Lib.cell_of_heap h1 1
  have c2 := Lib.cell_of_heap h1 2
  have cf1 := Lib.frozen_of_heap h1 1
  have cf2 := Lib.frozen_of_heap h1 2
  simp at c1 c2
  have hw1 := (h.depth (d + 1)).badSet false
  have ht1 : Touch w ((w.setCell ⟨g, 1, none⟩ (.int .i64 (d + 1))).setCell ⟨g, 2, none⟩ (.bool false)) [g] := ((Touch.refl w [g]).setCell (p := ⟨g, 1, none⟩) (.inl (by simp)) _).setCell (p := ⟨g, 2, none⟩) (.inl (by simp)) _
  have HC := Lib.hid (rnodeclo0 _ B g b1 b2 R (d + 1) hw1 (Nat.le_trans hB ht1.size) hbB hn1 hn2 hn12 (ht1.keep hp1 (by simpa using hn1)) (ht1.keep hp2 (by simpa using hn2)))
  have HT1 := Lib.hid ht1
  have hwr : IntKind.i64.wrap (d + 1) = d + 1 := by rw [IntKind.wrap_i64]; omega
  have hwm : IntKind.i64.wrap (d + 1 - 1) = d := by rw [IntKind.wrap_i64]; omega
  have h64 : ¬ (64 : Int) < d + 1 := by omega
  clear h hw1 ht1 h1 hp1 hp2
  go_enter Tryz.func103, Tryz.ntmps103
  go_wp2_with (go_at_call 104; go_must (refine HC.out.mono ?_))
  rintro e w2 ⟨rfl, hw, ht, hp⟩
  have hgl := hw.lt
  obtain ⟨a2, h2, _, _⟩ := id hw
  have y1 := Lib.cell_of_heap h2 1
  have yf := Lib.frozen_of_heap h2 1
  simp at y1
  have HW := Lib.hid (hw.depth d)
  have HT := Lib.hid (((HT1.out.mono (m := [g, b2]) (fun x hx => by simp at hx; simp [hx])).same ht).setCell (p := ⟨g, 1, none⟩) (.inl (by simp)) (.int .i64 d))
  have HP := Lib.hid ((heap_setCell_other _ ⟨g, 1, none⟩ b2 (.int .i64 d) (by simpa using hn2)).trans hp)
  clear hw ht hp h2 HC HT1
  go_wp2
  go_end0
  exact ⟨rfl, HW.out, HT.out, HP.out⟩

set_option maxRecDepth 100000 in
set_option maxHeartbeats 2000000 in
theorem rnode0 (w : World) (B g : Nat) (R : List UInt8) (d : Int) (h : RAt B w g (0 :: 0 :: 0 :: 0 :: 0 :: 0 :: R) d false) (hB : B ≤ w.heap.size) (hd : 0 ≤ d ∧ d < 64) :
    Calls Tryz.prog 48 #[.pointer (some ⟨g, 0, none⟩)] w (RPost B w g R d false (.agg #[.int .i64 0, .string ⟨#[]⟩, .string ⟨#[]⟩, .string ⟨#[]⟩, .slice none 0 0, .slice none 0 0])) := by
  have hg := h.lt
  have hb0 : Below w.heap.size w (((w.alloc (.cells #[.pointer (some ⟨g, 0, none⟩)] 96)).alloc (.cells #[.int .i64 0, .string ⟨#[]⟩, .string ⟨#[]⟩, .string ⟨#[]⟩, .slice none 0 0, .slice none 0 0] 34)).alloc (.cells #[.int .i64 0, .string ⟨#[]⟩, .string ⟨#[]⟩, .string ⟨#[]⟩, .slice none 0 0, .slice none 0 0] 34)) := (((Below.refl _ _).alloc (Nat.le_refl _) _).alloc (by simp) _).alloc (by simp; omega) _
  have hx1 : (((w.alloc (.cells #[.pointer (some ⟨g, 0, none⟩)] 96)).alloc (.cells #[.int .i64 0, .string ⟨#[]⟩, .string ⟨#[]⟩, .string ⟨#[]⟩, .slice none 0 0, .slice none 0 0] 34)).alloc (.cells #[.int .i64 0, .string ⟨#[]⟩, .string ⟨#[]⟩, .string ⟨#[]⟩, .slice none 0 0, .slice none 0 0] 34)).heap[w.heap.size]? = some (.cells #[.pointer (some ⟨g, 0, none⟩)] 96 (0, 0)) := (Below.heap_alloc _ _ _ (by simp; omega)).trans ((Below.heap_alloc _ _ _ (by simp)).trans (heap_alloc_new _ _))
  have hx2 : (((w.alloc (.cells #[.pointer (some ⟨g, 0, none⟩)] 96)).alloc (.cells #[.int .i64 0, .string ⟨#[]⟩, .string ⟨#[]⟩, .string ⟨#[]⟩, .slice none 0 0, .slice none 0 0] 34)).alloc (.cells #[.int .i64 0, .string ⟨#[]⟩, .string ⟨#[]⟩, .string ⟨#[]⟩, .slice none 0 0, .slice none 0 0] 34)).heap[w.heap.size + 1]? = some (.cells #[.int .i64 0, .string ⟨#[]⟩, .string ⟨#[]⟩, .string ⟨#[]⟩, .slice none 0 0, .slice none 0 0] 34 (0, 0)) := by
    refine (Below.heap_alloc _ _ _ (by simp)).trans ?_
    have := heap_alloc_new (w.alloc (.cells #[.pointer (some ⟨g, 0, none⟩)] 96)) (.cells #[.int .i64 0, .string ⟨#[]⟩, .string ⟨#[]⟩, .string ⟨#[]⟩, .slice none 0 0, .slice none 0 0] 34)
    simpa using this
  have hx3 : (((w.alloc (.cells #[.pointer (some ⟨g, 0, none⟩)] 96)).alloc (.cells #[.int .i64 0, .string ⟨#[]⟩, .string ⟨#[]⟩, .string ⟨#[]⟩, .slice none 0 0, .slice none 0 0] 34)).alloc (.cells #[.int .i64 0, .string ⟨#[]⟩, .string ⟨#[]⟩, .string ⟨#[]⟩, .slice none 0 0, .slice none 0 0] 34)).heap[w.heap.size + 2]? = some (.cells #[.int .i64 0, .string ⟨#[]⟩, .string ⟨#[]⟩, .string ⟨#[]⟩, .slice none 0 0, .slice none 0 0] 34 (0, 0)) := by
    have := heap_alloc_new ((w.alloc (.cells #[.pointer (some ⟨g, 0, none⟩)] 96)).alloc (.cells #[.int .i64 0, .string ⟨#[]⟩, .string ⟨#[]⟩, .string ⟨#[]⟩, .slice none 0 0, .slice none 0 0] 34)) (.cells #[.int .i64 0, .string ⟨#[]⟩, .string ⟨#[]⟩, .string ⟨#[]⟩, .slice none 0 0, .slice none 0 0] 34)
    simpa using this
  have HC := Lib.hid (rwithin0 (((w.alloc (.cells #[.pointer (some ⟨g, 0, none⟩)] 96)).alloc (.cells #[.int .i64 0, .string ⟨#[]⟩, .string ⟨#[]⟩, .string ⟨#[]⟩, .slice none 0 0, .slice none 0 0] 34)).alloc (.cells #[.int .i64 0, .string ⟨#[]⟩, .string ⟨#[]⟩, .string ⟨#[]⟩, .slice none 0 0, .slice none 0 0] 34)) B g w.heap.size (w.heap.size + 2) R d (h.below hb0 hB) (Nat.le_trans hB hb0.size) hd (by omega) (by omega) (by omega) (by omega) hx1 hx3)
  have HT := Lib.hid (Touch.of_below hb0 [g])
  have HX2 := Lib.hid hx2
  have q0 := Lib.cell_of_heap hx1 0
  simp at q0
  clear h hb0 hx1 hx2 hx3
  go_enter Tryz.func48, Tryz.ntmps48
  go_wp2_with (go_at_call 103; go_must (refine HC.out.mono ?_))
  rintro e w2 ⟨rfl, hr, ht, hp⟩
  have hp2 := ht.keep HX2.out (by simp; omega)
  have HP := Lib.hid hp
  have HP2 := Lib.hid hp2
  have HR := Lib.hid hr
  have HT2 := Lib.hid (HT.out.trans (n := [g]) ht (fun _ h => h) (fun x hx => by simp at hx; rcases hx with rfl | rfl; exact .inl (by simp); exact .inr (by omega)))
  have hS := setRow_heap w2 (w.heap.size + 1) #[.int .i64 0, .string ⟨#[]⟩, .string ⟨#[]⟩, .string ⟨#[]⟩, .slice none 0 0, .slice none 0 0] #[.int .i64 0, .string ⟨#[]⟩, .string ⟨#[]⟩, .string ⟨#[]⟩, .slice none 0 0, .slice none 0 0] 34 (0, 0) hp2
  have HS := Lib.hid hS
  have HRz := Lib.hid (RAt.setRow hr (show w.heap.size + 1 ≠ g by omega) (by omega) #[.int .i64 0, .string ⟨#[]⟩, .string ⟨#[]⟩, .string ⟨#[]⟩, .slice none 0 0, .slice none 0 0])
  have HTz := Lib.hid (show Touch w (w2.setRow (w.heap.size + 1) #[.int .i64 0, .string ⟨#[]⟩, .string ⟨#[]⟩, .string ⟨#[]⟩, .slice none 0 0, .slice none 0 0]) [g] from ⟨HT2.out.os, HT2.out.tape, HT2.out.output, Nat.le_trans HT2.out.size (Nat.le_of_eq (setRow_size _ _ _).symm), fun k hk hn => (setRow_other _ _ _ _ (by omega)).trans (HT2.out.block k hk hn)⟩)
  clear hr ht hp hp2 hS HC HT q0
  go_upto_region 3 with fail
  go_step
  go_step
  refine wp_load_row 34 _ rfl (w.heap.size + 2) rfl 34 #[.int .i64 0, .string ⟨#[]⟩, .string ⟨#[]⟩, .string ⟨#[]⟩, .slice none 0 0, .slice none 0 0] (0, 0) _ HP.out Tryz.underlying34 rfl (by kernel_rfl) ?_
  go_step
  go_step
  refine wp_store_row 34 _ _ rfl (w.heap.size + 1) #[.int .i64 0, .string ⟨#[]⟩, .string ⟨#[]⟩, .string ⟨#[]⟩, .slice none 0 0, .slice none 0 0] rfl rfl 34 #[.int .i64 0, .string ⟨#[]⟩, .string ⟨#[]⟩, .string ⟨#[]⟩, .slice none 0 0, .slice none 0 0] HP2.out (by kernel_rfl) rfl (by kernel_rfl) ?_
  go_wp2
  have hl := run_loadVar_row (P := Tryz.prog) _ (w.heap.size + 1) _ 34 _ _ _ HS.out Tryz.underlying34 rfl (by kernel_rfl)
  refine bodyPost_ret (v := .agg #[.int .i64 0, .string ⟨#[]⟩, .string ⟨#[]⟩, .string ⟨#[]⟩, .slice none 0 0, .slice none 0 0]) ?_ rfl ⟨rfl, HRz.out, HTz.out⟩
  simp [Act.put, results, Tryz.results48, asAddr, hl]
end Go.Proofs.YtdonibkkdhokpaaGreat
