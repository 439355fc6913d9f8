/- Drop and New. -/
import Derived.Test.YtdooedlapoknbaaCachePut
import Derived.Lib.Builder
import Derived.Lib.MinMax
namespace Go.Proofs.Ytdooedlapoknbaa
open Go Go.RowKit Go.Maps

theorem ptrU : Try.prog.underlying 45 = some (.pointer 50) := by kernel_rfl
theorem infoIt : (Try.prog.info? 50).map (fun i => i.size) = some 6 := by kernel_rfl

theorem run_neq_ptr_other (w : World) {a b : Addr} {ca cb : Array Value} {ta tb : TypeId} (hne : a ≠ b) (ha : w.heap[a.block]? = some (.cells ca ta (0, 0))) (hb : w.heap[b.block]? = some (.cells cb tb (0, 0))) :
    (binOp .neq 45 (.pointer (some a)) (.pointer (some b))).run Try.prog w = .ok (.bool true) w := by
  have hp := ptrU
  obtain ⟨j, hte, hsz⟩ := Option.map_eq_some_iff.1 infoIt
  have h : ∀ d : Nat, (Op.equalIn (d + 1) 45 (.pointer (some a)) (.pointer (some b))).run Try.prog w = .ok false w := fun d => by
    simp [Op.equalIn, run_underlying hp, sizeOf, typeInfo, hte, hsz, run_sameAddr_other w hne ha hb]
  simp only [binOp]
  simp [Op.equal, Op.maxDepth, h 9999]

theorem run_neq_ptr_self (w : World) (a : Addr) : (binOp .neq 45 (.pointer (some a)) (.pointer (some a))).run Try.prog w = .ok (.bool false) w := by
  obtain ⟨j, hte, _⟩ := Option.map_eq_some_iff.1 infoIt
  exact Lib.run_neq_ptr_same w a ptrU hte

def dropE (E : List (Int × Int × List ByteArray)) (f : Int) : List (Int × Int × List ByteArray) := E.filter (fun p => !(decide (p.1 = f)))

def nextOf (wr : World) (y : Nat) : Nat := match wr.cell? ⟨y, 5, none⟩ with | some (.pointer (some a)) => a.block | _ => 0

/-- How many steps lead to the root. -/
def stepsTo : Nat → World → Nat → Nat → Nat
  | 0, _, _, _ => 0
  | n + 1, wr, r, y => if y = r then 0 else 1 + stepsTo n wr r (nextOf wr y)

def blockOf : Value → Nat
  | .pointer (some a) => a.block
  | _ => 0

theorem stepsTo_list {wr : World} {it : Nat → It} {pv nx : Nat → Nat} {r : Nat} : ∀ (n : Nat) (Bs : List Nat) (y : Nat) (rest : List Nat), Bs ++ [r] = y :: rest → r ∉ Bs → Bs.length ≤ n → Nodes wr it pv nx Bs → Links pv nx (y :: rest) → stepsTo n wr r y = Bs.length
  | 0, Bs, y, rest, _, _, hl, _, _ => by
    have : Bs.length = 0 := by omega
    rw [this]
    rfl
  | n + 1, [], y, rest, he, _, _, _, _ => by
    simp at he
    unfold stepsTo
    rw [if_pos he.1.symm]
    rfl
  | n + 1, b :: Bs, y, rest, he, hr, hl, hn, hk => by
    simp at he hr hl
    obtain ⟨rfl, he⟩ := he
    obtain ⟨y2, rest2, h2⟩ : ∃ y2 rest2, rest = y2 :: rest2 := by
      cases rest with
      | nil => simp at he
      | cons a l => exact ⟨a, l, rfl⟩
    subst h2
    have hnx : nextOf wr b = y2 := by
      have hb := hn b (by simp)
      have h5 := Lib.cell_of_heap hb 5
      simp [ndCells] at h5
      unfold nextOf
      rw [h5]
      exact hk.1
    unfold stepsTo
    rw [if_neg (fun e => hr.1 e.symm), hnx, stepsTo_list n Bs y2 rest2 he hr.2 hl (fun z hz => hn z (by simp [hz])) hk.2.2]
    simp
    omega

def DropRel (G : Nat → Prop) (W : World) (B c room r m : Nat) (f : Int) (E : List (Int × Int × List ByteArray)) (v : Value) (wr : World) : Prop :=
  ∃ it pv nx A Bs y rest, v = .pointer (some ⟨y, 0, none⟩) ∧ Bs ++ [r] = y :: rest ∧ CAt G wr B c room r m it pv nx (A ++ Bs) ∧ A.map (ent it) ++ dropE (Bs.map (ent it)) f = dropE E f ∧ (A ++ Bs).length ≤ E.length ∧ CF B W wr

def DropPost (G : Nat → Prop) (W : World) (B c room : Nat) (E : List (Int × Int × List ByteArray)) (f : Int) (e : Ending) (W' : World) : Prop :=
  e = .returned (.tuple #[]) ∧ CA G W' B c room (dropE E f) ∧ CF B W W'

theorem CAt.steps {G : Nat → Prop} {wr : World} {B c room r m : Nat} {it : Nat → It} {pv nx : Nat → Nat} {A Bs : List Nat} (h : CAt G wr B c room r m it pv nx (A ++ Bs)) {y : Nat} {rest : List Nat} (he : Bs ++ [r] = y :: rest) {N : Nat} (hN : (A ++ Bs).length ≤ N) :
    stepsTo N wr r y = Bs.length ∧ Links pv nx (y :: rest) := by
  have hl := h.ring.2
  have hk : Links pv nx (Bs ++ [r]) := by
    have e1 : r :: (A ++ Bs) ++ [r] = (r :: A) ++ y :: rest := by rw [← he]; simp
    rw [e1, links_mid] at hl
    rw [he]
    exact hl.2
  rw [he] at hk
  have hr : r ∉ Bs := fun hm => (List.nodup_cons.1 h.ring.1).1 (by simp [hm])
  exact ⟨stepsTo_list N Bs y rest he hr (by simp at hN; omega) (fun z hz => h.nodes z (by simp [hz])) hk, hk⟩

set_option maxRecDepth 100000 in
set_option maxHeartbeats 8000000 in
theorem drop_any {G : Nat → Prop} (W : World) (B c room : Nat) (E : List (Int × Int × List ByteArray)) (f : Int) (h : CA G W B c room E) :
    Calls Try.prog 8 #[.pointer (some ⟨c, 0, none⟩), .int .i64 f] W (DropPost G W B c room E f) := by
  obtain ⟨r, m, it, pv, nx, xs, hc0, hE⟩ := h
  have c1 := Lib.cell_of_heap hc0.cell 1
  simp at c1
  have hclt : c < W.heap.size := (Array.getElem?_eq_some_iff.1 hc0.cell).1
  have hrn := hc0.nodes r (by simp)
  have hrlt : r < W.heap.size := (Array.getElem?_eq_some_iff.1 hrn).1
  have r5 := Lib.cell_of_heap hrn 5
  simp [ndCells] at r5
  obtain ⟨y0, rest0, he0⟩ : ∃ y0 rest0, xs ++ [r] = y0 :: rest0 := by
    cases xs with
    | nil => exact ⟨_, _, rfl⟩
    | cons a l => exact ⟨_, _, rfl⟩
  have hnx : nx r = y0 := by
    have := hc0.ring.2
    rw [List.cons_append, he0] at this
    exact this.1
  rw [hnx] at r5
  have HE := Lib.hid hE
  have HC0 := Lib.hid hc0
  have HE0 := Lib.hid he0
  clear hc0 hrn hnx hE he0
  unfold DropPost
  go_enter Try.func8, Try.ntmps8
  go_wp2
  go_loopw [4] (fun v wr => DropRel G W B c room r m f E v wr) (fun v wr => stepsTo E.length wr r (blockOf v))
  case atStart =>
    refine ⟨it, pv, nx, [], xs, y0, rest0, rfl, HE0.out, HC0.out, ?_, ?_, CF.refl _ _⟩
    · rw [show xs.map (ent it) = E from HE.out]
      rfl
    · rw [← HE.out]
      simp
  case round =>
    obtain ⟨it2, pv2, nx2, A, Bs, y, rest, rfl, he, hc, hd, hlen, hcf⟩ := hrel
    clear c1 r5 hclt hrlt HC0 HE0
    obtain ⟨hst, hlk⟩ := hc.steps he hlen
    have hys : stepsTo E.length wr r (blockOf (.pointer (some ⟨y, 0, none⟩))) = Bs.length := hst
    have c1 := Lib.cell_of_heap hc.cell 1
    simp at c1
    have hclt : c < wr.heap.size := (Array.getElem?_eq_some_iff.1 hc.cell).1
    cases Bs with
    | nil =>
      simp at he
      obtain ⟨he1, rfl⟩ := he
      subst he1
      have hfin : (A ++ []).map (ent it2) = dropE E f := by
        rw [← hd]
        simp [dropE]
      have HFin := Lib.hid hfin
      have HC := Lib.hid hc
      have HCf := Lib.hid hcf
      have hself := run_neq_ptr_self wr ⟨r, 0, none⟩
      clear hfin hc hcf hd hlk hst hys
      go_wp2
      exact bodyPost_end (by simp [results, Try.results8]) rfl ⟨rfl, ⟨_, m, it2, pv2, nx2, _, HC.out, HFin.out⟩, HCf.out⟩
    | cons x Bs =>
      simp only [List.cons_append, List.cons.injEq] at he
      obtain ⟨rfl, he⟩ := he
      have hyr : x ≠ r := fun e => by
        have := (List.nodup_cons.1 hc.ring.1).1
        exact this (by rw [← e]; simp)
      obtain ⟨y2, rest2, h2⟩ : ∃ y2 rest2, rest = y2 :: rest2 := by
        cases rest with
        | nil => simp at he
        | cons a l => exact ⟨a, l, rfl⟩
      subst h2
      have hnx : nx2 x = y2 := hlk.1
      have hxn := hc.nodes x (by simp)
      rw [hnx] at hxn
      have x0 := Lib.cell_of_heap hxn 0
      have x5 := Lib.cell_of_heap hxn 5
      simp [ndCells] at x0 x5
      have hxlt : x < wr.heap.size := (Array.getElem?_eq_some_iff.1 hxn).1
      have HS := Lib.hid hys
      have HC := Lib.hid hc
      have HCf := Lib.hid hcf
      have HD := Lib.hid hd
      have hoth := run_neq_ptr_other wr (a := ⟨x, 0, none⟩) (b := ⟨r, 0, none⟩) (by simp) (hc.nodes x (by simp)) (hc.nodes r (by simp))
      by_cases hf : (it2 x).f = f
      · have hrem := remove_any wr B c room r m it2 pv2 nx2 A x Bs HC.out
        have HRem := Lib.hid hrem
        have hdr : A.map (ent it2) ++ dropE (Bs.map (ent it2)) f = dropE E f := by
          rw [← HD.out, List.map_cons]
          unfold dropE
          rw [List.filter_cons, if_neg (by simp [ent, hf])]
        have HDr := Lib.hid hdr
        have HXn := Lib.hid hxn
        clear hrem hdr hc hcf hd hlk hst hys hxn
        go_wp2_with (go_at_call 21; go_must (refine HRem.out.mono ?_))
        rintro e w2 ⟨rfl, hc2, hf2, hx2, _⟩
        have hxn2 := hx2.trans HXn.out
        have x52 := Lib.cell_of_heap hxn2 5
        simp [ndCells] at x52
        have hxlt2 : x < w2.heap.size := (Array.getElem?_eq_some_iff.1 hxn2).1
        have hl2 : (A ++ Bs).length ≤ E.length := by simp at hlen ⊢; omega
        have hst2 : stepsTo E.length w2 r (blockOf (.pointer (some ⟨y2, 0, none⟩))) = Bs.length := (hc2.steps he hl2).1
        have HC2 := Lib.hid hc2
        have HF2 := Lib.hid (HCf.out.trans hf2)
        have HS2 := Lib.hid hst2
        clear hc2 hf2 hx2 hxn2 hst2 HRem x0 x5 hxlt c1 hclt
        go_wp2
        exact ⟨⟨it2, _, _, A, Bs, y2, rest2, rfl, he, HC2.out, HDr.out, hl2, HF2.out⟩, by rw [HS2.out, HS.out]; simp⟩
      · have hdr : (A ++ [x]).map (ent it2) ++ dropE (Bs.map (ent it2)) f = dropE E f := by
          rw [← HD.out, List.map_cons, List.map_append, List.append_assoc]
          unfold dropE
          rw [List.filter_cons, if_pos (by simp [ent, hf])]
          rfl
        have hc2 : CAt G wr B c room r m it2 pv2 nx2 ((A ++ [x]) ++ Bs) := by
          have := HC.out
          rwa [show (A ++ [x]) ++ Bs = A ++ x :: Bs by simp]
        have hl2 : ((A ++ [x]) ++ Bs).length ≤ E.length := by simp at hlen ⊢; omega
        have hst2 : stepsTo E.length wr r (blockOf (.pointer (some ⟨y2, 0, none⟩))) = Bs.length := (hc2.steps he hl2).1
        have HC2 := Lib.hid hc2
        have HDr := Lib.hid hdr
        have HS2 := Lib.hid hst2
        clear hdr hc2 hst2 hc hcf hd hlk hst hys hxn
        go_wp2
        exact ⟨⟨it2, _, _, A ++ [x], Bs, y2, rest2, rfl, he, HC2.out, HDr.out, hl2, HCf.out⟩, by rw [HS2.out, HS.out]; simp⟩

def CNewPost (W : World) (room : Int) (e : Ending) (W' : World) : Prop := ∃ c, e = .returned (.pointer (some ⟨c, 0, none⟩)) ∧ (∀ G, CA G W' W.heap.size c room.toNat []) ∧ Below W.heap.size W W'

theorem look_nil (it : Nat → It) : LookN (.map []) it [] := fun _ _ _ _ => ⟨fun x hx => by simp at hx, fun _ => rfl⟩

set_option maxRecDepth 100000 in
set_option maxHeartbeats 2000000 in
theorem cnew_any (W : World) (room : Int) : Calls Try.prog 13 #[.int .i64 room] W (CNewPost W room) := by
  obtain ⟨R, hR⟩ : ∃ R : Nat, R = room.toNat := ⟨_, rfl⟩
  have h1 : (max room 0 : Int) = (R : Int) := by omega
  have hmm := @run_makeMap Try.prog
  have HR := Lib.hid hR
  clear hR
  go_enter Try.func13, Try.ntmps13
  go_wp2
  go_ret
  refine ⟨W.heap.size + 2, rfl, fun G => ⟨W.heap.size, W.heap.size + 1, fun _ => ⟨0, 0, [], .slice none 0 0, 0⟩, fun _ => W.heap.size, fun _ => W.heap.size, [], ⟨⟨by omega, by omega, fun x hx => by simp at hx; omega⟩, ?_, fun x hx => ?_, ⟨by simp, rfl, rfl, trivial⟩, ⟨.map [], ?_, look_nil _, rfl⟩, fun x hx => by simp at hx, by simp, by simp [sumI]⟩, rfl⟩, ?_⟩
  · have h := heap_alloc_new ((W.alloc (.cells #[.int .i64 0, .int .i64 0, .slice none 0 0, .int .i64 0, .pointer (some ⟨W.heap.size, 0, none⟩), .pointer (some ⟨W.heap.size, 0, none⟩)] 50)).alloc (.map #[] 0)) (.cells #[.map (some (W.heap.size + 1)), .pointer (some ⟨W.heap.size, 0, none⟩), .int .i64 (R : Int), .int .i64 0] 54)
    rw [← HR.out]
    simpa [sumI] using h
  · simp at hx
    subst hx
    have h := heap_alloc_new W (.cells #[.int .i64 0, .int .i64 0, .slice none 0 0, .int .i64 0, .pointer (some ⟨W.heap.size, 0, none⟩), .pointer (some ⟨W.heap.size, 0, none⟩)] 50)
    refine (Below.heap_alloc _ _ _ (by simp; omega)).trans ((Below.heap_alloc _ _ _ (by simp)).trans h)
  · have h := World.ownsMap_made (P := Try.prog) (k := 47) (R := nodeR) (W.alloc (.cells #[.int .i64 0, .int .i64 0, .slice none 0 0, .int .i64 0, .pointer (some ⟨W.heap.size, 0, none⟩), .pointer (some ⟨W.heap.size, 0, none⟩)] 50))
    have h2 := h.alloc (.cells #[.map (some (W.heap.size + 1)), .pointer (some ⟨W.heap.size, 0, none⟩), .int .i64 (R : Int), .int .i64 0] 54)
    simpa using h2
  · exact (((Below.refl _ _).alloc (Nat.le_refl _) _).alloc (by simp) _).alloc (by simp; omega) _
end Go.Proofs.Ytdooedlapoknbaa
