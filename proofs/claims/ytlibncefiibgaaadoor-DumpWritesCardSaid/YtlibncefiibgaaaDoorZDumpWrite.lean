/- dump.Write of any tuples. -/
import Derived.Test.YtlibncefiibgaaaDoorZDumpLines
import Derived.Test.YtlibncefiibgaaaDoorZDumpFixed
namespace Go.Proofs.YtlibncefiibgaaaDoor
open Go Go.RowKit

def WrRel (N G : Nat) (w : World) (v : Value) (n : Nat) (ts : List Six) (kv : Value) (wr : World) : Prop :=
  ∃ k : Nat, kv = .int .i64 (k : Int) ∧ k ≤ n ∧ Lib.IsBuilder 43 5 N N (bcells (headB.data.toList ++ [10] ++ linesL (ts.take k))) wr ∧ Below N w wr ∧ wr.ownsRow G 37 6 v n (tcells ts)

theorem wr_next {ts : List Six} {k : Nat} {t : Six} (h : ts[k]? = some t) : headB.data.toList ++ [10] ++ linesL (ts.take k) ++ t.text.data.toList ++ [10] = headB.data.toList ++ [10] ++ linesL (ts.take (k + 1)) := by
  rw [List.take_add_one, h, Option.toList_some, linesL_snoc]
  simp

set_option maxRecDepth 100000 in
set_option maxHeartbeats 2000000 in
theorem write_any (w : World) (a : Option Addr) (n cap : Nat) (l : List Six) (hl : l.length = n) (h : Reads w 6 (.slice a n cap) n (tcells l)) (hs : ∀ t ∈ l, t.short 100) (hn : n ≤ 60) (hp : Pow10 w) :
    Calls Tryd.prog 7 #[.slice a n cap] w (GivesVal w (.string (dumpB (goodL l)))) := by
  have hmf : ∀ (fn : Fn) (first cap : Array Value) (w : World), (Instr.makeFunc fn first cap).run Tryd.prog w = .ok (.func fn first cap) w := fun _ _ _ _ => rfl
  have hen : ∀ (args : Array Value) (w : World), (callFunc 14 args).run Tryd.prog w = .ok (.enter 14 args) w := fun _ _ => by kernel_rfl
  have hb0 : Below w.heap.size w (w.alloc (.cells #[.pointer none, .slice none 0 0] 43)) := (Below.refl _ _).alloc (Nat.le_refl _) _
  have hbl : Lib.IsBuilder 43 5 w.heap.size w.heap.size (bcells []) (w.alloc (.cells #[.pointer none, .slice none 0 0] 43)) :=
    Or.inl ⟨Nat.le_refl _, .slice none 0 0, heap_alloc_new w _, World.ownsRow_nil _ _ _ _, by simp [Value.ownBlock]⟩
  have hbs : (w.alloc (.cells #[.pointer none, .slice none 0 0] 43)).heap.size = w.heap.size + 1 := by simp
  have HC := Lib.hid (fun W (hW : Below w.heap.size w W) => clone_any W a n cap l hl (h.below' hW) (by omega))
  have HD := Lib.hid (fun W B v hW => delete_any W B v l hW (fun t ht => ⟨by have := (hs t ht).1; omega, by have := (hs t ht).2.1; omega, by have := (hs t ht).2.2.1; omega, by have := (hs t ht).2.2.2.1; omega, by have := (hs t ht).2.2.2.2.1; omega, by have := (hs t ht).2.2.2.2.2; omega⟩) (by omega))
  have HO := Lib.hid (fun W B v hW => once_any W B v (l.filter Six.ok) hW (by have := List.length_filter_le Six.ok l; omega))
  have HP := Lib.hid hp
  have hgs : ∀ t ∈ goodL l, t.short 100 := fun t ht => hs t (goodL_mem ht).1
  have hgo : ∀ t ∈ goodL l, t.ok = true := fun t ht => (goodL_mem ht).2
  have hgn : (goodL l).length ≤ 60 := by have := goodL_len l; omega
  have hgd : once6 (l.filter Six.ok) = goodL l := rfl
  have HGD := Lib.hid hgd
  have HGS := Lib.hid hgs
  have HGO := Lib.hid hgo
  have HGN := Lib.hid hgn
  have HB0 := Lib.hid hb0
  have HBl := Lib.hid hbl
  have HBs := Lib.hid hbs
  clear hp hb0 hbl hbs hgs hgo hgn hgd hl h hs hn
  have HK := Lib.hid (show (w.alloc (.cells #[.pointer none, .slice none 0 0] 43)).heap[w.heap.size]? = some (.cells #[.pointer none, .slice none 0 0] 43 (0, 0)) from heap_alloc_new w _)
  clear HBl
  go_enter Tryd.func7, Tryd.ntmps7
  generalize hw1 : w.alloc (.cells #[.pointer none, .slice none 0 0] 43) = w1 at *
  go_wp2_with (go_at_call 17; go_must (refine (HC.out _ HB0.out).mono ?_))
  clear hw1
  rintro e w2 ⟨v2, rfl, o2, b2⟩
  obtain ⟨a2, c2, rfl, _, _⟩ := (ownsRow.reads o2).le
  have HO2 := Lib.hid o2
  have HB2 := Lib.hid (HB0.out.trans (b2.mono HB0.out.size))
  have HK2 := Lib.hid ((b2.block _ (by rw [HBs.out]; omega)).trans HK.out)
  have HL2 := Lib.hid (show w.heap.size < w2.heap.size by have := b2.size; have := HBs.out; omega)
  clear o2 b2 HB0 HC HK
  go_wp2_with (go_at_call 16; go_must (refine (HD.out _ _ _ HO2.out).mono ?_))
  rintro e w3 ⟨v3, rfl, o3, g3⟩
  have HO3 := Lib.hid o3
  have HB3 := Lib.hid (HB2.out.grown g3 HB2.out.size (fun k hk => by have := (HO2.out.lt k hk).1; have := HBs.out; omega))
  have HK3 := Lib.hid ((g3.block _ HL2.out (fun e => by have := (HO2.out.lt _ e.symm).1; have := HBs.out; omega)).trans HK2.out)
  have HL3 := Lib.hid (show w.heap.size < w3.heap.size by have := g3.size; have := HL2.out; omega)
  obtain ⟨a3, c3, rfl, _, _⟩ := (ownsRow.reads o3).le
  clear o3 g3 HD HO2 HB2 HK2 HL2
  go_wp2_with (go_at_call 20; go_must (refine (HO.out _ _ _ HO3.out).mono ?_))
  rintro e w4 ⟨v4, rfl, o4, g4⟩
  rw [HGD.out] at o4
  have HO4 := Lib.hid o4
  have HB4 := Lib.hid (HB3.out.grown g4 HB3.out.size (fun k hk => by have := (HO3.out.lt k hk).1; have := HBs.out; omega))
  have hk4 := ((g4.block _ HL3.out (fun e => by have := (HO3.out.lt _ e.symm).1; have := HBs.out; omega)).trans HK3.out)
  have HBl4 := Lib.hid (show Lib.IsBuilder 43 5 w.heap.size w.heap.size (bcells []) w4 from Or.inl ⟨Nat.le_refl _, .slice none 0 0, hk4, World.ownsRow_nil _ _ _ _, by simp [Value.ownBlock]⟩)
  clear o4 g4 hk4 HO HO3 HB3 HK3 HL3
  generalize goodL l = ts at *
  clear HGD
  obtain ⟨m, hm⟩ : ∃ m, ts.length = m := ⟨_, rfl⟩
  rw [hm] at HO4 HGN
  have HM := Lib.hid hm
  obtain ⟨a4, c4, rfl, h4c, h4m⟩ := (ownsRow.reads HO4.out).le
  unfold maxLen at h4m
  have hgn := HGN.out
  have HDU := Lib.hid (show dumpB ts = ⟨(headB.data.toList ++ [10] ++ linesL ts ++ (endB m).data.toList ++ [10]).toArray⟩ by unfold dumpB dumpL; rw [hm])
  generalize dumpB ts = D at *
  clear hm
  have b4' : Below w.heap.size w w4 := HB4.out
  have h4' := HBl4.out
  have o4' := HO4.out
  clear HB4 HBl4 HO4
  obtain ⟨N, hN⟩ : ∃ N, w.heap.size = N := ⟨_, rfl⟩
  obtain ⟨G, hG⟩ : ∃ G, w1.heap.size = G := ⟨_, rfl⟩
  rw [hN] at b4' h4' ⊢
  rw [hG] at o4'
  have HB4 := Lib.hid b4'
  have HBl4 := Lib.hid h4'
  have HO4 := Lib.hid o4'
  have HN := Lib.hid hN
  clear b4' h4' o4' hG HBs hN
  go_wp2_with (go_at_call 14; go_must (refine (line_r N N [] ⟨#[100, 117, 109, 112, 32, 49]⟩ w4 G _ m (tcells ts) HO4.out HBl4.out (by decide) (by decide) (by rw [← HN.out]; exact HB4.out.size)).mono ?_))
  rintro e w5 ⟨rfl, h5, b5, o5⟩
  have HR0 := Lib.hid (show WrRel N G w (.slice a4 m c4) m ts (.int .i64 0) w5 from ⟨0, rfl, Nat.zero_le _, h5, HB4.out.trans b5, o5⟩)
  clear h5 b5 o5 HO4 HBl4 HB4
  go_wp2
  go_loopw [20] (fun kv wr => WrRel N G w (.slice a4 m c4) m ts kv wr) (fun kv _ => m - (intOf kv).toNat)
  case atStart => exact HR0.out
  case round =>
    rename World => wr
    obtain ⟨k, rfl, hkm, hbl, hb, ho⟩ := hrel
    clear HR0
    have HBr := Lib.hid hb
    have HBl := Lib.hid hbl
    have HOr := Lib.hid ho
    clear hb hbl ho
    by_cases hlt : k < m
    · have hltI : (k : Int) < m := by omega
      have hk0 : (0 : Int) ≤ k := by omega
      obtain ⟨t, ht⟩ : ∃ t, ts[k]? = some t := ⟨ts[k]'(by rw [HM.out]; exact hlt), List.getElem?_eq_getElem _⟩
      obtain ⟨b, off, hv, hbl', k0, k1, k2, k3, k4, k5⟩ := (ownsRow.reads HOr.out).six ht
      cases hv
      have hmem : t ∈ ts := List.mem_of_getElem? ht
      have hsh := HGS.out t hmem
      have hpr : t.printed = t.text := by unfold Six.printed; rw [if_pos (HGO.out t hmem)]
      have hok := HGO.out t hmem
      have hsz := text_len605 t hsh
      have hll : (headB.data.toList ++ [10] ++ linesL (ts.take k)).length ≤ 1000000000 := by
        have h1 := linesL_len (ts.take k) (fun u hu => HGS.out u (List.mem_of_mem_take hu))
        have h2 : (ts.take k).length ≤ k := by rw [List.length_take]; omega
        have h3 : (headB.data.toList ++ [10]).length = 7 := rfl
        rw [List.length_append, h3]
        omega
      have HPr := Lib.hid (fun W => print_any W t ⟨by have := hsh.1; omega, by have := hsh.2.1; omega, by have := hsh.2.2.1; omega, by have := hsh.2.2.2.1; omega, by have := hsh.2.2.2.2.1; omega, by have := hsh.2.2.2.2.2; omega⟩)
      rw [hpr, hok] at HPr
      have hvl : t.val = .agg #[.string t.a, .string t.b, .string t.c, .string t.d, .string t.e, .string t.f] := rfl
      rw [hvl] at HPr
      have hnx := wr_next ht
      have HNx := Lib.hid hnx
      have HSz := Lib.hid hsz
      have HLL := Lib.hid hll
      have hNr : N ≤ wr.heap.size := by rw [← HN.out]; exact HBr.out.size
      have HNr := Lib.hid hNr
      clear ht hmem hsh hpr hok hsz hll hvl hnx hNr
      generalize t.text = tx at *
      go_wp2_with (go_at_call 22; go_must (refine (HPr.out _).mono ?_))
      rintro e w6 ⟨rfl, b6⟩
      have b7 : Below wr.heap.size wr w6 := ((Below.refl _ _).alloc (Nat.le_refl _) _).trans (b6.mono (by simp))
      have HB7 := Lib.hid b7
      clear b6 b7
      go_wp2_with (go_at_call 14; go_must (refine (line_r N N _ tx w6 G _ m (tcells ts) (owns_below HOr.out HB7.out) (builder_below HBl.out HB7.out) HLL.out (by have := HSz.out; omega) (by have := HNr.out; have := HB7.out.size; omega)).mono ?_))
      rintro e w8 ⟨rfl, h8, b8, o8⟩
      rw [HNx.out] at h8
      have HR := Lib.hid (show WrRel N G w (.slice (some ⟨b, off, none⟩) m c4) m ts (.int .i64 ((k + 1 : Nat) : Int)) w8 from ⟨k + 1, rfl, hlt, h8, HBr.out.trans ((HB7.out.mono HNr.out).trans b8), o8⟩)
      clear h8 b8 o8
      go_wp2
      exact ⟨HR.out, by simp [intOf]; omega⟩
    · have hkl : k = m := by omega
      subst hkl
      have hlI : ¬ (k : Int) < k := by omega
      have hNr : N ≤ wr.heap.size := by rw [← HN.out]; exact HBr.out.size
      have HE := Lib.hid (end_any wr k (by omega) (HP.out.below (by rw [HN.out]; exact HBr.out)))
      have hez : (endB k).size ≤ 1000000000 := by
        have hds := dec_size k (by omega)
        unfold endB
        rw [ByteArray.size_append]
        have e1 : (⟨#[101, 110, 100, 32]⟩ : ByteArray).size = 4 := rfl
        rw [e1]
        first | omega | (have h2 : (⟨(Lib.decDigits k).toArray⟩ : ByteArray).size = (Lib.decDigits k).length := by simp [ByteArray.size]
                         omega)
      have hfull : ts.take k = ts := List.take_of_length_le (by rw [HM.out]; exact Nat.le_refl _)
      rw [hfull] at HBl
      have hll : (headB.data.toList ++ [10] ++ linesL ts).length ≤ 1000000000 := by
        have h1 := linesL_len ts (fun u hu => HGS.out u hu)
        have h2 := HM.out
        have h3 : (headB.data.toList ++ [10]).length = 7 := rfl
        rw [List.length_append, h3]
        omega
      have HEz := Lib.hid hez
      have HLL := Lib.hid hll
      have HNr := Lib.hid hNr
      generalize endB k = eb at *
      clear hez hll hNr hfull
      go_wp2_with (go_at_call 23; go_must (refine HE.out.mono ?_))
      rintro e w6 ⟨rfl, b6⟩
      have HB6 := Lib.hid b6
      clear b6 HE
      go_wp2_with (go_at_call 14; go_must (refine (line_any N N _ eb w6 (builder_below HBl.out HB6.out) HLL.out HEz.out (by have := HNr.out; have := HB6.out.size; omega)).mono ?_))
      rintro e w8 ⟨rfl, h8, b8⟩
      have HB8 := Lib.hid (HBr.out.trans ((HB6.out.mono HNr.out).trans b8))
      have HBl8 := Lib.hid h8
      clear h8 b8 HBl HB6
      go_wp2_with (go_at_call 24; go_must (refine (Tryd.Builder_String_any _ _ _ _ HBl8.out (by rw [← HN.out]; exact HB8.out.size)).mono ?_))
      rintro e w9 ⟨rfl, b9⟩
      have HB9 := Lib.hid (HB8.out.trans b9)
      clear b9
      go_wp2
      go_ret
      refine ⟨?_, by rw [HN.out]; exact HB9.out⟩
      rw [HDU.out, List.append_assoc, List.append_assoc, List.append_assoc]
      rfl
end Go.Proofs.YtlibncefiibgaaaDoor
