/- What each row of inner keys is visited as. -/
import Derived.Test.YtekdcjbjjakhcaaDropM
import Derived.Test.YtekdcjbjjakhcaaStrWalks
import Derived.Test.YtekdcjbjjakhcaaOuter
import Derived.Test.YtekdcjbjjakhcaaTouch
namespace Go.Proofs.Ytekdcjbjjakhcaa
open Go Go.RowKit

theorem info48 : (Try.prog.info? 48).map (fun i => (i.zero, i.size, i.bytes)) = some (some (.agg #[.string ⟨#[]⟩, .int .u64 0, .bool false]), 3, 32) := by kernel_rfl

/-- Old blocks below N stay, and all cells of entries. -/
structure FrameE (N : Nat) (w w' : World) : Prop where
  below : Below N w w'
  ents : ∀ (g : Nat) (cs : Array Value) (fz : Nat × Nat), w.heap[g]? = some (Obj.cells cs 48 fz) → w'.heap[g]? = some (Obj.cells cs 48 fz)

theorem FrameE.refl (N : Nat) (w : World) : FrameE N w w := ⟨Below.refl _ _, fun _ _ _ h => h⟩
theorem FrameE.trans {N : Nat} {a b c : World} (h : FrameE N a b) (k : FrameE N b c) : FrameE N a c := ⟨h.below.trans k.below, fun _ _ _ hg => k.ents _ _ _ (h.ents _ _ _ hg)⟩
theorem FrameE.of_below {N : Nat} {w w' : World} (h : Below w.heap.size w w') (hN : N ≤ w.heap.size) : FrameE N w w' := ⟨h.mono hN, fun g _ _ hg => (h.block g (Array.getElem?_eq_some_iff.1 hg).1).trans hg⟩
theorem FrameE.owns {N B n : Nat} {w w' : World} {v : Value} {xs : List Value} (h : FrameE N w w') (k : w.ownsRow B 48 3 v n xs) : w'.ownsRow B 48 3 v n xs := by
  refine ⟨k.1, ?_⟩
  rcases k.2 with h0 | ⟨g, cap, cur, hv, hB, hg, h3⟩
  · exact .inl h0
  · exact .inr ⟨g, cap, cur, hv, hB, h.ents _ _ _ hg, h3⟩

def entV (x : Ent) : Value := .agg #[.string x.key, .int .u64 (x.rev : Int), .bool x.del]

/-- What a visit is to keep. -/
structure Visits (N : Nat) (xs : List KE) (cf : FuncId) (cp : Array Value) (J : List KE → World → Prop) : Prop where
  enter : ∀ (args : Array Value) (w : World), (callFunc cf args).run Try.prog w = .ok (.enter cf args) w
  call : ∀ (i : Nat) (x : KE) (w : World), xs[i]? = some x → J (xs.take i) w → N ≤ w.heap.size → Calls Try.prog cf (#[.string x.1, entV x.2] ++ cp) w fun e w' => e = .returned (.tuple #[]) ∧ J (xs.take (i + 1)) w' ∧ FrameE N w w'

def EachPost (N : Nat) (w : World) (ks : List ByteArray) (J : List KE → World → Prop) (e : Ending) (w' : World) : Prop :=
  e = .returned (.int .i64 (errOf ks : Int)) ∧ Below N w w' ∧ ((∃ es, decs ks = some es ∧ rises ks ∧ J (ks.zip es) w') ∨ ((decs ks = none ∨ ¬ rises ks) ∧ J [] w'))

def EachRel1 (w : World) (ks : List ByteArray) (ev i : Value) (wr : World) : Prop :=
  ∃ (k : Nat) (es : List Ent), i = .int .i64 (k : Int) ∧ k ≤ ks.length ∧ decs (ks.take k) = some es ∧ wr.ownsRow w.heap.size 48 3 ev k (ecells es) ∧ Below w.heap.size w wr

def EachRel2 (w : World) (ks : List ByteArray) (i : Value) (wr : World) : Prop := ∃ k : Nat, i = .int .i64 (k : Int) ∧ k ≤ ks.length ∧ stepsUp ks k ∧ Below w.heap.size w wr

def EachRel3 (N : Nat) (w : World) (xs : List KE) (J : List KE → World → Prop) (i : Value) (wr : World) : Prop := ∃ k : Nat, i = .int .i64 (k : Int) ∧ k ≤ xs.length ∧ J (xs.take k) wr ∧ FrameE N w wr

theorem entryVal_dec (k : ByteArray) : entryVal (outer k.data.toList) = match dec k with
    | none => .tuple #[.agg #[.string ⟨#[]⟩, .int .u64 0, .bool false], .int .i64 9]
    | some x => .tuple #[.agg #[.string x.key, .int .u64 (x.rev : Int), .bool x.del], .int .i64 0] := by
  unfold dec
  cases outer k.data.toList with
  | none => rfl
  | some p => rfl

theorem ecells_snoc (es : List Ent) (x : Ent) : ecells (es ++ [x]) = ecells es ++ ecell x := by simp [ecells]

set_option maxRecDepth 100000 in
set_option maxHeartbeats 4000000 in
theorem each_any (N : Nat) (w : World) (a : Option Addr) (n cap : Nat) (ks : List ByteArray) (hr : ∀ w', Below N w w' → Reads w' 1 (.slice a n cap) n (scells ks)) (hsz : ∀ k ∈ ks, k.size ≤ 1000000) (hn : n ≤ 1000) (hN : N ≤ w.heap.size)
    (cf : FuncId) (cp : Array Value) (J : List KE → World → Prop) (hJ : ∀ w', Below w.heap.size w w' → J [] w') (hv : ∀ es, decs ks = some es → rises ks → Visits N (ks.zip es) cf cp J) :
    Calls Try.prog 40 #[.slice a n cap, .func (.func cf) #[] cp] w (EachPost N w ks J) := by
  obtain ⟨j0, hj, hy0, hy1, hy2⟩ := info_parts info48
  have h0 := hr w (Below.refl _ _)
  have hll : ks.length = n := by have := h0.1; rw [scells_length] at this; omega
  obtain ⟨_, _, hv0, hc1, hc2⟩ := h0.le
  cases hv0
  unfold maxLen at hc2
  have HR := Lib.hid hr
  have HL := Lib.hid hll
  have HS := Lib.hid hsz
  have HJ := Lib.hid hJ
  have HV := Lib.hid hv
  clear h0 hll hr hsz hJ hv
  go_enter Try.func40, Try.ntmps40
  go_wp2_with (at_make; go_must (refine wpList_make_own _ rfl _ _ 22 rfl w.heap.size 48 j0 _ 3 Try.underlying22 hj hy0 hy1 .i64 .i64 _ n rfl rfl ?_ ?_ ?_ ?_ ?_))
  · rfl
  · rw [hy2]; omega
  · unfold maxLen; omega
  · exact Nat.le_refl _
  intro w1 f1 g1
  have b1 : Below w.heap.size w w1 := (Below.refl _ _).grown g1 (Nat.le_refl _) (fun k hk => by cases hk)
  have HO1 := Lib.hid f1
  have HB1 := Lib.hid b1
  clear f1 g1 b1
  go_wp2
  go_loopw [5, 18] (fun ev v wr => EachRel1 w ks ev v wr) (fun _ v _ => n - (intOf v).toNat)
  case atStart => exact ⟨0, [], rfl, Nat.zero_le _, rfl, HO1.out, HB1.out⟩
  case round =>
    obtain ⟨i, es, rfl, hil, hde, how, hb⟩ := hrel
    clear HO1 HB1
    rw [HL.out] at hil
    have hbs := hb.size
    obtain ⟨ea, ecap, rfl, he1, he2⟩ := (ownsRow.reads how).le
    unfold maxLen at he2
    have HB := Lib.hid hb
    have HO := Lib.hid how
    have HD := Lib.hid hde
    clear hb how hde
    by_cases hin : i < n
    · have hinI : (i : Int) < n := by omega
      obtain ⟨b, off, x, rfl, hx, hbx, hcx⟩ := (HR.out wr (HB.out.mono hN)).scell i hin
      have hxs := HS.out x (List.mem_of_getElem? hx)
      have hev := entryVal_dec x
      have hou := outer_any wr x (by omega)
      have HOu := Lib.hid hou
      cases hdx : dec x with
      | none =>
        rw [hdx] at hev
        dsimp only at hev
        have hdn := decs_none hx hdx
        have her := errOf_none hdn
        have HE := Lib.hid hev
        have HDn := Lib.hid hdn
        have HEr := Lib.hid her
        clear hev hou hx hdx hdn her
        go_wp2_with (go_at_call 52; go_must (refine HOu.out.mono ?_))
        rintro e w2 ⟨rfl, b2⟩
        rw [HE.out]
        have hb2 := HB.out.trans (b2.mono hbs)
        have HB2 := Lib.hid ((hb2.alloc hb2.size (.cells #[.string ⟨#[]⟩, .int .u64 0, .bool false] 48)))
        clear b2 hb2 HE HOu
        go_wp2
        go_ret
        refine ⟨by rw [HEr.out]; rfl, HB2.out.mono hN, .inr ⟨.inl HDn.out, HJ.out _ HB2.out⟩⟩
      | some y =>
        rw [hdx] at hev
        dsimp only at hev
        have hsn : decs (ks.take (i + 1)) = some (es ++ [y]) := by
          rw [List.take_add_one, hx]
          exact decs_snoc HD.out hdx
        obtain ⟨key, rev, del⟩ := y
        dsimp only at hev
        have HE := Lib.hid hev
        have HSn := Lib.hid hsn
        clear hev hou hx hdx hsn
        go_wp2_with (go_at_call 52; go_must (refine HOu.out.mono ?_))
        rintro e w2 ⟨rfl, b2⟩
        rw [HE.out]
        have hb2 := HB.out.trans (b2.mono hbs)
        have ho2 := owns_below HO.out b2
        have hb3 := hb2.alloc hb2.size (.cells #[.string key, .int .u64 (rev : Int), .bool del] 48)
        have ho3 := ho2.alloc (.cells #[.string key, .int .u64 (rev : Int), .bool del] 48)
        have hN3 : (w2.alloc (.cells #[.string key, .int .u64 (rev : Int), .bool del] 48)).heap.size = w2.heap.size + 1 := by simp
        have hs3 := hb3.size
        have HB3 := Lib.hid hb3
        have HO3 := Lib.hid ho3
        have HN3 := Lib.hid hN3
        clear b2 hb2 ho2 hb3 ho3 hN3 HE HOu HB HO
        go_wp2_with (at_builtin; go_must (refine wpList_append_rows_at (w0 := w2.alloc (.cells #[.string key, .int .u64 (rev : Int), .bool del] 48)) rfl _ _ 22 rfl w.heap.size 48 j0 _ 3 32 Try.underlying22 hj hy0 hy1 hy2 rfl (ecell ⟨key, rev, del⟩) 1 rfl HN3.out HO3.out rfl rfl ?_ ?_ ?_ hs3 ?_))
        · intro u hu
          simp [ecell] at hu
          rcases hu with rfl | rfl | rfl <;> rfl
        · unfold maxLen; omega
        · omega
        intro v6 w6 o6 g6 b6 _
        rw [← ecells_snoc] at o6
        have HO6 := Lib.hid o6
        have HB6 := Lib.hid (HB3.out.trans b6)
        clear o6 g6 b6 HB3 HO3 hs3
        go_wp2
        exact ⟨⟨i + 1, _, by go_num, by rw [HL.out]; omega, HSn.out, HO6.out, HB6.out⟩, by simp [intOf]; omega⟩
    · have hinI : ¬ ((i : Int) < n) := by omega
      obtain rfl : i = n := by omega
      have hdk : decs ks = some es := by
        have := HD.out
        rw [List.take_of_length_le (by rw [HL.out]; exact Nat.le_refl _)] at this
        exact this
      have HDk := Lib.hid hdk
      clear hdk HD
      go_wp2
      obtain ⟨wm, hwm⟩ : ∃ wm, wm = wr := ⟨_, rfl⟩
      subst hwm
      go_loopw [37] (fun v wi => EachRel2 wm ks v wi) (fun v _ => i - (intOf v).toNat)
      case atStart => exact ⟨0, rfl, Nat.zero_le _, fun j h0 hj => by omega, Below.refl _ _⟩
      case round =>
        obtain ⟨j, rfl, hjl, hst, hbi⟩ := hrel
        rw [HL.out] at hjl
        have HBi := Lib.hid hbi
        have HSt := Lib.hid hst
        clear hbi hst
        by_cases hji : j < i
        · have hjiI : (j : Int) < i := by omega
          by_cases hj0 : j = 0
          · subst hj0
            go_wp2
            go_quiet (fail)
            go_wp2
            exact ⟨⟨1, by go_num, by rw [HL.out]; omega, steps_one ks, below_quiet HBi.out _⟩, by simp [intOf]; omega⟩
          · obtain ⟨k, rfl⟩ : ∃ k, j = k + 1 := ⟨j - 1, by omega⟩
            obtain ⟨b, off, y, rfl, hy, hby, hcy⟩ := (HR.out wr ((HB.out.trans (HBi.out.mono HB.out.size)).mono hN)).scell (k + 1) hji
            obtain ⟨b2, off2, x, hv, hx, hbx, hcx⟩ := (HR.out wr ((HB.out.trans (HBi.out.mono HB.out.size)).mono hN)).scell k (by omega)
            cases hv
            have HX := Lib.hid hx
            have HY := Lib.hid hy
            clear hx hy
            have hjI : (((k + 1 : Nat) : Int) - 1) = (k : Int) := by omega
            have hw64 : IntKind.i64.wrap (((k + 1 : Nat) : Int) - 1) = (k : Int) := by rw [IntKind.wrap_i64]; omega
            have hkn : (k : Int) < i := by omega
            have hpos : (0 : Int) < ((k + 1 : Nat) : Int) := by omega
            have e1 := bl_spell x y
            have e2 := bl_spell y x
            have e3 := str_eq x y
            rcases bl_cases x y with ⟨k1, k2, k3⟩ | ⟨k1, k2, k3⟩ | ⟨k1, k2, k3⟩
            · rw [k1] at e1
              rw [k2] at e2
              rw [decide_eq_false k3] at e3
              have HK := Lib.hid k1
              clear k1 k2 k3
              go_wp2
              go_quiet (fail)
              go_wp2
              exact ⟨⟨k + 1 + 1, by go_num, by rw [HL.out]; omega, steps_more HSt.out HX.out HY.out HK.out, below_quiet HBi.out _⟩, by simp [intOf]; omega⟩
            · subst k3
              rw [k1] at e1 e2
              rw [decide_eq_true rfl] at e3
              have hnr : ¬ rises ks := not_rises (by omega) HX.out HY.out k1
              have her : errOf ks = 11 := by rw [errOf_some HDk.out, if_neg hnr]
              have HN := Lib.hid hnr
              have HEr := Lib.hid her
              have hbf := HB.out.trans ((below_quiet HBi.out 0).mono HB.out.size)
              clear k1 k2 hnr her hbf
              go_wp2
              go_quiet (fail)
              go_wp2
              go_ret
              have hbf := HB.out.trans ((below_quiet HBi.out nq).mono HB.out.size)
              exact ⟨by rw [HEr.out]; rfl, hbf.mono hN, .inr ⟨.inr HN.out, HJ.out _ hbf⟩⟩
            · rw [k1] at e1
              rw [k2] at e2
              rw [decide_eq_false k3] at e3
              have hnr : ¬ rises ks := not_rises (by omega) HX.out HY.out k1
              have her : errOf ks = 11 := by rw [errOf_some HDk.out, if_neg hnr]
              have HN := Lib.hid hnr
              have HEr := Lib.hid her
              have hbf := HB.out.trans ((below_quiet HBi.out 0).mono HB.out.size)
              clear k1 k2 hnr her hbf
              go_wp2
              go_quiet (fail)
              go_wp2
              go_ret
              have hbf := HB.out.trans ((below_quiet HBi.out nq).mono HB.out.size)
              exact ⟨by rw [HEr.out]; rfl, hbf.mono hN, .inr ⟨.inr HN.out, HJ.out _ hbf⟩⟩
        · have hjiI : ¬ ((j : Int) < i) := by omega
          have hri : rises ks := rises_of_steps ks (fun x h0 hx => HSt.out x h0 (by rw [HL.out] at hx; omega))
          have hvis := HV.out es HDk.out hri
          have hel := (decs_some HDk.out).1
          rw [HL.out] at hel
          have hzl : (ks.zip es).length = i := by rw [List.length_zip, HL.out, hel, Nat.min_self]
          have hbw := HB.out.trans (HBi.out.mono HB.out.size)
          have HB3 := Lib.hid hbw
          have HO3 := Lib.hid (owns_below HO.out HBi.out)
          have HRi := Lib.hid hri
          have HVi := Lib.hid hvis
          have HEl := Lib.hid hel
          have HZl := Lib.hid hzl
          have HJ0 := Lib.hid (HJ.out _ hbw)
          clear hri hvis hel hzl hbw HBi HSt HB HO HV HJ
          go_wp2
          obtain ⟨w3, hw3⟩ : ∃ w3, w3 = wr := ⟨_, rfl⟩
          subst hw3
          go_loopw [57] (fun v wi => EachRel3 N w3 (ks.zip es) J v wi) (fun v _ => i - (intOf v).toNat)
          case atStart => exact ⟨0, rfl, Nat.zero_le _, HJ0.out, FrameE.refl _ _⟩
          case round =>
            obtain ⟨k, rfl, hkl, hJk, hfr⟩ := hrel
            rw [HZl.out] at hkl
            have HF := Lib.hid hfr
            have HJk := Lib.hid hJk
            have hNw : N ≤ wr.heap.size := Nat.le_trans hN (Nat.le_trans HB3.out.size hfr.below.size)
            clear hJk hfr HJ0
            by_cases hki : k < i
            · have hkiI : (k : Int) < i := by omega
              obtain ⟨b, off, x, rfl, hx, hbx, hcx⟩ := (HR.out wr ((HB3.out.mono hN).trans HF.out.below)).scell k hki
              obtain ⟨y, hy⟩ : ∃ y, es[k]? = some y := ⟨es[k]'(by rw [HEl.out]; exact hki), List.getElem?_eq_getElem _⟩
              obtain ⟨g2, off2, hea, hgl2, c0, c1, c2⟩ := ent_cells (ownsRow.reads (HF.out.owns HO3.out)) hy
              subst hea
              have hz : (ks.zip es)[k]? = some (x, y) := List.getElem?_zip_eq_some.2 ⟨hx, hy⟩
              have hcall := HVi.out.call k (x, y) wr hz HJk.out hNw
              obtain ⟨key, rev, del⟩ := y
              dsimp only at c0 c1 c2
              have HCall := Lib.hid hcall
              clear hcall hz hx hy
              go_wp2_with fail
              rw [HVi.out.enter]
              refine (HCall.out).mono ?_
              rintro e w6 ⟨rfl, hj6, hf6⟩
              have HJ6 := Lib.hid hj6
              have HF6 := Lib.hid (HF.out.trans hf6)
              clear hj6 hf6 HCall HF HJk
              go_wp2
              exact ⟨⟨k + 1, by go_num, by rw [HZl.out]; omega, HJ6.out, HF6.out⟩, by simp [intOf]; omega⟩
            · have hkiI : ¬ ((k : Int) < i) := by omega
              have htk : (ks.zip es).take k = ks.zip es := List.take_of_length_le (by rw [HZl.out]; omega)
              have hjf := HJk.out
              rw [htk] at hjf
              have her : errOf ks = 0 := by rw [errOf_some HDk.out, if_pos HRi.out]
              have HJf := Lib.hid hjf
              have HEr := Lib.hid her
              clear hjf her htk
              go_wp2
              go_ret
              exact ⟨by rw [HEr.out]; rfl, (HB3.out.mono hN).trans HF.out.below, .inl ⟨es, HDk.out, HRi.out, HJf.out⟩⟩
end Go.Proofs.Ytekdcjbjjakhcaa
