/- What the proof stands on, part 5. -/
import Derived.Test.YtekdcjbjjakhcaaMg4
/- What each row of inner keys is visited as. -/
namespace Go.Proofs.Ytekdcjbjjakhcaa
open Go Go.RowKit

theorem info48 : (Try.prog.info? 48).map (fun i => (i.zero, i.size, i.bytes)) = some (some (.agg #[.string ⟨#[]⟩, .int .u64 0, .bool false]), 3, 32) := by kernel_rfl

/-- Old blocks below N stay, and all cells of entries. -/
structure FrameE (N : Nat) (w w' : World) : Prop where
  below : Below N w w'
  ents : ∀ (g : Nat) (cs : Array Value) (fz : Nat × Nat), w.heap[g]? = some (Obj.cells cs 48 fz) → w'.heap[g]? = some (Obj.cells cs 48 fz)

theorem FrameE.refl (N : Nat) (w : World) : FrameE N w w := ⟨Below.refl _ _, fun _ _ _ h => h⟩
theorem FrameE.trans {N : Nat} {a b c : World} (h : FrameE N a b) (k : FrameE N b c) : FrameE N a c := ⟨h.below.trans k.below, fun _ _ _ hg => k.ents _ _ _ (h.ents _ _ _ hg)⟩
theorem FrameE.of_below {N : Nat} {w w' : World} (h : Below w.heap.size w w') (hN : N ≤ w.heap.size) : FrameE N w w' := ⟨h.mono hN, fun g _ _ hg => (h.block g (Array.getElem?_eq_some_iff.1 hg).1).trans hg⟩
theorem FrameE.owns {N B n : Nat} {w w' : World} {v : Value} {xs : List Value} (h : FrameE N w w') (k : w.ownsRow B 48 3 v n xs) : w'.ownsRow B 48 3 v n xs := by
  refine ⟨k.1, ?_⟩
  rcases k.2 with h0 | ⟨g, cap, cur, hv, hB, hg, h3⟩
  · exact .inl h0
  · exact .inr ⟨g, cap, cur, hv, hB, h.ents _ _ _ hg, h3⟩

def entV (x : Ent) : Value := .agg #[.string x.key, .int .u64 (x.rev : Int), .bool x.del]

/-- What a visit is to keep. -/
structure Visits (N : Nat) (xs : List KE) (cf : FuncId) (cp : Array Value) (J : List KE → World → Prop) : Prop where
  enter : ∀ (args : Array Value) (w : World), (callFunc cf args).run Try.prog w = .ok (.enter cf args) w
  call : ∀ (i : Nat) (x : KE) (w : World), xs[i]? = some x → J (xs.take i) w → N ≤ w.heap.size → Calls Try.prog cf (#[.string x.1, entV x.2] ++ cp) w fun e w' => e = .returned (.tuple #[]) ∧ J (xs.take (i + 1)) w' ∧ FrameE N w w'

def EachPost (N : Nat) (w : World) (ks : List ByteArray) (J : List KE → World → Prop) (e : Ending) (w' : World) : Prop :=
  e = .returned (.int .i64 (errOf ks : Int)) ∧ Below N w w' ∧ ((∃ es, decs ks = some es ∧ rises ks ∧ J (ks.zip es) w') ∨ ((decs ks = none ∨ ¬ rises ks) ∧ J [] w'))

def EachRel1 (w : World) (ks : List ByteArray) (ev i : Value) (wr : World) : Prop :=
  ∃ (k : Nat) (es : List Ent), i = .int .i64 (k : Int) ∧ k ≤ ks.length ∧ decs (ks.take k) = some es ∧ wr.ownsRow w.heap.size 48 3 ev k (ecells es) ∧ Below w.heap.size w wr

def EachRel2 (w : World) (ks : List ByteArray) (i : Value) (wr : World) : Prop := ∃ k : Nat, i = .int .i64 (k : Int) ∧ k ≤ ks.length ∧ stepsUp ks k ∧ Below w.heap.size w wr

def EachRel3 (N : Nat) (w : World) (xs : List KE) (J : List KE → World → Prop) (i : Value) (wr : World) : Prop := ∃ k : Nat, i = .int .i64 (k : Int) ∧ k ≤ xs.length ∧ J (xs.take k) wr ∧ FrameE N w wr

theorem entryVal_dec (k : ByteArray) : entryVal (outer k.data.toList) = match dec k with
    | none => .tuple #[.agg #[.string ⟨#[]⟩, .int .u64 0, .bool false], .int .i64 9]
    | some x => .tuple #[.agg #[.string x.key, .int .u64 (x.rev : Int), .bool x.del], .int .i64 0] := by
  unfold dec
  cases outer k.data.toList with
  | none => rfl
  | some p => rfl

theorem ecells_snoc (es : List Ent) (x : Ent) : ecells (es ++ [x]) = ecells es ++ ecell x := by simp [ecells]

set_option maxRecDepth 100000 in
set_option maxHeartbeats 4000000 in
theorem each_any (N : Nat) (w : World) (a : Option Addr) (n cap : Nat) (ks : List ByteArray) (hr : ∀ w', Below N w w' → Reads w' 1 (.slice a n cap) n (scells ks)) (hsz : ∀ k ∈ ks, k.size ≤ 1000000) (hn : n ≤ 1000) (hN : N ≤ w.heap.size)
    (cf : FuncId) (cp : Array Value) (J : List KE → World → Prop) (hJ : ∀ w', Below w.heap.size w w' → J [] w') (hv : ∀ es, decs ks = some es → rises ks → Visits N (ks.zip es) cf cp J) :
    Calls Try.prog 40 #[.slice a n cap, .func (.func cf) #[] cp] w (EachPost N w ks J) := by
  obtain ⟨j0, hj, hy0, hy1, hy2⟩ := info_parts info48
  have h0 := hr w (Below.refl _ _)
  have hll : ks.length = n := by have := h0.1; rw [scells_length] at this; omega
  obtain ⟨_, _, hv0, hc1, hc2⟩ := h0.le
  cases hv0
  unfold maxLen at hc2
  have HR := Lib.hid hr
  have HL := Lib.hid hll
  have HS := Lib.hid hsz
  have HJ := Lib.hid hJ
  have HV := Lib.hid hv
  clear h0 hll hr hsz hJ hv
  go_enter Try.func40, Try.ntmps40
  go_wp2_with (at_make; go_must (refine wpList_make_own _ rfl _ _ 22 rfl w.heap.size 48 j0 _ 3 Try.underlying22 hj hy0 hy1 .i64 .i64 _ n rfl rfl ?_ ?_ ?_ ?_ ?_))
  · rfl
  · rw [hy2]; omega
  · unfold maxLen; omega
  · exact Nat.le_refl _
  intro w1 f1 g1
  have b1 : Below w.heap.size w w1 := (Below.refl _ _).grown g1 (Nat.le_refl _) (fun k hk => by cases hk)
  have HO1 := Lib.hid f1
  have HB1 := Lib.hid b1
  clear f1 g1 b1
  go_wp2
  go_loopw [5, 18] (fun ev v wr => EachRel1 w ks ev v wr) (fun _ v _ => n - (intOf v).toNat)
  case atStart => exact ⟨0, [], rfl, Nat.zero_le _, rfl, HO1.out, HB1.out⟩
  case round =>
    obtain ⟨i, es, rfl, hil, hde, how, hb⟩ := hrel
    clear HO1 HB1
    rw [HL.out] at hil
    have hbs := hb.size
    obtain ⟨ea, ecap, rfl, he1, he2⟩ := (ownsRow.reads how).le
    unfold maxLen at he2
    have HB := Lib.hid hb
    have HO := Lib.hid how
    have HD := Lib.hid hde
    clear hb how hde
    by_cases hin : i < n
    · have hinI : (i : Int) < n := by omega
      obtain ⟨b, off, x, rfl, hx, hbx, hcx⟩ := (HR.out wr (HB.out.mono hN)).scell i hin
      have hxs := HS.out x (List.mem_of_getElem? hx)
      have hev := entryVal_dec x
      have hou := outer_any wr x (by omega)
      have HOu := Lib.hid hou
      cases hdx : dec x with
      | none =>
        rw [hdx] at hev
        dsimp only at hev
        have hdn := decs_none hx hdx
        have her := errOf_none hdn
        have HE := Lib.hid hev
        have HDn := Lib.hid hdn
        have HEr := Lib.hid her
        clear hev hou hx hdx hdn her
        go_wp2_with (go_at_call 52; go_must (refine HOu.out.mono ?_))
        rintro e w2 ⟨rfl, b2⟩
        rw [HE.out]
        have hb2 := HB.out.trans (b2.mono hbs)
        have HB2 := Lib.hid ((hb2.alloc hb2.size (.cells #[.string ⟨#[]⟩, .int .u64 0, .bool false] 48)))
        clear b2 hb2 HE HOu
        go_wp2
        go_ret
        refine ⟨by rw [HEr.out]; rfl, HB2.out.mono hN, .inr ⟨.inl HDn.out, HJ.out _ HB2.out⟩⟩
      | some y =>
        rw [hdx] at hev
        dsimp only at hev
        have hsn : decs (ks.take (i + 1)) = some (es ++ [y]) := by
          rw [List.take_add_one, hx]
          exact decs_snoc HD.out hdx
        obtain ⟨key, rev, del⟩ := y
        dsimp only at hev
        have HE := Lib.hid hev
        have HSn := Lib.hid hsn
        clear hev hou hx hdx hsn
        go_wp2_with (go_at_call 52; go_must (refine HOu.out.mono ?_))
        rintro e w2 ⟨rfl, b2⟩
        rw [HE.out]
        have hb2 := HB.out.trans (b2.mono hbs)
        have ho2 := owns_below HO.out b2
        have hb3 := hb2.alloc hb2.size (.cells #[.string key, .int .u64 (rev : Int), .bool del] 48)
        have ho3 := ho2.alloc (.cells #[.string key, .int .u64 (rev : Int), .bool del] 48)
        have hN3 : (w2.alloc (.cells #[.string key, .int .u64 (rev : Int), .bool del] 48)).heap.size = w2.heap.size + 1 := by simp
        have hs3 := hb3.size
        have HB3 := Lib.hid hb3
        have HO3 := Lib.hid ho3
        have HN3 := Lib.hid hN3
        clear b2 hb2 ho2 hb3 ho3 hN3 HE HOu HB HO
        go_wp2_with (at_builtin; go_must (refine wpList_append_rows_at (w0 := w2.alloc (.cells #[.string key, .int .u64 (rev : Int), .bool del] 48)) rfl _ _ 22 rfl w.heap.size 48 j0 _ 3 32 Try.underlying22 hj hy0 hy1 hy2 rfl (ecell ⟨key, rev, del⟩) 1 rfl HN3.out HO3.out rfl rfl ?_ ?_ ?_ hs3 ?_))
        · intro u hu
          simp [ecell] at hu
          rcases hu with rfl | rfl | rfl <;> rfl
        · unfold maxLen; omega
        · omega
        intro v6 w6 o6 g6 b6 _
        rw [← ecells_snoc] at o6
        have HO6 := Lib.hid o6
        have HB6 := Lib.hid (HB3.out.trans b6)
        clear o6 g6 b6 HB3 HO3 hs3
        go_wp2
        exact ⟨⟨i + 1, _, by go_num, by rw [HL.out]; omega, HSn.out, HO6.out, HB6.out⟩, by simp [intOf]; omega⟩
    · have hinI : ¬ ((i : Int) < n) := by omega
      obtain rfl : i = n := by omega
      have hdk : decs ks = some es := by
        have := HD.out
        rw [List.take_of_length_le (by rw [HL.out]; exact Nat.le_refl _)] at this
        exact this
      have HDk := Lib.hid hdk
      clear hdk HD
      go_wp2
      obtain ⟨wm, hwm⟩ : ∃ wm, wm = wr := ⟨_, rfl⟩
      subst hwm
      go_loopw [37] (fun v wi => EachRel2 wm ks v wi) (fun v _ => i - (intOf v).toNat)
      case atStart => exact ⟨0, rfl, Nat.zero_le _, fun j h0 hj => by omega, Below.refl _ _⟩
      case round =>
        obtain ⟨j, rfl, hjl, hst, hbi⟩ := hrel
        rw [HL.out] at hjl
        have HBi := Lib.hid hbi
        have HSt := Lib.hid hst
        clear hbi hst
        by_cases hji : j < i
        · have hjiI : (j : Int) < i := by omega
          by_cases hj0 : j = 0
          · subst hj0
            go_wp2
            go_quiet (fail)
            go_wp2
            exact ⟨⟨1, by go_num, by rw [HL.out]; omega, steps_one ks, below_quiet HBi.out _⟩, by simp [intOf]; omega⟩
          · obtain ⟨k, rfl⟩ : ∃ k, j = k + 1 := ⟨j - 1, by omega⟩
            obtain ⟨b, off, y, rfl, hy, hby, hcy⟩ := (HR.out wr ((HB.out.trans (HBi.out.mono HB.out.size)).mono hN)).scell (k + 1) hji
            obtain ⟨b2, off2, x, hv, hx, hbx, hcx⟩ := (HR.out wr ((HB.out.trans (HBi.out.mono HB.out.size)).mono hN)).scell k (by omega)
            cases hv
            have HX := Lib.hid hx
            have HY := Lib.hid hy
            clear hx hy
            have hjI : (((k + 1 : Nat) : Int) - 1) = (k : Int) := by omega
            have hw64 : IntKind.i64.wrap (((k + 1 : Nat) : Int) - 1) = (k : Int) := by rw [IntKind.wrap_i64]; omega
            have hkn : (k : Int) < i := by omega
            have hpos : (0 : Int) < ((k + 1 : Nat) : Int) := by omega
            have e1 := bl_spell x y
            have e2 := bl_spell y x
            have e3 := str_eq x y
            rcases bl_cases x y with ⟨k1, k2, k3⟩ | ⟨k1, k2, k3⟩ | ⟨k1, k2, k3⟩
            · rw [k1] at e1
              rw [k2] at e2
              rw [decide_eq_false k3] at e3
              have HK := Lib.hid k1
              clear k1 k2 k3
              go_wp2
              go_quiet (fail)
              go_wp2
              exact ⟨⟨k + 1 + 1, by go_num, by rw [HL.out]; omega, steps_more HSt.out HX.out HY.out HK.out, below_quiet HBi.out _⟩, by simp [intOf]; omega⟩
            · subst k3
              rw [k1] at e1 e2
              rw [decide_eq_true rfl] at e3
              have hnr : ¬ rises ks := not_rises (by omega) HX.out HY.out k1
              have her : errOf ks = 11 := by rw [errOf_some HDk.out, if_neg hnr]
              have HN := Lib.hid hnr
              have HEr := Lib.hid her
              have hbf := HB.out.trans ((below_quiet HBi.out 0).mono HB.out.size)
              clear k1 k2 hnr her hbf
              go_wp2
              go_quiet (fail)
              go_wp2
              go_ret
              have hbf := HB.out.trans ((below_quiet HBi.out nq).mono HB.out.size)
              exact ⟨by rw [HEr.out]; rfl, hbf.mono hN, .inr ⟨.inr HN.out, HJ.out _ hbf⟩⟩
            · rw [k1] at e1
              rw [k2] at e2
              rw [decide_eq_false k3] at e3
              have hnr : ¬ rises ks := not_rises (by omega) HX.out HY.out k1
              have her : errOf ks = 11 := by rw [errOf_some HDk.out, if_neg hnr]
              have HN := Lib.hid hnr
              have HEr := Lib.hid her
              have hbf := HB.out.trans ((below_quiet HBi.out 0).mono HB.out.size)
              clear k1 k2 hnr her hbf
              go_wp2
              go_quiet (fail)
              go_wp2
              go_ret
              have hbf := HB.out.trans ((below_quiet HBi.out nq).mono HB.out.size)
              exact ⟨by rw [HEr.out]; rfl, hbf.mono hN, .inr ⟨.inr HN.out, HJ.out _ hbf⟩⟩
        · have hjiI : ¬ ((j : Int) < i) := by omega
          have hri : rises ks := rises_of_steps ks (fun x h0 hx => HSt.out x h0 (by rw [HL.out] at hx; omega))
          have hvis := HV.out es HDk.out hri
          have hel := (decs_some HDk.out).1
          rw [HL.out] at hel
          have hzl : (ks.zip es).length = i := by rw [List.length_zip, HL.out, hel, Nat.min_self]
          have hbw := HB.out.trans (HBi.out.mono HB.out.size)
          have HB3 := Lib.hid hbw
          have HO3 := Lib.hid (owns_below HO.out HBi.out)
          have HRi := Lib.hid hri
          have HVi := Lib.hid hvis
          have HEl := Lib.hid hel
          have HZl := Lib.hid hzl
          have HJ0 := Lib.hid (HJ.out _ hbw)
          clear hri hvis hel hzl hbw HBi HSt HB HO HV HJ
          go_wp2
          obtain ⟨w3, hw3⟩ : ∃ w3, w3 = wr := ⟨_, rfl⟩
          subst hw3
          go_loopw [57] (fun v wi => EachRel3 N w3 (ks.zip es) J v wi) (fun v _ => i - (intOf v).toNat)
          case atStart => exact ⟨0, rfl, Nat.zero_le _, HJ0.out, FrameE.refl _ _⟩
          case round =>
            obtain ⟨k, rfl, hkl, hJk, hfr⟩ := hrel
            rw [HZl.out] at hkl
            have HF := Lib.hid hfr
            have HJk := Lib.hid hJk
            have hNw : N ≤ wr.heap.size := Nat.le_trans hN (Nat.le_trans HB3.out.size hfr.below.size)
            clear hJk hfr HJ0
            by_cases hki : k < i
            · have hkiI : (k : Int) < i := by omega
              obtain ⟨b, off, x, rfl, hx, hbx, hcx⟩ := (HR.out wr ((HB3.out.mono hN).trans HF.out.below)).scell k hki
              obtain ⟨y, hy⟩ : ∃ y, es[k]? = some y := ⟨es[k]'(by rw [HEl.out]; exact hki), List.getElem?_eq_getElem _⟩
              obtain ⟨g2, off2, hea, hgl2, c0, c1, c2⟩ := ent_cells (ownsRow.reads (HF.out.owns HO3.out)) hy
              subst hea
              have hz : (ks.zip es)[k]? = some (x, y) := List.getElem?_zip_eq_some.2 ⟨hx, hy⟩
              have hcall := HVi.out.call k (x, y) wr hz HJk.out hNw
              obtain ⟨key, rev, del⟩ := y
              dsimp only at c0 c1 c2
              have HCall := Lib.hid hcall
              clear hcall hz hx hy
              go_wp2_with fail
              rw [HVi.out.enter]
              refine (HCall.out).mono ?_
              rintro e w6 ⟨rfl, hj6, hf6⟩
              have HJ6 := Lib.hid hj6
              have HF6 := Lib.hid (HF.out.trans hf6)
              clear hj6 hf6 HCall HF HJk
              go_wp2
              exact ⟨⟨k + 1, by go_num, by rw [HZl.out]; omega, HJ6.out, HF6.out⟩, by simp [intOf]; omega⟩
            · have hkiI : ¬ ((k : Int) < i) := by omega
              have htk : (ks.zip es).take k = ks.zip es := List.take_of_length_le (by rw [HZl.out]; omega)
              have hjf := HJk.out
              rw [htk] at hjf
              have her : errOf ks = 0 := by rw [errOf_some HDk.out, if_pos HRi.out]
              have HJf := Lib.hid hjf
              have HEr := Lib.hid her
              clear hjf her htk
              go_wp2
              go_ret
              exact ⟨by rw [HEr.out]; rfl, (HB3.out.mono hN).trans HF.out.below, .inl ⟨es, HDk.out, HRi.out, HJf.out⟩⟩
end Go.Proofs.Ytekdcjbjjakhcaa

/- iter.first: the first entry of all sources. -/
namespace Go.Proofs.Ytekdcjbjjakhcaa
open Go Go.RowKit

/-- Sources that can be asked: rows, or none. -/
def Srcs (w : World) (v : Value) (n : Nat) (srcs : List (Option (List ByteArray))) : Prop :=
  ∃ a cap, v = .slice a n cap ∧ n ≤ cap ∧ cap ≤ maxLen ∧ srcs.length = n ∧ ∀ (i : Nat) (r : Option (List ByteArray)), srcs[i]? = some r → ∃ g off, a = some ⟨g, off, none⟩ ∧ g < w.heap.size ∧
    match r with
    | none => w.cell? ⟨g, off + i, none⟩ = some .nilIface
    | some l => ∃ sa scap, w.cell? ⟨g, off + i, none⟩ = some (.iface 62 (.slice sa l.length scap)) ∧ Reads w 1 (.slice sa l.length scap) l.length (scells l)

theorem Srcs.below {w w' : World} {v : Value} {n : Nat} {srcs : List (Option (List ByteArray))} (h : Srcs w v n srcs) (hb : Below w.heap.size w w') : Srcs w' v n srcs := by
  obtain ⟨a, cap, hv, h1, h2, h3, h4⟩ := h
  refine ⟨a, cap, hv, h1, h2, h3, fun i r hi => ?_⟩
  obtain ⟨g, off, ha, hg, hr⟩ := h4 i r hi
  refine ⟨g, off, ha, Nat.lt_of_lt_of_le hg hb.size, ?_⟩
  cases r with
  | none => exact (hb.cell (p := ⟨g, off + i, none⟩) hg).trans hr
  | some l =>
    obtain ⟨sa, scap, hc, hrd⟩ := hr
    exact ⟨sa, scap, (hb.cell (p := ⟨g, off + i, none⟩) hg).trans hc, hrd.below' hb⟩

def rowsOf (srcs : List (Option (List ByteArray))) : List (List ByteArray) := srcs.filterMap id

theorem rowsOf_none {srcs : List (Option (List ByteArray))} {i : Nat} (h : srcs[i]? = some none) : rowsOf (srcs.take (i + 1)) = rowsOf (srcs.take i) := by
  unfold rowsOf
  rw [List.take_add_one, h, List.filterMap_append]
  simp

theorem rowsOf_some {srcs : List (Option (List ByteArray))} {i : Nat} {l : List ByteArray} (h : srcs[i]? = some (some l)) : rowsOf (srcs.take (i + 1)) = rowsOf (srcs.take i) ++ [l] := by
  unfold rowsOf
  rw [List.take_add_one, h, List.filterMap_append]
  simp

/-- The rows are such as they should be. -/
def SrcOk (srcs : List (Option (List ByteArray))) : Prop := ∀ l, some l ∈ srcs → rises l ∧ l.length ≤ 1000000 ∧ ∀ k ∈ l, k.size ≤ 1000000 ∧ ∃ x, dec k = some x

def foundV : Option Ent → Value
  | none => .tuple #[.agg #[.string ⟨#[]⟩, .int .u64 0, .bool false], .bool false, .int .i64 0]
  | some x => .tuple #[.agg #[.string x.key, .int .u64 (x.rev : Int), .bool x.del], .bool true, .int .i64 0]

def FoundPost (w : World) (o : Option Ent) (e : Ending) (w' : World) : Prop := e = .returned (foundV o) ∧ Below w.heap.size w w'

def FirstRelI (B : Nat) (w0 : World) (srcs : List (Option (List ByteArray))) (key : ByteArray) (lv sv fv iv : Value) (wr : World) : Prop :=
  ∃ k : Nat, iv = .int .i64 (k : Int) ∧ k ≤ srcs.length ∧ fv = .bool true ∧ sv = .bool (firstL (rowsOf (srcs.take k)) key).isSome ∧ lv = .string ((firstL (rowsOf (srcs.take k)) key).getD ⟨#[]⟩) ∧
    (∀ x, firstL (rowsOf (srcs.take k)) key = some x → x.size ≤ 1000000 ∧ ∃ y, dec x = some y) ∧ Below B w0 wr

theorem fst_ok {srcs : List (Option (List ByteArray))} {key : ByteArray} (h : ∀ l ∈ rowsOf srcs, rises l ∧ ∀ k ∈ l, k.size ≤ 1000000 ∧ ∃ x, dec k = some x) : ∀ x, firstL (rowsOf srcs) key = some x → x.size ≤ 1000000 ∧ ∃ y, dec x = some y := by
  intro x hx
  have hl := fst_go key (rowsOf srcs) none (fun _ => False) (fun l hl => (h l hl).1) (fun y hy => hy.elim)
  rw [show (rowsOf srcs).foldl (fstStep key) none = some x from hx] at hl
  obtain ⟨h1, _⟩ := hl
  rcases h1 with h1 | ⟨l, hl, hxl⟩
  · exact h1.elim
  · exact (h l hl).2 x hxl

set_option maxRecDepth 100000 in
set_option maxHeartbeats 4000000 in
theorem ifirst_any (w : World) (v : Value) (n : Nat) (srcs : List (Option (List ByteArray))) (key : ByteArray) (h : Srcs w v n srcs) (hok : SrcOk srcs) (hn : n ≤ 1000) :
    Calls Try.prog 46 #[v, .string key] w (FoundPost w ((firstL (rowsOf srcs) key).bind dec)) := by
  have hm : ∀ (w : World) (sa : Option Addr) (len scap : Nat), (method 217 62 (.slice sa len scap) "Seek").run Try.prog w = .ok (31, .slice sa len scap) w := fun _ _ _ _ => by kernel_rfl
  have HS := Lib.hid h
  have HOk := Lib.hid hok
  obtain ⟨a, cap, rfl, hc1, hc2, hll, hx0⟩ := h
  clear hx0
  unfold maxLen at hc2
  have HL := Lib.hid hll
  have hb0 : Below w.heap.size w (w.alloc (.cells #[.string ⟨#[]⟩, .int .u64 0, .bool false] 48)) := (Below.refl _ _).alloc (Nat.le_refl _) _
  have hg0 := heap_alloc_new w (.cells #[.string ⟨#[]⟩, .int .u64 0, .bool false] 48)
  have hs0 : (w.alloc (.cells #[.string ⟨#[]⟩, .int .u64 0, .bool false] 48)).heap.size = w.heap.size + 1 := by simp
  have HB0 := Lib.hid hb0
  have HG0 := Lib.hid hg0
  have HS0 := Lib.hid hs0
  clear hok hll hb0 hg0 hs0
  go_enter Try.func46, Try.ntmps46
  go_wp2
  go_loopw [7, 8, 9, 19] (fun lv sv fv iv wr => FirstRelI (w.heap.size + 1) (w.alloc (.cells #[.string ⟨#[]⟩, .int .u64 0, .bool false] 48)) srcs key lv sv fv iv wr) (fun _ _ _ iv _ => n - (intOf iv).toNat)
  case atStart => exact ⟨0, rfl, Nat.zero_le _, rfl, rfl, rfl, fun x hx => (by cases hx), Below.refl _ _⟩
  case round =>
    obtain ⟨i, rfl, hil, rfl, rfl, rfl, hdx, hb⟩ := hrel
    rw [HL.out] at hil
    have hbw : Below w.heap.size w wr := HB0.out.trans (hb.mono (by omega))
    have HB := Lib.hid hb
    have HBw := Lib.hid hbw
    have HDx := Lib.hid hdx
    clear hb hbw hdx
    by_cases hin : i < n
    · have hinI : (i : Int) < n := by omega
      obtain ⟨r, hr⟩ : ∃ r, srcs[i]? = some r := ⟨srcs[i]'(by rw [HL.out]; exact hin), List.getElem?_eq_getElem _⟩
      obtain ⟨_, _, hv, _, _, _, hsee⟩ := HS.out.below HBw.out
      cases hv
      obtain ⟨g, off, rfl, hg, hcell⟩ := hsee i r hr
      cases r with
      | none =>
        have hro := rowsOf_none hr
        have HRo := Lib.hid hro
        dsimp only at hcell
        clear hsee hro hr
        go_wp2
        refine ⟨⟨i + 1, by go_num, by rw [HL.out]; omega, rfl, ?_, ?_, ?_, HB.out⟩, by simp [intOf]; omega⟩
        · rw [HRo.out]
        · rw [HRo.out]
        · rw [HRo.out]; exact HDx.out
      | some l =>
        obtain ⟨sa, scap, hcell, hrd⟩ := hcell
        have hro := rowsOf_some hr
        have hlo := HOk.out l (List.mem_of_getElem? hr)
        have hnx := firstL_snoc (rowsOf (srcs.take i)) l key
        rw [← hro] at hnx
        have hse := rseek_any wr sa l.length scap l key hrd hlo.1 hlo.2.1
        have HSe := Lib.hid hse
        have HNx := Lib.hid hnx
        have HLo := Lib.hid hlo
        clear hsee hro hr hnx hse hlo hrd
        go_wp2_with (go_at_call 31; go_must (refine HSe.out.mono ?_))
        rintro e w2 ⟨rfl, b2⟩
        have hb2 := HB.out.trans (b2.mono (by rw [← HS0.out]; exact HB.out.size))
        have hbw2 := HBw.out.trans (b2.mono HBw.out.size)
        have HB2 := Lib.hid hb2
        have hsk : ∀ x, sk l key = some x → bl x key = false ∧ x.size ≤ 1000000 ∧ ∃ y, dec x = some y := fun x hx => by
          have h1 := sk_least HLo.out.1 key
          rw [hx] at h1
          exact ⟨h1.2.1, HLo.out.2.2 x h1.1⟩
        have HSk := Lib.hid hsk
        have hfs : fstStep key (firstL (rowsOf (srcs.take i)) key) l = match sk l key with
          | none => firstL (rowsOf (srcs.take i)) key
          | some k => match firstL (rowsOf (srcs.take i)) key with
            | none => some k
            | some m => if bl k m then some k else some m := rfl
        rw [hfs] at HNx
        clear hfs hsk b2 hb2 hbw2 hcell
        generalize firstL (rowsOf (srcs.take i)) key = o at *
        generalize sk l key = s at *
        cases s with
        | none =>
          dsimp only at HNx
          unfold skV
          go_wp2
          refine ⟨⟨i + 1, by go_num, by rw [HL.out]; omega, rfl, ?_, ?_, ?_, HB2.out⟩, by simp [intOf]; omega⟩
          · rw [HNx.out]
          · rw [HNx.out]
          · rw [HNx.out]; exact HDx.out
        | some x =>
          obtain ⟨hxk, hxs, y, hdx⟩ := HSk.out x rfl
          have hev := entryVal_dec x
          rw [hdx] at hev
          have hou := outer_any w2 x (by omega)
          have HOu := Lib.hid hou
          have HE := Lib.hid hev
          have hok2 : ∀ z, some x = some z → z.size ≤ 1000000 ∧ ∃ y, dec z = some y := fun z hz => by cases hz; exact ⟨hxs, y, hdx⟩
          have HOk2 := Lib.hid hok2
          have e1 := bl_spell x key
          have e2 := bl_spell key x
          have e3 := str_eq x key
          clear hev hou hdx hok2
          unfold skV
          rcases bl_cases x key with ⟨k1, _, _⟩ | ⟨k1, k2, k3⟩ | ⟨k1, k2, k3⟩
          · rw [k1] at hxk; cases hxk
          all_goals
            rw [k1] at e1
            rw [k2] at e2
            first
              | rw [decide_eq_true k3] at e3
              | rw [decide_eq_false k3] at e3
            clear k1 k2 k3 hxk
            cases o with
            | none =>
              dsimp only at HNx
              have hsm : (none : Option ByteArray).isSome = false := rfl
              rw [hsm]
              go_wp2_with (go_at_call 52; go_must (refine HOu.out.mono ?_))
              rintro e w3 ⟨rfl, b3⟩
              rw [HE.out]
              have HB3 := Lib.hid (HB2.out.trans (b3.mono (by rw [← HS0.out]; exact HB2.out.size)))
              clear b3
              go_wp2
              refine ⟨⟨i + 1, by go_num, by rw [HL.out]; omega, rfl, ?_, ?_, ?_, HB3.out⟩, by simp [intOf]; omega⟩
              · rw [HNx.out]; rfl
              · rw [HNx.out]; rfl
              · rw [HNx.out]; exact HOk2.out
            | some m =>
              have hsm : (some m : Option ByteArray).isSome = true := rfl
              rw [hsm]
              have f1 := bl_spell x m
              cases hxm : bl x m with
              | true =>
                rw [hxm] at f1
                have hnx2 := HNx.out
                dsimp only at hnx2
                rw [hxm, if_pos rfl] at hnx2
                have HN2 := Lib.hid hnx2
                clear hnx2 hxm
                go_wp2_with (go_at_call 52; go_must (refine HOu.out.mono ?_))
                rintro e w3 ⟨rfl, b3⟩
                rw [HE.out]
                have HB3 := Lib.hid (HB2.out.trans (b3.mono (by rw [← HS0.out]; exact HB2.out.size)))
                clear b3
                go_wp2
                refine ⟨⟨i + 1, by go_num, by rw [HL.out]; omega, rfl, ?_, ?_, ?_, HB3.out⟩, by simp [intOf]; omega⟩
                · rw [HN2.out]; rfl
                · rw [HN2.out]; rfl
                · rw [HN2.out]; exact HOk2.out
              | false =>
                rw [hxm] at f1
                have hnx2 := HNx.out
                dsimp only at hnx2
                rw [hxm, if_neg (by decide)] at hnx2
                have HN2 := Lib.hid hnx2
                clear hnx2 hxm
                go_wp2_with (go_at_call 52; go_must (refine HOu.out.mono ?_))
                rintro e w3 ⟨rfl, b3⟩
                rw [HE.out]
                have HB3 := Lib.hid (HB2.out.trans (b3.mono (by rw [← HS0.out]; exact HB2.out.size)))
                clear b3
                go_wp2
                refine ⟨⟨i + 1, by go_num, by rw [HL.out]; omega, rfl, ?_, ?_, ?_, HB3.out⟩, by simp [intOf]; omega⟩
                · rw [HN2.out]; rfl
                · rw [HN2.out]; rfl
                · rw [HN2.out]; exact HDx.out
    · have hinI : ¬ ((i : Int) < n) := by omega
      have htk : srcs.take i = srcs := List.take_of_length_le (by rw [HL.out]; omega)
      rw [htk] at HDx ⊢
      have hbl : w.heap.size < w.heap.size + 1 := by omega
      generalize firstL (rowsOf srcs) key = o at *
      clear htk
      have hR : wr.heap[w.heap.size]? = some (.cells #[.string ⟨#[]⟩, .int .u64 0, .bool false] 48 (0, 0)) := (HB.out.block w.heap.size (by omega)).trans HG0.out
      cases o with
      | none =>
        have hsm : (none : Option ByteArray).isSome = false := rfl
        rw [hsm]
        have hlt := (Array.getElem?_eq_some_iff.1 hR).1
        have c0 := Lib.cell_of_heap hR 0
        have c1 := Lib.cell_of_heap hR 1
        have c2 := Lib.cell_of_heap hR 2
        have f0 := Lib.frozen_of_heap hR
        simp at c0 c1 c2
        clear hR
        go_wp2
        refine bodyPost_ret (v := foundV none) (by simp [results, Try.results46, go_sem, foundV, c0, c1, c2]) rfl ⟨rfl, ?_⟩
        exact ((HBw.out.setCell (p := ⟨w.heap.size, 0, none⟩) (Nat.le_refl _) _).setCell (p := ⟨w.heap.size, 1, none⟩) (Nat.le_refl _) _).setCell (p := ⟨w.heap.size, 2, none⟩) (Nat.le_refl _) _
      | some m =>
        have hsm : (some m : Option ByteArray).isSome = true := rfl
        rw [hsm]
        have hgd : (some m : Option ByteArray).getD ⟨#[]⟩ = m := rfl
        rw [hgd]
        obtain ⟨hms, y, hdy⟩ := HDx.out m rfl
        have hbd : (some m).bind dec = some y := hdy
        have hev := entryVal_dec m
        rw [hdy] at hev
        obtain ⟨key', rev, del⟩ := y
        have HBd := Lib.hid hbd
        dsimp only at hev
        have hou := outer_any wr m (by omega)
        have HOu := Lib.hid hou
        have HE := Lib.hid hev
        have HRb := Lib.hid hR
        clear hou hev hdy hbd hR HDx
        go_wp2_with (go_at_call 52; go_must (refine HOu.out.mono ?_))
        rintro e w3 ⟨rfl, b3⟩
        rw [HE.out]
        have hR3 := (b3.block w.heap.size (Array.getElem?_eq_some_iff.1 HRb.out).1).trans HRb.out
        have HB3 := Lib.hid (HBw.out.trans (b3.mono HBw.out.size))
        have hlt := (Array.getElem?_eq_some_iff.1 hR3).1
        have c0 := Lib.cell_of_heap hR3 0
        have c1 := Lib.cell_of_heap hR3 1
        have c2 := Lib.cell_of_heap hR3 2
        have f0 := Lib.frozen_of_heap hR3
        simp at c0 c1 c2
        clear b3 hR3 HE HOu
        go_wp2
        refine bodyPost_ret (v := foundV (some ⟨key', rev, del⟩)) (by simp [results, Try.results46, go_sem, foundV, c0, c1, c2, hlt]) rfl ?_
        rw [HBd.out]
        exact ⟨rfl, (((HB3.out.setCell (p := ⟨w.heap.size, 0, none⟩) (Nat.le_refl _) _).setCell (p := ⟨w.heap.size, 1, none⟩) (Nat.le_refl _) _).setCell (p := ⟨w.heap.size, 2, none⟩) (Nat.le_refl _) _).alloc (by simp; omega) _⟩
end Go.Proofs.Ytekdcjbjjakhcaa

/- sentrylaw19.sources: rows as sources. -/
namespace Go.Proofs.Ytekdcjbjjakhcaa
open Go Go.RowKit

/-- A slice of rows of texts that can be looked at. -/
def SRows (w : World) (v : Value) (n : Nat) (ls : List (List ByteArray)) : Prop :=
  ∃ a cap, v = .slice a n cap ∧ n ≤ cap ∧ cap ≤ maxLen ∧ ls.length = n ∧ ∀ (i : Nat) (l : List ByteArray), ls[i]? = some l →
    ∃ g off sa scap, a = some ⟨g, off, none⟩ ∧ g < w.heap.size ∧ w.cell? ⟨g, off + i, none⟩ = some (.slice sa l.length scap) ∧ Reads w 1 (.slice sa l.length scap) l.length (scells l)

theorem SRows.below {w w' : World} {v : Value} {n : Nat} {ls : List (List ByteArray)} (h : SRows w v n ls) (hb : Below w.heap.size w w') : SRows w' v n ls := by
  obtain ⟨a, cap, hv, h1, h2, h3, h4⟩ := h
  refine ⟨a, cap, hv, h1, h2, h3, fun i l hi => ?_⟩
  obtain ⟨g, off, sa, scap, ha, hg, hc, hr⟩ := h4 i l hi
  exact ⟨g, off, sa, scap, ha, Nat.lt_of_lt_of_le hg hb.size, (hb.cell (p := ⟨g, off + i, none⟩) hg).trans hc, hr.below' hb⟩

/-- The cells of sources over rows that lay in world w0. -/
def Faces (w0 : World) (ls : List (List ByteArray)) (vs : List Value) : Prop :=
  vs.length = ls.length ∧ ∀ (i : Nat) (l : List ByteArray), ls[i]? = some l → ∃ sa scap, vs[i]? = some (.iface 62 (.slice sa l.length scap)) ∧ Reads w0 1 (.slice sa l.length scap) l.length (scells l)

theorem Faces.snoc {w0 : World} {ls : List (List ByteArray)} {vs : List Value} {l : List ByteArray} {sa : Option Addr} {scap : Nat} (h : Faces w0 ls vs) (hr : Reads w0 1 (.slice sa l.length scap) l.length (scells l)) : Faces w0 (ls ++ [l]) (vs ++ [.iface 62 (.slice sa l.length scap)]) := by
  refine ⟨by simp [h.1], fun i m hi => ?_⟩
  by_cases hlt : i < ls.length
  · rw [List.getElem?_append_left hlt] at hi
    rw [List.getElem?_append_left (by rw [h.1]; exact hlt)]
    exact h.2 i m hi
  · have hi' : i = ls.length := by
      have := (List.getElem?_eq_some_iff.1 hi).1
      simp at this
      omega
    subst hi'
    simp at hi
    subst hi
    rw [List.getElem?_append_right (by rw [h.1]; exact Nat.le_refl _)]
    exact ⟨sa, scap, by simp [h.1], hr⟩

def SrcRel (w : World) (ls : List (List ByteArray)) (n : Nat) (ov iv : Value) (wr : World) : Prop :=
  ∃ (k : Nat) (vs : List Value), iv = .int .i64 (k : Int) ∧ k ≤ n ∧ Faces w (ls.take k) vs ∧ wr.ownsRow w.heap.size 85 1 ov k vs ∧ Below w.heap.size w wr

/-- Sources in a row of one's own. -/
def SrcPost (w : World) (ls : List (List ByteArray)) (n : Nat) (e : Ending) (w' : World) : Prop :=
  ∃ ov vs, e = .returned ov ∧ Faces w ls vs ∧ w'.ownsRow w.heap.size 85 1 ov n vs ∧ Below w.heap.size w w'

theorem srcs_owns {w w' : World} {ls : List (List ByteArray)} {n : Nat} {ov : Value} {vs : List Value} (hl : ls.length = n) (hf : Faces w ls vs) (ho : w'.ownsRow w.heap.size 85 1 ov n vs) (hb : Below w.heap.size w w') : Srcs w' ov n (ls.map some) := by
  obtain ⟨a, cap, rfl, h1, h2⟩ := (ownsRow.reads ho).le
  refine ⟨a, cap, rfl, h1, h2, by simp [hl], fun i r hi => ?_⟩
  rw [List.getElem?_map] at hi
  obtain ⟨l, hl', rfl⟩ := Option.map_eq_some_iff.1 hi
  obtain ⟨sa, scap, hv, hr⟩ := hf.2 i l hl'
  obtain ⟨g, off, ha, hg, hc⟩ := (ownsRow.reads ho).at hv
  exact ⟨g, off, ha, hg, sa, scap, hc, hr.below' hb⟩

theorem info_src : (Try.prog.info? 85).map (fun i => (i.zero, i.size, i.bytes)) = some (some .nilIface, 1, 16) := by kernel_rfl

set_option maxRecDepth 100000 in
set_option maxHeartbeats 4000000 in
theorem srcs_any (w : World) (v : Value) (n : Nat) (ls : List (List ByteArray)) (h : SRows w v n ls) (hn : n ≤ 1000) :
    Calls Try.prog 26 #[v] w (SrcPost w ls n) := by
  obtain ⟨i0, hi, hz0, hz1, hz2⟩ := info_parts info_src
  have HS := Lib.hid h
  obtain ⟨a, cap, rfl, hc1, hc2, hll, hx0⟩ := h
  clear hx0
  unfold maxLen at hc2
  have HL := Lib.hid hll
  clear hll
  go_enter Try.func26, Try.ntmps26
  go_wp2
  go_loopw [3, 8] (fun ov iv wr => SrcRel w ls n ov iv wr) (fun _ iv _ => n - (intOf iv).toNat)
  case atStart => exact ⟨0, [], rfl, Nat.zero_le _, ⟨rfl, fun i l hi => by simp at hi⟩, owns_nil _ _ _ _, Below.refl _ _⟩
  case round =>
    obtain ⟨k, vs, rfl, hkn, hfc, hown, hb⟩ := hrel
    obtain ⟨ka, kcap, rfl, hk1, hk2⟩ := (ownsRow.reads hown).le
    unfold maxLen at hk2
    have HF := Lib.hid hfc
    have HO := Lib.hid hown
    have HB := Lib.hid hb
    clear hfc hown hb
    by_cases hin : k < n
    · have hinI : (k : Int) < n := by omega
      obtain ⟨l, hl⟩ : ∃ l, ls[k]? = some l := ⟨ls[k]'(by rw [HL.out]; exact hin), List.getElem?_eq_getElem _⟩
      obtain ⟨_, _, hv, _, _, _, hsee⟩ := HS.out
      cases hv
      obtain ⟨g, off, sa, scap, rfl, hg, hcell, hrd⟩ := hsee k l hl
      have hcell := (HB.out.cell (p := ⟨g, off + k, none⟩) hg).trans hcell
      have hg := Nat.lt_of_lt_of_le hg HB.out.size
      have hsn := HF.out.snoc hrd
      have htk : ls.take (k + 1) = ls.take k ++ [l] := by rw [List.take_add_one, hl]; rfl
      rw [← htk] at hsn
      have HSn := Lib.hid hsn
      obtain ⟨_, _, hv2, hs1, hs2⟩ := hrd.le
      cases hv2
      unfold maxLen at hs2
      clear hsee hl hrd hsn htk
      go_wp2_with (at_builtin; go_must (refine wpList_append_rows_at (w0 := wr) rfl _ _ 51 rfl w.heap.size 85 i0 _ 1 16 Try.underlying51 hi hz0 hz1 hz2 rfl [.iface 62 (.slice sa l.length scap)] 1 rfl rfl HO.out rfl rfl ?_ ?_ ?_ HB.out.size ?_))
      · intro u hu
        simp at hu
        subst hu
        rfl
      · unfold maxLen; omega
      · omega
      intro v6 w6 o6 g6 b6 _
      have HO6 := Lib.hid o6
      have HB6 := Lib.hid (HB.out.trans b6)
      clear o6 g6 b6
      go_wp2
      exact ⟨⟨k + 1, _, by go_num, by omega, HSn.out, HO6.out, HB6.out⟩, by simp [intOf]; omega⟩
    · obtain rfl : k = n := by omega
      have hinI : ¬ (k : Int) < k := by omega
      have htk : ls.take k = ls := by rw [← HL.out]; exact List.take_length
      rw [htk] at HF
      go_wp2
      go_ret
      exact ⟨_, _, rfl, HF.out, HO.out, HB.out⟩
end Go.Proofs.Ytekdcjbjjakhcaa

/- The reference's Put: a key among keys that rise. -/
namespace Go.Proofs.Ytekdcjbjjakhcaa
open Go Go.RowKit

def PutPost (w : World) (l : List ByteArray) (key : ByteArray) (e : Ending) (w' : World) : Prop :=
  ∃ a cap b, e = .returned (.tuple #[.slice a (putK l key).length cap, .bool b]) ∧ Reads w' 1 (.slice a (putK l key).length cap) (putK l key).length (scells (putK l key)) ∧ Below w.heap.size w w'

def PutARel (l : List ByteArray) (key : ByteArray) (v : Value) : Prop := ∃ i : Nat, v = .int .i64 (i : Int) ∧ i ≤ l.length ∧ ∀ j x, j < i → l[j]? = some x → bl x key = true

set_option maxRecDepth 100000 in
set_option maxHeartbeats 2000000 in
theorem putk_any (w : World) (a : Option Addr) (n cap : Nat) (l : List ByteArray) (key : ByteArray) (h : Reads w 1 (.slice a n cap) n (scells l)) (hn : n ≤ 100000) :
    Calls Try.prog 30 #[.slice a n cap, .string key] w (PutPost w l key) := by
  obtain ⟨i0, hi, hz0, hz1, hz2⟩ := info_parts info9
  have HR := Lib.hid h
  have hll : l.length = n := by have := h.1; rw [scells_length] at this; omega
  have HLL := Lib.hid hll
  obtain ⟨_, _, hv, hc1, hc2⟩ := h.le
  cases hv
  have hc3 := hc2
  unfold maxLen at hc2
  clear h hll
  go_enter Try.func30, Try.ntmps30
  go_wp2
  go_loop [6] (fun v => PutARel l key v) (fun v => n - (intOf v).toNat)
  case atStart => exact ⟨0, rfl, Nat.zero_le _, fun j x hj => by omega⟩
  case round =>
    obtain ⟨i, rfl, hil, hlt⟩ := hrel
    rw [HLL.out] at hil
    have HLt := Lib.hid hlt
    clear hlt
    by_cases hin : i < n
    · have hinI : (i : Int) < n := by omega
      obtain ⟨b, off, x, rfl, hx, hb, hc⟩ := HR.out.scell i hin
      cases hbl : bl x key with
      | true =>
        have hbI : Op.bytesLess x.toList key.toList = true := by rw [bl_spell]; exact hbl
        have HX := Lib.hid hx
        have HBl := Lib.hid hbl
        clear hx hbl
        go_wp2
        refine ⟨⟨i + 1, by go_num, by rw [HLL.out]; omega, fun j y hj hy => ?_⟩, by simp [intOf]; omega⟩
        by_cases hji : j < i
        · exact HLt.out j y hji hy
        · obtain rfl : j = i := by omega
          rw [HX.out] at hy
          cases hy
          exact HBl.out
      | false =>
        have hbI : Op.bytesLess x.toList key.toList = false := by rw [bl_spell]; exact hbl
        have hpa : putAt l key = i := putAt_eq HLt.out (by rw [HLL.out]; omega) (fun y hy => by rw [hx] at hy; cases hy; exact hbl)
        by_cases hxk : x = key
        · subst hxk
          have hpk : putK l x = l := by unfold putK; rw [hpa, hx, if_pos rfl]
          have HP := Lib.hid hpk
          clear hx hpa hpk hbl
          go_wp2
          go_ret2
          unfold PutPost
          rw [HP.out, HLL.out]
          exact ⟨_, _, _, rfl, HR.out, Below.refl _ _⟩
        · have hpk : putK l key = l.take i ++ key :: l.drop i := by
            unfold putK
            rw [hpa, hx, if_neg (fun e => hxk (Option.some.inj e))]
          have hxkI : (x.toList == key.toList) = false := by
            rw [beq_eq_false_iff_ne, Go.ByteArray.toList_eq, Go.ByteArray.toList_eq]
            exact fun e => hxk (Go.WideShapes.bytes_inj e)
          have hat : i ≤ n := by omega
          have HP := Lib.hid hpk
          clear hx hpk hbl HLt hxk hil hpa
          go_wp2_with fail
          generalize (some ({ block := b, off := off } : Addr)) = a at *
          clear hb hc
          obtain ⟨at', rfl⟩ : ∃ at', at' = i := ⟨_, rfl⟩
          refine wp_region_until (by kernel_rfl) [onU (zeroF w.heap.size 9 1) (some 4), eqU (.slice a n cap), eqU (.int .i64 (at' : Int)), eqU (.slice a at' cap), onU (ownsF w.heap.size 9 1 at' (scells (l.take at'))) (some 7), eqU (.string key), onU (litF 9 #[.string key] 1) (some 7), onU (ownsF w.heap.size 9 1 (at' + 1) (scells (l.take at' ++ [key]))) (some 11), eqU (.slice a n cap), eqU (.int .i64 (at' : Int)), eqU (.slice (behind a at' cap) (n - at') (cap - at')), onU (ownsF w.heap.size 9 1 (n + 1) (scells (l.take at' ++ key :: l.drop at'))) none, onU (ownsF w.heap.size 9 1 (n + 1) (scells (l.take at' ++ key :: l.drop at'))) none, eqU (.bool true)] [7, 11] (by kernel_rfl) (by kernel_rfl) (by kernel_rfl) ⟨?_, ?_, ?_, ?_, ?_, ?_, ?_, ?_, ?_, ?_, ?_, ?_, ?_, ?_, trivial⟩ ?_
          · intro ρ wx hρ hbx hl
            refine u_new (v := .slice (some ⟨wx.heap.size, 0, none⟩) 0 0) (w' := wx.alloc (.cells #[] 9)) ?_ ⟨_, rfl, owns_less (owns_zero wx _ 1) hbx.size⟩ ((Below.refl _ _).alloc (Nat.le_refl _) _)
            simp [execOp, go_sem]
          · intro ρ wx hρ hbx hl
            have e0 : ρ (.tmp 0) = .slice a n cap := hρ.tmp 0 (by decide +kernel)
            refine u_val (v := .slice a n cap) ?_ rfl
            simp [execOp, go_sem, e0]
          · intro ρ wx hρ hbx hl
            have e6 : ρ (.tmp 6) = .int .i64 (at' : Int) := hρ.tmp 6 (by decide +kernel)
            refine u_val (v := .int .i64 (at' : Int)) ?_ rfl
            simp [execOp, go_sem, e6]
          · intro ρ wx hρ hbx hl
            have e35 : ρ (.tmp 35) = .slice a n cap := hl 1 (by decide +kernel) (.inl rfl) 35 rfl
            have e36 : ρ (.tmp 36) = .int .i64 (at' : Int) := hl 2 (by decide +kernel) (.inl rfl) 36 rfl
            refine u_val (v := .slice a at' cap) ?_ rfl
            simp [execOp, go_sem, e35, e36]
            first | done | omega
          · intro ρ wx hρ hbx hl
            have e34 : (zeroF w.heap.size 9 1).p (ρ (.tmp 34)) wx := hl 0 (by decide +kernel) (.inr rfl) 34 rfl
            have e37 : ρ (.tmp 37) = .slice a at' cap := hl 3 (by decide +kernel) (.inl rfl) 37 rfl
            obtain ⟨g34, e34, o34⟩ := e34
            rw [e34] at o34
            obtain ⟨v', w', hr, ho, hb⟩ := run_append_zero (P := Try.prog) (w := wx) w.heap.size 26 26 26 9 i0 _ 16 Try.underlying26 hi hz0 hz1 hz2 rfl g34 o34 (.slice a at' cap) at' (scells (l.take at')) (((HR.out.below' hbx).stake at' hat).src Try.underlying26 (scells_one _)) (by unfold maxLen; omega) (by omega) hbx.size
            refine u_new ?_ ho hb
            simp only [execOp, resolve, invoke, builtin, Sem.run_bind, Sem.run_pure, Result.andThen_ok, List.map_toArray, List.map_cons, List.map_nil, e34, e37, hr]
          · intro ρ wx hρ hbx hl
            have e1 : ρ (.tmp 1) = .string key := hρ.tmp 1 (by decide +kernel)
            refine u_val (v := .string key) ?_ rfl
            simp [execOp, go_sem, e1]
          · intro ρ wx hρ hbx hl
            have e39 : ρ (.tmp 39) = .string key := hl 5 (by decide +kernel) (.inl rfl) 39 rfl
            refine u_new (v := .slice (some ⟨wx.heap.size, 0, none⟩) 1 1) (w' := wx.alloc (.cells #[.string key] 9)) ?_ ⟨_, rfl, heap_alloc_new wx _⟩ ((Below.refl _ _).alloc (Nat.le_refl _) _)
            simp [execOp, go_sem, e39]
          · intro ρ wx hρ hbx hl
            have e38 : (ownsF w.heap.size 9 1 at' (scells (l.take at'))).p (ρ (.tmp 38)) wx := hl 4 (by decide +kernel) (.inr rfl) 38 rfl
            have e40 : (litF 9 #[.string key] 1).p (ρ (.tmp 40)) wx := hl 6 (by decide +kernel) (.inr rfl) 40 rfl
            obtain ⟨g40, e40, o40⟩ := e40
            have hrd := lit_reads (cs := [.string key]) (size := 1) o40 rfl (by decide)
            obtain ⟨v', w', hr, ho, hg, hb, _⟩ := run_append_owns (P := Try.prog) (w := wx) w.heap.size 26 26 26 9 i0 _ 1 16 Try.underlying26 hi hz0 hz1 hz2 rfl _ at' _ e38 _ 1 [.string key] (hrd.src Try.underlying26 (by simp [Value.oneCell'])) (by unfold maxLen; omega) (by omega) hbx.size
            rw [show scells (l.take at') ++ [Value.string key] = scells (l.take at' ++ [key]) from (scells_append (l.take at') [key]).symm] at ho
            refine u_new ?_ ho hb
            simp only [execOp, resolve, invoke, builtin, Sem.run_bind, Sem.run_pure, Result.andThen_ok, List.map_toArray, List.map_cons, List.map_nil, e40, hr]
          · intro ρ wx hρ hbx hl
            have e0 : ρ (.tmp 0) = .slice a n cap := hρ.tmp 0 (by decide +kernel)
            refine u_val (v := .slice a n cap) ?_ rfl
            simp [execOp, go_sem, e0]
          · intro ρ wx hρ hbx hl
            have e6 : ρ (.tmp 6) = .int .i64 (at' : Int) := hρ.tmp 6 (by decide +kernel)
            refine u_val (v := .int .i64 (at' : Int)) ?_ rfl
            simp [execOp, go_sem, e6]
          · intro ρ wx hρ hbx hl
            have e42 : ρ (.tmp 42) = .slice a n cap := hl 8 (by decide +kernel) (.inl rfl) 42 rfl
            have e43 : ρ (.tmp 43) = .int .i64 (at' : Int) := hl 9 (by decide +kernel) (.inl rfl) 43 rfl
            refine u_val (v := .slice (behind a at' cap) (n - at') (cap - at')) ?_ rfl
            simp [execOp, go_sem, e42, e43, behind, hat]
          · intro ρ wx hρ hbx hl
            have e41 : (ownsF w.heap.size 9 1 (at' + 1) (scells (l.take at' ++ [key]))).p (ρ (.tmp 41)) wx := hl 7 (by decide +kernel) (.inr rfl) 41 rfl
            have e44 : ρ (.tmp 44) = .slice (behind a at' cap) (n - at') (cap - at') := hl 10 (by decide +kernel) (.inl rfl) 44 rfl
            obtain ⟨v', w', hr, ho, hg, hb, _⟩ := run_append_owns (P := Try.prog) (w := wx) w.heap.size 26 26 26 9 i0 _ 1 16 Try.underlying26 hi hz0 hz1 hz2 rfl _ (at' + 1) _ e41 (.slice (behind a at' cap) (n - at') (cap - at')) (n - at') (scells (l.drop at')) (((HR.out.below' hbx).sdrop at' hat).src Try.underlying26 (scells_one _)) (by unfold maxLen; omega) (by omega) hbx.size
            rw [← scells_append, List.append_assoc, List.singleton_append, show at' + 1 + (n - at') = n + 1 by omega] at ho
            refine u_new ?_ ho hb
            simp only [execOp, resolve, invoke, builtin, Sem.run_bind, Sem.run_pure, Result.andThen_ok, List.map_toArray, List.map_cons, List.map_nil, e44, hr]
          · intro ρ wx hρ hbx hl
            have e45 : (ownsF w.heap.size 9 1 (n + 1) (scells (l.take at' ++ key :: l.drop at'))).p (ρ (.tmp 45)) wx := hl 11 (by decide +kernel) (.inl rfl) 45 rfl
            refine u_val (v := ρ (.tmp 45)) ?_ e45
            simp [execOp, go_sem]
          · intro ρ wx hρ hbx hl
            refine u_val (v := .bool true) ?_ rfl
            simp [execOp, hρ.const, go_sem]
          intro aa wz hdef hsz hlk hbz hf
          have ha := act_of_like hdef hsz hlk [34, 35, 36, 37, 38, 39, 40, 41, 42, 43, 44, 45, 4, 5] 46 rfl (by decide +kernel)
          have e35 : aa.tmps.getD 35 undef = .slice a n cap := hf 1 _ 35 rfl rfl rfl
          have e36 : aa.tmps.getD 36 undef = .int .i64 (at' : Int) := hf 2 _ 36 rfl rfl rfl
          have e37 : aa.tmps.getD 37 undef = .slice a at' cap := hf 3 _ 37 rfl rfl rfl
          have e39 : aa.tmps.getD 39 undef = .string key := hf 5 _ 39 rfl rfl rfl
          have e42 : aa.tmps.getD 42 undef = .slice a n cap := hf 8 _ 42 rfl rfl rfl
          have e43 : aa.tmps.getD 43 undef = .int .i64 (at' : Int) := hf 9 _ 43 rfl rfl rfl
          have e44 : aa.tmps.getD 44 undef = .slice (behind a at' cap) (n - at') (cap - at') := hf 10 _ 44 rfl rfl rfl
          have e45 : (ownsF w.heap.size 9 1 (n + 1) (scells (l.take at' ++ key :: l.drop at'))).p (aa.tmps.getD 45 undef) wz := hf 11 _ 45 rfl rfl rfl
          generalize hv45 : aa.tmps.getD 45 undef = v45 at e45
          have e4 : (ownsF w.heap.size 9 1 (n + 1) (scells (l.take at' ++ key :: l.drop at'))).p (aa.tmps.getD 4 undef) wz := hf 12 _ 4 rfl rfl rfl
          generalize hv4 : aa.tmps.getD 4 undef = v4 at e4
          have e5 : aa.tmps.getD 5 undef = .bool true := hf 13 _ 5 rfl rfl rfl
          simp only [putAll, List.foldl_cons, List.foldl_nil, e35, e36, e37, e39, e42, e43, e44, hv45, hv4, e5] at ha
          generalize aa.tmps.getD 34 undef = v34 at ha
          generalize aa.tmps.getD 38 undef = v38 at ha
          generalize aa.tmps.getD 40 undef = v40 at ha
          generalize aa.tmps.getD 41 undef = v41 at ha
          simp [Act.put] at ha
          subst ha
          clear hdef hsz hlk hf e35 e36 e37 e39 e42 e43 e44 hv45 hv4 e5
          have HB := Lib.hid hbz
          have hlen : (l.take at' ++ key :: l.drop at').length = n + 1 := by
            have := HLL.out
            simp
            omega
          obtain ⟨a9, c9, hv9, _, _⟩ := (ownsRow.reads e4).le
          subst hv9
          have HW := Lib.hid (ownsRow.reads e4)
          clear e45 e4 hbz
          go_wp2
          go_ret2
          unfold PutPost
          rw [HP.out, hlen]
          exact ⟨_, _, _, rfl, HW.out, HB.out⟩
    · have hinI : ¬ ((i : Int) < n) := by omega
      have hnone : l[i]? = none := List.getElem?_eq_none (by rw [HLL.out]; omega)
      have hpa : putAt l key = i := putAt_eq HLt.out (by rw [HLL.out]; omega) (fun x hx => by rw [hnone] at hx; cases hx)
      have hpk : putK l key = l.take i ++ key :: l.drop i := by
        unfold putK
        rw [hpa, hnone, if_neg (by simp)]
      have HP := Lib.hid hpk
      have hat : i ≤ n := hil
      clear hpk HLt hil hpa hnone
      go_wp2_with fail
      obtain ⟨at', rfl⟩ : ∃ at', at' = i := ⟨_, rfl⟩
      refine wp_region_until (by kernel_rfl) [onU (zeroF w.heap.size 9 1) (some 4), eqU (.slice a n cap), eqU (.int .i64 (at' : Int)), eqU (.slice a at' cap), onU (ownsF w.heap.size 9 1 at' (scells (l.take at'))) (some 7), eqU (.string key), onU (litF 9 #[.string key] 1) (some 7), onU (ownsF w.heap.size 9 1 (at' + 1) (scells (l.take at' ++ [key]))) (some 11), eqU (.slice a n cap), eqU (.int .i64 (at' : Int)), eqU (.slice (behind a at' cap) (n - at') (cap - at')), onU (ownsF w.heap.size 9 1 (n + 1) (scells (l.take at' ++ key :: l.drop at'))) none, onU (ownsF w.heap.size 9 1 (n + 1) (scells (l.take at' ++ key :: l.drop at'))) none, eqU (.bool true)] [7, 11] (by kernel_rfl) (by kernel_rfl) (by kernel_rfl) ⟨?_, ?_, ?_, ?_, ?_, ?_, ?_, ?_, ?_, ?_, ?_, ?_, ?_, ?_, trivial⟩ ?_
      · intro ρ wx hρ hbx hl
        refine u_new (v := .slice (some ⟨wx.heap.size, 0, none⟩) 0 0) (w' := wx.alloc (.cells #[] 9)) ?_ ⟨_, rfl, owns_less (owns_zero wx _ 1) hbx.size⟩ ((Below.refl _ _).alloc (Nat.le_refl _) _)
        simp [execOp, go_sem]
      · intro ρ wx hρ hbx hl
        have e0 : ρ (.tmp 0) = .slice a n cap := hρ.tmp 0 (by decide +kernel)
        refine u_val (v := .slice a n cap) ?_ rfl
        simp [execOp, go_sem, e0]
      · intro ρ wx hρ hbx hl
        have e6 : ρ (.tmp 6) = .int .i64 (at' : Int) := hρ.tmp 6 (by decide +kernel)
        refine u_val (v := .int .i64 (at' : Int)) ?_ rfl
        simp [execOp, go_sem, e6]
      · intro ρ wx hρ hbx hl
        have e35 : ρ (.tmp 35) = .slice a n cap := hl 1 (by decide +kernel) (.inl rfl) 35 rfl
        have e36 : ρ (.tmp 36) = .int .i64 (at' : Int) := hl 2 (by decide +kernel) (.inl rfl) 36 rfl
        refine u_val (v := .slice a at' cap) ?_ rfl
        simp [execOp, go_sem, e35, e36]
        first | done | omega
      · intro ρ wx hρ hbx hl
        have e34 : (zeroF w.heap.size 9 1).p (ρ (.tmp 34)) wx := hl 0 (by decide +kernel) (.inr rfl) 34 rfl
        have e37 : ρ (.tmp 37) = .slice a at' cap := hl 3 (by decide +kernel) (.inl rfl) 37 rfl
        obtain ⟨g34, e34, o34⟩ := e34
        rw [e34] at o34
        obtain ⟨v', w', hr, ho, hb⟩ := run_append_zero (P := Try.prog) (w := wx) w.heap.size 26 26 26 9 i0 _ 16 Try.underlying26 hi hz0 hz1 hz2 rfl g34 o34 (.slice a at' cap) at' (scells (l.take at')) (((HR.out.below' hbx).stake at' hat).src Try.underlying26 (scells_one _)) (by unfold maxLen; omega) (by omega) hbx.size
        refine u_new ?_ ho hb
        simp only [execOp, resolve, invoke, builtin, Sem.run_bind, Sem.run_pure, Result.andThen_ok, List.map_toArray, List.map_cons, List.map_nil, e34, e37, hr]
      · intro ρ wx hρ hbx hl
        have e1 : ρ (.tmp 1) = .string key := hρ.tmp 1 (by decide +kernel)
        refine u_val (v := .string key) ?_ rfl
        simp [execOp, go_sem, e1]
      · intro ρ wx hρ hbx hl
        have e39 : ρ (.tmp 39) = .string key := hl 5 (by decide +kernel) (.inl rfl) 39 rfl
        refine u_new (v := .slice (some ⟨wx.heap.size, 0, none⟩) 1 1) (w' := wx.alloc (.cells #[.string key] 9)) ?_ ⟨_, rfl, heap_alloc_new wx _⟩ ((Below.refl _ _).alloc (Nat.le_refl _) _)
        simp [execOp, go_sem, e39]
      · intro ρ wx hρ hbx hl
        have e38 : (ownsF w.heap.size 9 1 at' (scells (l.take at'))).p (ρ (.tmp 38)) wx := hl 4 (by decide +kernel) (.inr rfl) 38 rfl
        have e40 : (litF 9 #[.string key] 1).p (ρ (.tmp 40)) wx := hl 6 (by decide +kernel) (.inr rfl) 40 rfl
        obtain ⟨g40, e40, o40⟩ := e40
        have hrd := lit_reads (cs := [.string key]) (size := 1) o40 rfl (by decide)
        obtain ⟨v', w', hr, ho, hg, hb, _⟩ := run_append_owns (P := Try.prog) (w := wx) w.heap.size 26 26 26 9 i0 _ 1 16 Try.underlying26 hi hz0 hz1 hz2 rfl _ at' _ e38 _ 1 [.string key] (hrd.src Try.underlying26 (by simp [Value.oneCell'])) (by unfold maxLen; omega) (by omega) hbx.size
        rw [show scells (l.take at') ++ [Value.string key] = scells (l.take at' ++ [key]) from (scells_append (l.take at') [key]).symm] at ho
        refine u_new ?_ ho hb
        simp only [execOp, resolve, invoke, builtin, Sem.run_bind, Sem.run_pure, Result.andThen_ok, List.map_toArray, List.map_cons, List.map_nil, e40, hr]
      · intro ρ wx hρ hbx hl
        have e0 : ρ (.tmp 0) = .slice a n cap := hρ.tmp 0 (by decide +kernel)
        refine u_val (v := .slice a n cap) ?_ rfl
        simp [execOp, go_sem, e0]
      · intro ρ wx hρ hbx hl
        have e6 : ρ (.tmp 6) = .int .i64 (at' : Int) := hρ.tmp 6 (by decide +kernel)
        refine u_val (v := .int .i64 (at' : Int)) ?_ rfl
        simp [execOp, go_sem, e6]
      · intro ρ wx hρ hbx hl
        have e42 : ρ (.tmp 42) = .slice a n cap := hl 8 (by decide +kernel) (.inl rfl) 42 rfl
        have e43 : ρ (.tmp 43) = .int .i64 (at' : Int) := hl 9 (by decide +kernel) (.inl rfl) 43 rfl
        refine u_val (v := .slice (behind a at' cap) (n - at') (cap - at')) ?_ rfl
        simp [execOp, go_sem, e42, e43, behind, hat]
      · intro ρ wx hρ hbx hl
        have e41 : (ownsF w.heap.size 9 1 (at' + 1) (scells (l.take at' ++ [key]))).p (ρ (.tmp 41)) wx := hl 7 (by decide +kernel) (.inr rfl) 41 rfl
        have e44 : ρ (.tmp 44) = .slice (behind a at' cap) (n - at') (cap - at') := hl 10 (by decide +kernel) (.inl rfl) 44 rfl
        obtain ⟨v', w', hr, ho, hg, hb, _⟩ := run_append_owns (P := Try.prog) (w := wx) w.heap.size 26 26 26 9 i0 _ 1 16 Try.underlying26 hi hz0 hz1 hz2 rfl _ (at' + 1) _ e41 (.slice (behind a at' cap) (n - at') (cap - at')) (n - at') (scells (l.drop at')) (((HR.out.below' hbx).sdrop at' hat).src Try.underlying26 (scells_one _)) (by unfold maxLen; omega) (by omega) hbx.size
        rw [← scells_append, List.append_assoc, List.singleton_append, show at' + 1 + (n - at') = n + 1 by omega] at ho
        refine u_new ?_ ho hb
        simp only [execOp, resolve, invoke, builtin, Sem.run_bind, Sem.run_pure, Result.andThen_ok, List.map_toArray, List.map_cons, List.map_nil, e44, hr]
      · intro ρ wx hρ hbx hl
        have e45 : (ownsF w.heap.size 9 1 (n + 1) (scells (l.take at' ++ key :: l.drop at'))).p (ρ (.tmp 45)) wx := hl 11 (by decide +kernel) (.inl rfl) 45 rfl
        refine u_val (v := ρ (.tmp 45)) ?_ e45
        simp [execOp, go_sem]
      · intro ρ wx hρ hbx hl
        refine u_val (v := .bool true) ?_ rfl
        simp [execOp, hρ.const, go_sem]
      intro aa wz hdef hsz hlk hbz hf
      have ha := act_of_like hdef hsz hlk [34, 35, 36, 37, 38, 39, 40, 41, 42, 43, 44, 45, 4, 5] 46 rfl (by decide +kernel)
      have e35 : aa.tmps.getD 35 undef = .slice a n cap := hf 1 _ 35 rfl rfl rfl
      have e36 : aa.tmps.getD 36 undef = .int .i64 (at' : Int) := hf 2 _ 36 rfl rfl rfl
      have e37 : aa.tmps.getD 37 undef = .slice a at' cap := hf 3 _ 37 rfl rfl rfl
      have e39 : aa.tmps.getD 39 undef = .string key := hf 5 _ 39 rfl rfl rfl
      have e42 : aa.tmps.getD 42 undef = .slice a n cap := hf 8 _ 42 rfl rfl rfl
      have e43 : aa.tmps.getD 43 undef = .int .i64 (at' : Int) := hf 9 _ 43 rfl rfl rfl
      have e44 : aa.tmps.getD 44 undef = .slice (behind a at' cap) (n - at') (cap - at') := hf 10 _ 44 rfl rfl rfl
      have e45 : (ownsF w.heap.size 9 1 (n + 1) (scells (l.take at' ++ key :: l.drop at'))).p (aa.tmps.getD 45 undef) wz := hf 11 _ 45 rfl rfl rfl
      generalize hv45 : aa.tmps.getD 45 undef = v45 at e45
      have e4 : (ownsF w.heap.size 9 1 (n + 1) (scells (l.take at' ++ key :: l.drop at'))).p (aa.tmps.getD 4 undef) wz := hf 12 _ 4 rfl rfl rfl
      generalize hv4 : aa.tmps.getD 4 undef = v4 at e4
      have e5 : aa.tmps.getD 5 undef = .bool true := hf 13 _ 5 rfl rfl rfl
      simp only [putAll, List.foldl_cons, List.foldl_nil, e35, e36, e37, e39, e42, e43, e44, hv45, hv4, e5] at ha
      generalize aa.tmps.getD 34 undef = v34 at ha
      generalize aa.tmps.getD 38 undef = v38 at ha
      generalize aa.tmps.getD 40 undef = v40 at ha
      generalize aa.tmps.getD 41 undef = v41 at ha
      simp [Act.put] at ha
      subst ha
      clear hdef hsz hlk hf e35 e36 e37 e39 e42 e43 e44 hv45 hv4 e5
      have HB := Lib.hid hbz
      have hlen : (l.take at' ++ key :: l.drop at').length = n + 1 := by
        have := HLL.out
        simp
        omega
      obtain ⟨a9, c9, hv9, _, _⟩ := (ownsRow.reads e4).le
      subst hv9
      have HW := Lib.hid (ownsRow.reads e4)
      clear e45 e4 hbz
      go_wp2
      go_ret2
      unfold PutPost
      rw [HP.out, hlen]
      exact ⟨_, _, _, rfl, HW.out, HB.out⟩
end Go.Proofs.Ytekdcjbjjakhcaa
