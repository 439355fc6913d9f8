/- block.Keys, of any bytes. -/
import Derived.Test.YtcglkdmfbnpniaaBlockSeek
namespace Go.Proofs.Ytcglkdmfbnpniaa
open Go Go.RowKit

def SameB (w : World) (b : Bool) (e : Ending) (w' : World) : Prop := e = .returned (.bool b) ∧ w = w'

set_option maxRecDepth 100000 in
set_option maxHeartbeats 1000000 in
theorem equal_any (w : World) (u v : Value) (x y : List UInt8) (hx : Reads w 1 u x.length (bcells x)) (hy : Reads w 1 v y.length (bcells y)) :
    Calls Try.prog 29 #[u, v] w (SameB w (decide (x = y))) := by
  have h1 := Reads.conv (P := Try.prog) (src := 26) (e := 5) (dst := 9) Try.underlying26 Try.underlying5 Try.underlying9 hx
  have h2 := Reads.conv (P := Try.prog) (src := 26) (e := 5) (dst := 9) Try.underlying26 Try.underlying5 Try.underlying9 hy
  have e1 : (x == y) = decide (x = y) := by by_cases h : x = y <;> simp [h]
  generalize decide (x = y) = q at *
  clear hx hy
  go_enter Try.func29, Try.ntmps29
  go_wp2
  go_ret
  exact ⟨rfl, rfl⟩

def keysB : Nat → List UInt8 → List UInt8 → List ByteArray → Option (List ByteArray)
  | 0, _, _, _ => none
  | f + 1, rest, key, ks =>
    if rest = [] then some ks
    else match stepB rest key with
      | none => none
      | some (r, k, s) => if ks.length % 16 = 0 ∧ 0 < s then none else keysB f r k (ks ++ [⟨k.toArray⟩])

def keysL (data : List UInt8) : Option (List ByteArray) := keysB (data.length + 1) data [] []

def KeysPost (w : World) (l : List UInt8) (e : Ending) (w' : World) : Prop :=
  Below w.heap.size w w' ∧
    ((e = .returned (.tuple #[.slice none 0 0, .int .i64 9]) ∧ ∀ d p ks, partsL l = some (d, p) → keysL d = some ks → ¬ (rises ks ∧ buildL ks = l)) ∨
      ∃ d p ks v, partsL l = some (d, p) ∧ keysL d = some ks ∧ rises ks ∧ buildL ks = l ∧ e = .returned (.tuple #[v, .int .i64 0]) ∧ w'.ownsRow w.heap.size 9 1 v ks.length (scells ks))

theorem apart_types {w : World} {B n s B' n' s' : Nat} {e e' : TypeId} {u v : Value} {xs ys : List Value} (hu : w.ownsRow B e s u n xs) (hv : w.ownsRow B' e' s' v n' ys) (he : e' ≠ e) : ApartV u v := fun g hg hv' => by
  rcases hv.2 with ⟨rfl, _⟩ | ⟨g', cap, cur, rfl, _, hh, _⟩
  · simp [Value.ownBlock] at hv'
  · simp [Value.ownBlock] at hv'
    subst hv'
    exact owns_other hu hh he hg

theorem own_texts {w w' : World} {B n s : Nat} {v : Value} {xs : List Value} (h : w.ownsRow B 9 s v n xs) (k : KeepT w w') : w'.ownsRow B 9 s v n xs := by
  refine ⟨h.1, ?_⟩
  rcases h.2 with h0 | ⟨g, cap, cur, hv, hB, hh, h3⟩
  · exact .inl h0
  · exact .inr ⟨g, cap, cur, hv, hB, k _ _ _ hh, h3⟩

theorem CurAt.grown {B n g sh : Nat} {w w' : World} {rest key : List UInt8} {bad : Bool} {v : Value} {xs : List Value} (h : CurAt B w g rest key sh bad) (ho : w.ownsRow B 9 1 v n xs) (gr : w.grownBy w' v.ownBlock) (b : Below B w w') : CurAt B w' g rest key sh bad := by
  obtain ⟨rv, kv, h1, h2, h3, h4⟩ := h
  exact ⟨rv, kv, grown_other ho gr h1 (by decide), h2.below b, owns_apart h3 gr (apart_types ho h3 (by decide)), h4⟩

theorem rest_at {B g sh : Nat} {w : World} {rest key : List UInt8} {bad : Bool} (h : CurAt B w g rest key sh bad) : restAt g w = rest.length := by
  obtain ⟨rv, kv, h1, h2, _, _⟩ := h
  obtain ⟨a2, c2, rfl, _, _⟩ := h2.reads.le
  unfold restAt
  rw [Lib.cell_of_heap h1 0]
  rfl

def KeysRel (B : Nat) (w1 : World) (g N : Nat) (R : Option (List ByteArray)) (kv : Value) (wr : World) : Prop :=
  ∃ rest key ks sh F, CurAt B wr g rest key sh false ∧ rest.length < F ∧ key.length + rest.length ≤ N ∧ ks.length + rest.length ≤ N ∧ keysB F rest key ks = R ∧ wr.ownsRow B 9 1 kv ks.length (scells ks) ∧ Below B w1 wr

set_option maxRecDepth 100000 in
set_option maxHeartbeats 4000000 in
theorem keys_any (w : World) (v : Value) (l : List UInt8) (h : Sl w.heap.size w v l) (hl : l.length ≤ 50000000)
    (hbd : ∀ d p ks, partsL l = some (d, p) → keysL d = some ks → ks.length ≤ 4000 ∧ ∀ x ∈ ks, x.size ≤ 4000) :
    Calls Try.prog 12 #[v] w (KeysPost w l) := by
  obtain ⟨i0, hi, hz0, hz1, hz2⟩ := info_parts info9
  have HP := Lib.hid (parts_any w.heap.size w v l h (by omega))
  have HSl := Lib.hid h
  have HBd := Lib.hid hbd
  obtain ⟨va, vcap, rfl, _, _⟩ := h.reads.le
  clear h hbd
  go_enter Try.func12, Try.ntmps12
  go_wp2_with (go_at_call 27; go_must (refine HP.out.mono ?_))
  rintro e w1 hp
  obtain ⟨b1, hm⟩ := hp
  have hpl := fun d p => parts_length (l := l) (d := d) (p := p)
  generalize hpr : partsL l = pr at *
  have HPr := Lib.hid hpr
  have HB1 := Lib.hid b1
  clear hpr
  cases pr with
  | none =>
    simp only at hm
    subst hm
    clear b1 hpl HP
    go_wp2
    go_ret2
    refine ⟨HB1.out, .inl ⟨rfl, fun d p ks hh => ?_⟩⟩
    rw [HPr.out] at hh
    cases hh
  | some dp =>
    obtain ⟨data, places⟩ := dp
    simp only at hm
    obtain ⟨da, dcap, pa, pcap, rfl, sd, sp⟩ := hm
    obtain ⟨hd1, _, _⟩ := hpl data places rfl
    have hbd1 : ∀ ks, keysL data = some ks → ks.length ≤ 4000 ∧ ∀ x ∈ ks, x.size ≤ 4000 := fun ks => HBd.out data places ks rfl
    have HBd1 := Lib.hid hbd1
    have hbs := b1.size
    have hcur : CurAt w1.heap.size (w1.alloc (.cells #[.slice da data.length dcap, .slice none 0 0, .int .i64 0, .bool false] 53)) w1.heap.size data [] 0 false :=
      ⟨_, _, heap_alloc_new w1 _, (sd.up hbs).below ((Below.refl _ _).alloc (Nat.le_refl _) _), owns_nil _ _ _ _, Nat.le_refl _⟩
    have HCur := Lib.hid hcur
    have HAl := Lib.hid ((Below.refl w1.heap.size w1).alloc (Nat.le_refl _) (.cells #[.slice da data.length dcap, .slice none 0 0, .int .i64 0, .bool false] 53))
    obtain ⟨R, hR⟩ : ∃ R, keysL data = R := ⟨_, rfl⟩
    have HR := Lib.hid hR
    clear b1 hpl HP sd sp hbd1 HBd hcur hR
    go_wp2_with fail
    generalize w1.alloc (.cells #[.slice da data.length dcap, .slice none 0 0, .int .i64 0, .bool false] 53) = w2 at *
    generalize hg : w1.heap.size = g at *
    have HG := Lib.hid hg
    clear hg
    go_loopw [7] (fun kv wr => KeysRel g w1 g data.length R kv wr) (fun _ wr => restAt g wr)
    case atStart => exact ⟨data, [], [], 0, data.length + 1, HCur.out, by omega, by simp, by simp, HR.out, owns_nil _ _ _ _, HAl.out⟩
    case round =>
      obtain ⟨rest, key, ks, sh, F, hcur, hF, hkN, hsN, hks, hown, hbl⟩ := hrel
      have HN := Lib.hid (next_any g wr g rest key sh false hcur (by omega) (by omega))
      have HRa := Lib.hid (rest_at hcur)
      have HBl := Lib.hid hbl
      have HOw := Lib.hid hown
      have hgw : g ≤ wr.heap.size := by have := HG.out; have := hbl.size; omega
      obtain ⟨ka0, kcap0, rfl, _, _⟩ := (ownsRow.reads hown).le
      obtain ⟨F, rfl⟩ : ∃ f, F = f + 1 := ⟨F - 1, by omega⟩
      have hun : keysB (F + 1) rest key ks = _ := rfl
      conv at hun => rhs; unfold keysB
      rw [hks] at hun
      have HUn := Lib.hid hun
      clear hcur hbl hks hown hun HCur
      go_wp2_with (go_at_call 28; go_must (refine HN.out.mono ?_))
      rintro e w7 hnx
      rcases hnx with ⟨h0, rfl, hc7, hb7⟩ | ⟨h0, h1, rfl, hc7, hb7⟩ | ⟨r2, k2, s2, h0, h1, rfl, hc7, hb7⟩
      · have hRv : R = some ks := by rw [HUn.out, if_pos h0]
        have HRv := Lib.hid hRv
        obtain ⟨rv, kv, hc, _, _, _⟩ := hc7
        have q3 := Lib.cell_of_heap hc 3
        simp at q3
        have hglt : g < w7.heap.size := (Array.getElem?_eq_some_iff.1 hc).1
        have HO7 := Lib.hid (own_texts HOw.out hb7.texts)
        have hbg : Below g w1 w7 := HBl.out.trans hb7.low
        have HB7 := Lib.hid (HB1.out.trans ((show Below w1.heap.size w1 w7 by rw [HG.out]; exact hbg).mono HB1.out.size))
        obtain ⟨hk1, hk2⟩ := HBd1.out ks (by rw [HR.out, hRv])
        have HBu := Lib.hid (build_any w7 _ _ _ ks (ownsRow.reads HO7.out) hk1 hk2)
        have HK2 := Lib.hid hk2
        clear hRv hc hb7 hbg HN HUn HOw HBl hk2
        go_wp2_with (go_at_call 10; go_must (refine HBu.out.mono ?_))
        rintro e w8 hp
        rcases hp with ⟨hup, v8, rfl, o8, b8⟩ | ⟨hno, rfl, b8⟩
        · have HSl8 := (HSl.out.below ((HB7.out.trans (b8.mono HB7.out.size)))).reads
          have HEq := Lib.hid (equal_any w8 _ _ (buildL ks) l (ownsRow.reads o8) HSl8)
          have HB8 := Lib.hid (HB7.out.trans (b8.mono HB7.out.size))
          have HO8 := Lib.hid (owns_less (owns_below HO7.out b8) (show w.heap.size ≤ g by rw [← HG.out]; exact HB1.out.size))
          have HUp := Lib.hid hup
          clear b8 hup o8 HSl8
          by_cases hE : buildL ks = l
          · have HE := Lib.hid hE
            rw [decide_eq_true hE] at HEq
            clear hE
            go_wp2_with (go_at_call 29; go_must (refine HEq.out.mono ?_))
            rintro e w9 ⟨rfl, rfl⟩
            go_wp2
            go_ret2
            exact ⟨HB8.out, .inr ⟨data, places, ks, _, HPr.out, by rw [HR.out, HRv.out], HUp.out, HE.out, rfl, HO8.out⟩⟩
          · have HE := Lib.hid hE
            rw [decide_eq_false hE] at HEq
            clear hE
            go_wp2_with (go_at_call 29; go_must (refine HEq.out.mono ?_))
            rintro e w9 ⟨rfl, rfl⟩
            go_wp2
            go_ret2
            refine ⟨HB8.out, .inl ⟨rfl, fun d p ks' hh hk h' => ?_⟩⟩
            rw [HPr.out] at hh
            cases hh
            rw [HR.out, HRv.out] at hk
            cases hk
            exact HE.out h'.2
        · have HB8 := Lib.hid (HB7.out.trans (b8.mono HB7.out.size))
          have HNo := Lib.hid hno
          clear b8 hno
          go_wp2
          go_ret2
          refine ⟨HB8.out, .inl ⟨rfl, fun d p ks' hh hk h' => ?_⟩⟩
          rw [HPr.out] at hh
          cases hh
          rw [HR.out, HRv.out] at hk
          cases hk
          exact HNo.out h'.1
      · have hRv : R = none := by rw [HUn.out, if_neg h0, h1]
        have HRv := Lib.hid hRv
        obtain ⟨_, _, _, rv, kv, hc, _, _, _⟩ := hc7
        have q3 := Lib.cell_of_heap hc 3
        simp at q3
        have hglt : g < w7.heap.size := (Array.getElem?_eq_some_iff.1 hc).1
        have hbg : Below g w1 w7 := HBl.out.trans hb7.low
        have HB7 := Lib.hid (HB1.out.trans ((show Below w1.heap.size w1 w7 by rw [HG.out]; exact hbg).mono HB1.out.size))
        clear hRv hc hb7 hbg HN HUn HOw HBl h1
        go_wp2
        go_ret2
        refine ⟨HB7.out, .inl ⟨rfl, fun d p ks' hh hk h' => ?_⟩⟩
        rw [HPr.out] at hh
        cases hh
        rw [HR.out, HRv.out] at hk
        cases hk
      · have hless := stepB_less h1 h0
        have hRv : R = if ks.length % 16 = 0 ∧ 0 < s2 then none else keysB F r2 k2 (ks ++ [⟨k2.toArray⟩]) := by rw [HUn.out, if_neg h0, h1]
        have HRv := Lib.hid hRv
        have HC7 := Lib.hid hc7
        obtain ⟨rv, kv, hc, _, hkk, _⟩ := hc7
        obtain ⟨ka, kcap2, rfl, _, _⟩ := (ownsRow.reads hkk).le
        have q1 := Lib.cell_of_heap hc 1
        have q2 := Lib.cell_of_heap hc 2
        simp at q1 q2
        have hglt : g < w7.heap.size := (Array.getElem?_eq_some_iff.1 hc).1
        have HO7 := Lib.hid (own_texts HOw.out hb7.texts)
        have HBl7 := Lib.hid (HBl.out.trans hb7.low)
        have hcv := Reads.conv (P := Try.prog) (w := w7) (src := 26) (e := 5) (dst := 9) Try.underlying26 Try.underlying5 Try.underlying9 (ownsRow.reads hkk)
        have hkb : ks.length ≤ 50000000 := by omega
        clear hRv hc hb7 HN HUn HOw HBl h1 hkk
        by_cases hm : ks.length % 16 = 0
        · have hmI : (((ks.length : Nat) : Int) % 16 == 0) = true := by simp; omega
          by_cases hs2 : 0 < s2
          · have hsI : (0 : Int) < (s2 : Int) := by omega
            have HRv2 : Hid (R = none) := Lib.hid (by rw [HRv.out, if_pos ⟨hm, hs2⟩])
            have HB7 := Lib.hid (HB1.out.trans ((show Below w1.heap.size w1 w7 by rw [HG.out]; exact HBl7.out).mono HB1.out.size))
            clear HRv hm hs2 hcv
            go_wp2
            go_ret2
            refine ⟨HB7.out, .inl ⟨rfl, fun d p ks' hh hk h' => ?_⟩⟩
            rw [HPr.out] at hh
            cases hh
            rw [HR.out, HRv2.out] at hk
            cases hk
          · have hsI : ¬ (0 : Int) < (s2 : Int) := by omega
            have HRv2 : Hid (R = keysB F r2 k2 (ks ++ [⟨k2.toArray⟩])) := Lib.hid (by rw [HRv.out, if_neg (fun h => hs2 h.2)])
            clear HRv hm hs2
            go_wp2_with (at_builtin; go_must (refine wpList_append_owns_lits (w0 := w7) rfl _ _ 22 rfl g 9 i0 (.string ⟨#[]⟩) 16 Try.underlying22 hi hz0 hz1 hz2 rfl [.string ⟨k2.toArray⟩] 1 rfl HO7.out rfl rfl (fun u hu => by simp at hu; subst hu; rfl) ?_ ?_ (Nat.le_of_lt hglt) ?_))
            · unfold maxLen; omega
            · omega
            intro v9 w9 o9 g9 b9 _
            have hcur9 := HC7.out.grown HO7.out g9 b9
            have hra9 := rest_at hcur9
            have HCur9 := Lib.hid hcur9
            have HRa9 := Lib.hid hra9
            have o9' : w9.ownsRow g 9 1 v9 (ks ++ [(⟨k2.toArray⟩ : ByteArray)]).length (scells (ks ++ [⟨k2.toArray⟩])) := by
              rw [scells_append, List.length_append]
              exact o9
            have HO9 := Lib.hid o9'
            have HB9 := Lib.hid (HBl7.out.trans b9)
            clear o9 o9' g9 b9 hcur9 hra9 hcv q1 q2 HC7 HO7 HBl7
            go_wp2
            exact ⟨⟨r2, k2, _, s2, F, HCur9.out, by omega, by omega, by simp; omega, HRv2.out.symm, HO9.out, HB9.out⟩, by rw [HRa9.out, HRa.out]; exact hless.1⟩
        · have hmI : (((ks.length : Nat) : Int) % 16 == 0) = false := by simp; omega
          have HRv2 : Hid (R = keysB F r2 k2 (ks ++ [⟨k2.toArray⟩])) := Lib.hid (by rw [HRv.out, if_neg (fun h => hm h.1)])
          clear HRv hm
          go_wp2_with (at_builtin; go_must (refine wpList_append_owns_lits (w0 := w7) rfl _ _ 22 rfl g 9 i0 (.string ⟨#[]⟩) 16 Try.underlying22 hi hz0 hz1 hz2 rfl [.string ⟨k2.toArray⟩] 1 rfl HO7.out rfl rfl (fun u hu => by simp at hu; subst hu; rfl) ?_ ?_ (Nat.le_of_lt hglt) ?_))
          · unfold maxLen; omega
          · omega
          intro v9 w9 o9 g9 b9 _
          have hcur9 := HC7.out.grown HO7.out g9 b9
          have hra9 := rest_at hcur9
          have HCur9 := Lib.hid hcur9
          have HRa9 := Lib.hid hra9
          have o9' : w9.ownsRow g 9 1 v9 (ks ++ [(⟨k2.toArray⟩ : ByteArray)]).length (scells (ks ++ [⟨k2.toArray⟩])) := by
            rw [scells_append, List.length_append]
            exact o9
          have HO9 := Lib.hid o9'
          have HB9 := Lib.hid (HBl7.out.trans b9)
          clear o9 o9' g9 b9 hcur9 hra9 hcv q1 q2 HC7 HO7 HBl7
          go_wp2
          exact ⟨⟨r2, k2, _, s2, F, HCur9.out, by omega, by omega, by simp; omega, HRv2.out.symm, HO9.out, HB9.out⟩, by rw [HRa9.out, HRa.out]; exact hless.1⟩
end Go.Proofs.Ytcglkdmfbnpniaa
