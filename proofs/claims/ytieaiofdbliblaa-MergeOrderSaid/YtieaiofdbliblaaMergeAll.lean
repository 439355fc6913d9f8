/- merge.All. -/
import Derived.Test.YtieaiofdbliblaaMergeNew
import Derived.Test.YtieaiofdbliblaaStrPuts
namespace Go.Proofs.Ytieaiofdbliblaa
open Go Go.RowKit

variable {G : Nat → Prop}

/-- All keys of the rows, in order, each once. -/
def keys17 (ls : List Row) : List ByteArray := ls.flatten.foldl putK []

theorem keys17_ok (ls : List Row) : rises (keys17 ls) ∧ (∀ x, x ∈ keys17 ls ↔ x ∈ ls.flatten) ∧ (keys17 ls).length ≤ ls.flatten.length := by
  obtain ⟨h1, h2, h3⟩ := putsAll_ok ls.flatten [] rises_nil
  exact ⟨h1, fun x => by unfold keys17; rw [h2]; simp, by simpa [keys17] using h3⟩

theorem some17_flat (ls : List Row) (x : ByteArray) : x ∈ (some17 ls).flatten ↔ x ∈ ls.flatten := by
  rw [List.mem_flatten, List.mem_flatten]
  constructor
  · rintro ⟨l, hl, hx⟩
    exact ⟨l, (List.mem_filter.1 hl).1, hx⟩
  · rintro ⟨l, hl, hx⟩
    refine ⟨l, List.mem_filter.2 ⟨hl, ?_⟩, hx⟩
    cases l with
    | nil => cases hx
    | cons a t => rfl

/-- What is told next of what is left. -/
theorem next_of {rs : List Row} {D : List ByteArray} (hm : MI rs) (hD : rises D) (h : ∀ x, x ∈ rs.flatten ↔ x ∈ D) :
    (rs = [] ∧ D = []) ∨ (0 < rs.length ∧ ∃ t, D = hd rs 0 :: t ∧ ∀ rs', Told17 rs rs' (hd rs 0) → ∀ x, x ∈ rs'.flatten ↔ x ∈ t) := by
  cases hl : rs.length with
  | zero =>
    have hr : rs = [] := List.length_eq_zero_iff.1 hl
    left
    refine ⟨hr, ?_⟩
    cases D with
    | nil => rfl
    | cons d t =>
      have := (h d).2 (by simp)
      rw [hr] at this
      cases this
  | succ n =>
    right
    refine ⟨by omega, ?_⟩
    obtain ⟨t0, ht0⟩ := hm.head_mem (by omega)
    have hk : hd rs 0 ∈ rs.flatten := List.mem_flatten.2 ⟨_, List.mem_of_getElem? ht0, by simp⟩
    cases D with
    | nil => have := (h _).1 hk; cases this
    | cons d t =>
      have hp := List.pairwise_cons.1 hD
      have hde : d = hd rs 0 := by
        have h1 := hm.root ((h d).2 (by simp))
        rcases List.mem_cons.1 ((h _).1 hk) with h2 | h2
        · exact h2.symm
        · have := hp.1 _ h2
          rw [h1] at this
          cases this
      subst hde
      refine ⟨t, rfl, fun rs' ht x => ?_⟩
      rw [ht.keep x, h x, List.mem_cons]
      constructor
      · rintro ⟨h1 | h1, h2⟩
        · exact absurd h1 h2
        · exact h1
      · intro h1
        exact ⟨.inr h1, fun e => by
          have := hp.1 x h1
          rw [e, bl_irrefl] at this
          cases this⟩

def tell17 : Option ByteArray → Value × Value
  | none => (.string ⟨#[]⟩, .bool false)
  | some x => (.string x, .bool true)

def len17 : Value → Nat
  | .slice _ n _ => n
  | _ => 0

def All17Rel (w : World) (K : List ByteArray) (B C m : Nat) (av kv ov : Value) (wr : World) : Prop :=
  ∃ (i : Nat) (rs : List Row) (hv : Value) (svs : List Value), i ≤ K.length ∧ kv = (tell17 K[i]?).1 ∧ ov = (tell17 K[i]?).2 ∧ wr.ownsRow C 9 1 av i (scells (K.take i)) ∧ MS (fun g => g < C) wr B m hv svs rs ∧ MI rs ∧ (∀ x, x ∈ rs.flatten ↔ x ∈ K.drop (i + 1)) ∧ Below B w wr ∧ rs.length ≤ 10000 ∧ C ≤ wr.heap.size ∧ B ≤ C

theorem owns_lower17 {w : World} {B C n s : Nat} {e : TypeId} {v : Value} {xs : List Value} (h : w.ownsRow B e s v n xs) (hc : C ≤ B) : w.ownsRow C e s v n xs := by
  refine ⟨h.1, ?_⟩
  rcases h.2 with h0 | ⟨g, cap, cur, hv, hB, h3⟩
  · exact .inl h0
  · exact .inr ⟨g, cap, cur, hv, by omega, h3⟩

theorem own_mf {B C n s : Nat} {w w' : World} {v : Value} {xs : List Value} (h : w.ownsRow C 9 s v n xs) (m : MF B w w') : w'.ownsRow C 9 s v n xs := by
  refine ⟨h.1, ?_⟩
  rcases h.2 with h0 | ⟨g, cap, cur, hv, hB, hg, h3⟩
  · exact .inl h0
  · exact .inr ⟨g, cap, cur, hv, hB, m.other g cur _ _ hg (by decide) (by decide), h3⟩

theorem MS.low {w : World} {B m : Nat} {hv : Value} {svs : List Value} {rs : List Row} (h : MS noG w B m hv svs rs) : MS (fun g => g < w.heap.size) w B m hv svs rs :=
  ⟨h.cell, h.base, h.own, ⟨h.rows.1, fun i v l hv hl => by
    obtain ⟨a, cap, rfl, hr, ho⟩ := h.rows.2 i v l hv hl
    exact ⟨a, cap, rfl, hr, fun g hg => by
      obtain ⟨_, cs, fz, hh⟩ := ho g hg
      exact ⟨(Array.getElem?_eq_some_iff.1 hh).1, cs, fz, hh⟩⟩⟩, h.full, h.few⟩

theorem StrAt.low {w w' : World} {C : Nat} {v : Value} {l : Row} (h : StrAt (fun g => g < C) w v l) (hb : Below C w w') : StrAt (fun g => g < C) w' v l := by
  obtain ⟨a, cap, rfl, hr, ho⟩ := h
  refine ⟨a, cap, rfl, ?_, fun g hg => ?_⟩
  · obtain ⟨hl, a', cap', hv, h1, h2, h3⟩ := hr
    cases hv
    refine ⟨hl, a, cap, rfl, h1, h2, fun j u hj => ?_⟩
    obtain ⟨b, off, rfl, hlt, hc⟩ := h3 j u hj
    obtain ⟨hlow, _⟩ := ho b rfl
    exact ⟨b, off, rfl, Nat.lt_of_lt_of_le hlt hb.size, (hb.cell (p := ⟨b, off + j, none⟩) hlow).trans hc⟩
  · obtain ⟨hlow, cs, fz, hh⟩ := ho g hg
    exact ⟨hlow, cs, fz, (hb.block g hlow).trans hh⟩

theorem owns_two17 {w : World} {B C n m s t : Nat} {e f : TypeId} {v u : Value} {xs ys : List Value} (h : w.ownsRow B e s v n xs) (k : w.ownsRow C f t u m ys) (hef : f ≠ e) : u.ownBlock = none ∨ u.ownBlock ≠ v.ownBlock := by
  rcases k.2 with ⟨rfl, _⟩ | ⟨g, cap, cur, rfl, _, hg, _⟩
  · left; rfl
  · right
    intro hh
    exact owns_other h hg hef hh.symm

/-- An append to a row of texts above C leaves a merger whose rows lie below. -/
theorem own_str_ms {w w6 : World} {B C m : Nat} {hv : Value} {svs : List Value} {rs : List Row} {v : Value} {n s : Nat} {xs : List Value} (h : MS (fun g => g < C) w B m hv svs rs) (ho : w.ownsRow C 9 s v n xs) (g : w.grownBy w6 v.ownBlock) (hb : Below C w w6) : MS (fun g => g < C) w6 B m hv svs rs :=
  ⟨grown_other ho g h.cell (by decide), h.base, h.own.kept g (owns_two17 ho h.own (by decide)), ⟨h.rows.1, fun i u l hu hl => (h.rows.2 i u l hu hl).low hb⟩, h.full, h.few⟩

def All17Post (w : World) (ls : List Row) (e : Ending) (w' : World) : Prop :=
  ((∀ l ∈ ls, rises l) ∧ ∃ v, e = .returned (.tuple #[v, .int .i64 0]) ∧ w'.ownsRow w.heap.size 9 1 v (keys17 ls).length (scells (keys17 ls)) ∧ Below w.heap.size w w') ∨
  ((¬ ∀ l ∈ ls, rises l) ∧ e = .returned (.tuple #[.slice none 0 0, .int .i64 11]) ∧ Below w.heap.size w w')

/-- What Next leaves, seen from the keys. -/
theorem next_keys {w w' : World} {B m : Nat} {rs : List Row} {K : List ByteArray} {i : Nat} {e : Ending} {hv : Value} {svs : List Value} (h : NextPost G w B m rs e w') (hms : MS G w B m hv svs rs) (hm : MI rs) (hK : rises K) (hD : ∀ x, x ∈ rs.flatten ↔ x ∈ K.drop i) (hf : rs.length ≤ 10000) :
    e = .returned (.tuple #[(tell17 K[i]?).1, (tell17 K[i]?).2]) ∧ MF B w w' ∧ ∃ rs' hv' svs', MS G w' B m hv' svs' rs' ∧ MI rs' ∧ (∀ x, x ∈ rs'.flatten ↔ x ∈ K.drop (i + 1)) ∧ rs'.length ≤ 10000 := by
  have hdr : rises (K.drop i) := List.Pairwise.sublist (List.drop_sublist ..) hK
  rcases next_of hm hdr hD with ⟨hr, hd0⟩ | ⟨hpos, t, hd0, hto⟩
  · have hki : K[i]? = none := by
      rw [List.drop_eq_nil_iff] at hd0
      exact List.getElem?_eq_none hd0
    rcases h with ⟨_, he, rfl⟩ | ⟨hp, _⟩
    · refine ⟨by rw [he, hki]; rfl, MF.refl _ _, rs, hv, svs, hms, hm, fun x => ?_, hf⟩
      rw [hD x, List.drop_eq_nil_iff.2 (show K.length ≤ i + 1 by rw [List.drop_eq_nil_iff] at hd0; omega), hd0]
    · rw [hr] at hp
      simp at hp
  · have hi : i < K.length := by
      have : (K.drop i).length = (hd rs 0 :: t).length := by rw [hd0]
      simp at this
      omega
    rw [List.drop_eq_getElem_cons hi] at hd0
    injection hd0 with hk ht
    rcases h with ⟨hr, _⟩ | ⟨_, he, rs', hv', svs', htold, hms', mf⟩
    · rw [hr] at hpos
      simp at hpos
    · refine ⟨?_, mf, rs', hv', svs', hms', htold.mi, fun x => by rw [ht]; exact hto rs' htold x, Nat.le_trans htold.less hf⟩
      rw [he, List.getElem?_eq_getElem hi, hk]
      rfl

set_option maxRecDepth 100000 in
set_option maxHeartbeats 4000000 in
theorem all17_any (w : World) (v : Value) (n : Nat) (ls : List Row) (h : RRows w v n ls) (hn : n ≤ 1000) (hsm : ∀ l ∈ ls, l.length ≤ 1000000) (hk : (keys17 ls).length ≤ 100000) :
    Calls Try.prog 10 #[v] w (All17Post w ls) := by
  obtain ⟨i0, hi, hz0, hz1, hz2⟩ := info_parts info9
  have hll : ls.length = n := by obtain ⟨_, _, _, _, _, h, _⟩ := h; exact h
  have HN := Lib.hid (new17_any w v n ls h hn hsm)
  obtain ⟨ku, km, _⟩ := keys17_ok ls
  have HKu := Lib.hid ku
  have HKm := Lib.hid km
  clear h hsm ku km
  obtain ⟨K, hKe⟩ : ∃ K, keys17 ls = K := ⟨_, rfl⟩
  rw [hKe] at hk HKu HKm
  have HKe := Lib.hid hKe
  clear hKe
  go_enter Try.func10, Try.ntmps10
  go_wp2_with (go_at_call 13; go_must (refine HN.out.mono ?_))
  rintro e w1 hp
  rcases hp with ⟨hup, m, hv, svs, rs, rfl, hms, hmi, hperm, hb⟩ | ⟨hno, rfl, hb⟩
  · have hrl : rs.length ≤ 10000 := by
      have h1 := hperm.length_eq
      have h2 : (some17 ls).length ≤ ls.length := List.length_filter_le _ _
      omega
    have hD : ∀ x, x ∈ rs.flatten ↔ x ∈ K.drop 0 := fun x => by
      rw [hperm.flatten.mem_iff, some17_flat, List.drop_zero, HKm.out x]
    have HNx := Lib.hid (next_any w1 w.heap.size m hv svs rs hms.low hmi hrl)
    have HMs := Lib.hid hms.low
    have HMi := Lib.hid hmi
    have HDd := Lib.hid hD
    have HB := Lib.hid hb
    have HUp := Lib.hid hup
    clear hms hmi hD hb hperm hup HN
    go_wp2_with (go_at_call 15; go_must (refine HNx.out.mono ?_))
    rintro e w2 hp
    obtain ⟨rfl, mf, rs', hv', svs', hms', hmi', hD', hl'⟩ := next_keys hp HMs.out HMi.out HKu.out HDd.out hrl
    have HR := Lib.hid (show All17Rel w K w.heap.size w1.heap.size m (.slice none 0 0) (tell17 K[0]?).1 (tell17 K[0]?).2 w2 from ⟨0, rs', hv', svs', Nat.zero_le _, rfl, rfl, owns_nil _ _ _ _, hms', hmi', hD', HB.out.trans mf.below, hl', mf.below.size, HB.out.size⟩)
    clear hp mf hms' hmi' hD' hl' HNx HMs HMi HDd HB
    go_wp2
    go_loopw [6, 7, 8] (fun av kv ov wr => All17Rel w K w.heap.size w1.heap.size m av kv ov wr) (fun av _ _ _ => K.length - len17 av)
    case atStart => exact HR.out
    case round =>
      clear HR
      obtain ⟨i, rs2, hv2, svs2, hik, rfl, rfl, hown, hms2, hmi2, hD2, hb2, hl2, hC, hBC⟩ := hrel
      obtain ⟨oa, ocap, rfl, ho1, ho2⟩ := (ownsRow.reads hown).le
      unfold maxLen at ho2
      have HO := Lib.hid hown
      have HM2 := Lib.hid hms2
      have HI2 := Lib.hid hmi2
      have HD2 := Lib.hid hD2
      have HB2 := Lib.hid hb2
      clear hown hms2 hmi2 hD2 hb2
      cases hx : K[i]? with
      | none =>
        have hie : i = K.length := by have := List.getElem?_eq_none_iff.1 hx; omega
        have HF := Lib.hid (show wr.ownsRow w.heap.size 9 1 (.slice oa i ocap) K.length (scells K) by
          refine owns_lower17 ?_ hBC
          have := HO.out
          rw [List.take_of_length_le (by omega)] at this
          rw [← hie]
          exact this)
        have htx : tell17 (none : Option ByteArray) = (.string ⟨#[]⟩, .bool false) := rfl
        rw [htx]
        clear hx hie htx
        dsimp only
        go_wp2
        refine bodyPost_ret (v := .tuple #[.slice oa i ocap, .int .i64 0]) (by simp [results, Try.results10, go_sem]) rfl ?_
        exact .inl ⟨HUp.out, _, rfl, by rw [HKe.out]; exact HF.out, HB2.out⟩
      | some x =>
        have hil := (List.getElem?_eq_some_iff.1 hx).1
        have HTk := Lib.hid (show scells (K.take i) ++ [.string x] = scells (K.take (i + 1)) by
          rw [List.take_add_one, hx]
          simp [scells])
        have htx : tell17 (some x) = (.string x, .bool true) := rfl
        rw [htx]
        clear hx htx
        dsimp only
        go_wp2_with (at_builtin; go_must (refine wpList_append_rows_at (w0 := wr) rfl _ _ 26 rfl w1.heap.size 9 i0 _ 1 16 Try.underlying26 hi hz0 hz1 hz2 rfl [.string x] 1 rfl rfl HO.out rfl rfl ?_ ?_ ?_ hC ?_))
        · intro u hu; simp at hu; subst hu; rfl
        · unfold maxLen; omega
        · omega
        intro v6 w6 o6 g6 b6 _
        have hms6 : MS (fun g => g < w1.heap.size) w6 w.heap.size m hv2 svs2 rs2 := own_str_ms HM2.out HO.out g6 b6
        have HNx := Lib.hid (next_any w6 w.heap.size m hv2 svs2 rs2 hms6 HI2.out hl2)
        have HM6 := Lib.hid hms6
        have HO6 := Lib.hid o6
        have HB6 := Lib.hid (HB2.out.trans (b6.mono hBC))
        have HC6 := Lib.hid (Nat.le_trans hC b6.size)
        obtain ⟨na, ncap, rfl, _, _⟩ := (ownsRow.reads o6).le
        clear hms6 o6 g6 b6
        go_wp2_with (go_at_call 15; go_must (refine HNx.out.mono ?_))
        rintro e w7 hp
        obtain ⟨rfl, mf, rs', hv', svs', hms', hmi', hD', hl'⟩ := next_keys hp HM6.out HI2.out HKu.out HD2.out hl2
        have HR := Lib.hid (show All17Rel w K w.heap.size w1.heap.size m (.slice na (i + 1) ncap) (tell17 K[i + 1]?).1 (tell17 K[i + 1]?).2 w7 from ⟨i + 1, rs', hv', svs', by omega, rfl, rfl, by rw [← HTk.out]; exact own_mf HO6.out mf, hms', hmi', hD', HB6.out.trans mf.below, hl', Nat.le_trans HC6.out mf.below.size, hBC⟩)
        clear hp mf hms' hmi' hD' hl' HNx HM6 HO6 HB6
        go_wp2
        exact ⟨HR.out, by simp [len17]; omega⟩
  · have HB := Lib.hid hb
    clear hb HN
    go_wp2
    refine bodyPost_ret (v := .tuple #[.slice none 0 0, .int .i64 11]) (by simp [results, Try.results10, go_sem]) rfl ?_
    exact .inr ⟨hno, rfl, HB.out⟩
end Go.Proofs.Ytieaiofdbliblaa
