/- What calls make of a disk's state, for the laws. -/
import Derived.Test.YtbhapbioibhalaaDiskCrash
namespace Go.Proofs.Ytbhapbioibhalaa
open Go Go.RowKit Go.Maps

/-- The state of a disk, but for where its parts lie. -/
structure St (T : Dk) (d s : Dir) (a : List DAct) (r : Nat) (z : Int) (b : Bool) (c : Nat) : Prop where
  dir : T.dir = d
  safe : T.safe = s
  acts : T.acts = a
  room : T.room = r
  fuse : T.fuse = z
  down : T.down = b
  gs : T.gs.length ≤ c

def dec (z : Int) : Int := if 0 < z then z - 1 else z

variable {S T : Dk} {d s : Dir} {a : List DAct} {r c : Nat} {z : Int} {b : Bool}

theorem St.burnE (h : St S d s a r z b c) : S.burnE = if z = 0 then 6 else 0 := by unfold Dk.burnE; rw [h.fuse]
theorem St.burnE0 (h : St S d s a r z b c) (hz : z ≠ 0) : S.burnE = 0 := by rw [h.burnE, if_neg hz]
theorem St.burnE6 (h : St S d s a r 0 b c) : S.burnE = 6 := by rw [h.burnE, if_pos rfl]
theorem St.burn (h : St S d s a r z b c) (hz : z ≠ 0) : St S.burn d s a r (dec z) b c ∧ S.burn.fl = S.fl := by
  obtain ⟨h1, h2, h3, h4, h5, h6, h7⟩ := h
  unfold Dk.burn dec
  rw [h5, if_neg hz]
  split
  · exact ⟨⟨h1, h2, h3, h4, rfl, h6, h7⟩, rfl⟩
  · exact ⟨⟨h1, h2, h3, h4, h5, h6, h7⟩, rfl⟩
theorem St.burn0 (h : St S d s a r 0 b c) : St S.burn d s a r 0 true c ∧ S.burn.fl = S.fl := by
  obtain ⟨h1, h2, h3, h4, h5, h6, h7⟩ := h
  unfold Dk.burn
  rw [if_pos h5]
  exact ⟨⟨h1, h2, h3, h4, h5, rfl, h7⟩, rfl⟩

theorem readyE1 {n : ByteArray} (hn : nameOk n = true) : readyE false [n] = 0 := by unfold readyE; simp [hn]

theorem St.create (h : St S d s a r z false c) (hz : z ≠ 0) {n : ByteArray} (hn : nameOk n = true) (hf : fileOf d n = none) (hl : d.length < 4096) : createE S n = 0 := by
  unfold createE
  rw [h.down, readyE1 hn, if_neg (by simp), h.dir, hf, if_neg (by simp), if_neg (by omega), h.burnE0 hz]
theorem St.created (h : St S d s a r z false c) (hz : z ≠ 0) {n : ByteArray} (hn : nameOk n = true) (hf : fileOf d n = none) (hl : d.length < 4096) {W : World} (hc : CreateS W S n T) :
    ∃ g, W.heap.size ≤ g ∧ St T (putD d n g) s (a ++ [.add n g]) r (dec z) false (c + 1) ∧ T.fl = updF S.fl g ⟨[], 0⟩ := by
  have h0 := h.create hz hn hf hl
  rcases hc with ⟨_, h1⟩ | ⟨_, _, h2, g, hg, hT⟩
  · exact absurd h0 h1
  · have ha : St (S.addF g) d s a r z false (c + 1) := ⟨h.dir, h.safe, h.acts, h.room, h.fuse, h.down, by have := h.gs; show (g :: S.gs).length ≤ c + 1; simp; exact this⟩
    rcases hT with ⟨h3, _⟩ | ⟨_, v', rfl⟩
    · exact absurd (ha.burnE0 hz) h3
    · obtain ⟨hb, hfl⟩ := ha.burn hz
      exact ⟨g, hg, ⟨by show putD (S.addF g).dir n g = _; rw [ha.dir], hb.safe, by show (S.addF g).acts ++ _ = _; rw [ha.acts], hb.room, hb.fuse, hb.down, hb.gs⟩, hfl⟩

theorem St.find (h : St S d s a r z false c) {n : ByteArray} (hn : nameOk n = true) : findR S n = match fileOf d n with
    | some g => (some g, 0)
    | none => (none, 4) := by
  unfold findR
  rw [h.down, readyE1 hn, if_neg (by simp), h.dir]
  rfl
theorem St.found (h : St S d s a r z false c) {n : ByteArray} (hn : nameOk n = true) {g : Nat} (hf : fileOf d n = some g) : findR S n = (some g, 0) := by rw [h.find hn, hf]

/-- A call that turns a file. -/
theorem St.filed (h : St S d s a r z false c) {n : ByteArray} (hn : nameOk n = true) {g : Nat} (hf : fileOf d n = some g) {e : Int} {f : Fl → Fl} (hs : FileS S n e f T) :
    (e ≠ 0 ∧ e ≠ 6 → T = S) ∧ (e = 0 → z ≠ 0 → St T d s a r (dec z) false c ∧ T.fl = updF S.fl g (f (S.fl g))) ∧ (e = 6 → z = 0 → St T d s a r 0 true c ∧ T.fl = S.fl) := by
  have hfd := h.found hn hf
  refine ⟨fun he => ?_, fun he hz => ?_, fun he hz => ?_⟩
  · rcases hs with ⟨h1, _⟩ | ⟨_, _, h2, _⟩
    · exact h1
    · rcases burnE_ways S with k | k <;> rw [k] at h2
      · exact absurd h2 he.1
      · exact absurd h2 he.2
  · rcases hs with ⟨_, h1, _⟩ | ⟨g', hg', h2, hT⟩
    · exact absurd he h1
    · rw [hfd] at hg'
      cases hg'
      rcases hT with ⟨h3, _⟩ | ⟨_, v, rfl⟩
      · exact absurd (h.burnE0 hz) h3
      · obtain ⟨hb, hfl⟩ := h.burn hz
        exact ⟨⟨hb.dir, hb.safe, hb.acts, hb.room, hb.fuse, hb.down, hb.gs⟩, rfl⟩
  · subst hz
    rcases hs with ⟨_, _, h1⟩ | ⟨g', hg', h2, hT⟩
    · rw [hfd, he] at h1
      rcases h1 with h1 | h1 <;> cases h1
    · rcases hT with ⟨_, rfl⟩ | ⟨h3, _⟩
      · exact h.burn0
      · rw [h.burnE6] at h3
        cases h3

/-- A call on a disk that is down. -/
theorem St.findDown (h : St S d s a r z true c) (n : ByteArray) : findR S n = (none, 6) := by
  unfold findR
  have h1 : readyE S.down [n] = 6 := by rw [h.down]; rfl
  rw [h1]
  rfl
theorem St.filedDown (h : St S d s a r z true c) {n : ByteArray} {e : Int} {f : Fl → Fl} (hs : FileS S n e f T) : T = S := by
  rcases hs with ⟨h1, _⟩ | ⟨g', hg', _⟩
  · exact h1
  · rw [h.findDown] at hg'
    cases hg'
theorem St.appendDown (h : St S d s a r z true c) (n : ByteArray) (k : Nat) : Go.Proofs.Ytbhapbioibhalaa.appendE S n k = 6 := by
  unfold Go.Proofs.Ytbhapbioibhalaa.appendE
  rw [h.findDown]
  rfl
theorem St.usedDown (h : St S d s a r z true c) : usedE S = 0 := by unfold usedE; rw [h.down]; rfl
theorem St.listDown (h : St S d s a r z true c) : listL S = [] := by unfold listL; rw [h.down]; rfl

theorem St.used (h : St S d s a r z false c) : usedE S = sumD S.fl d := by unfold usedE; rw [h.down, h.dir]; rfl
theorem St.appendE (h : St S d s a r z false c) {n : ByteArray} (hn : nameOk n = true) {g : Nat} (hf : fileOf d n = some g) (k : Nat) : appendE S n k = if r < sumD S.fl d + k then 5 else if z = 0 then 6 else 0 := by
  unfold Go.Proofs.Ytbhapbioibhalaa.appendE
  rw [h.found hn hf, if_neg (by simp), h.used, h.room, h.burnE]

theorem St.synced (h : St S d s a r z false c) (hz : z ≠ 0) (hs : SyncDirS S T) : syncdirE S = 0 ∧ St T d d [] r (dec z) false c ∧ T.fl = S.fl := by
  refine ⟨by unfold syncdirE; rw [h.down]; exact h.burnE0 hz, ?_⟩
  rcases hs with ⟨_, h1⟩ | ⟨_, h1, _⟩ | ⟨_, _, rfl⟩
  · rw [h.down] at h1
    cases h1
  · exact absurd (h.burnE0 hz) h1
  · obtain ⟨hb, hfl⟩ := h.burn hz
    exact ⟨⟨hb.dir, hb.dir, rfl, hb.room, hb.fuse, hb.down, hb.gs⟩, hfl⟩

theorem St.crashed (h : St S d s a r z b c) {keep : List UInt8} (hs : CrashS S keep T) : St T (runA s (a.take (nextE keep a.length))) (runA s (a.take (nextE keep a.length))) [] r (-1) false c ∧ T.fl = cutAll S.fl (runA s (a.take (nextE keep a.length))) keep.tail := by
  obtain ⟨mf', sl', rfl⟩ := hs
  have hd : crashD S keep = runA s (a.take (nextE keep a.length)) := by unfold crashD; rw [h.safe, h.acts]
  exact ⟨⟨hd, hd, rfl, h.room, rfl, rfl, h.gs⟩, by show cutAll S.fl (crashD S keep) keep.tail = _; rw [hd]⟩

theorem St.removed (h : St S d s a r z false c) (hz : z ≠ 0) {n : ByteArray} (hn : nameOk n = true) {g : Nat} (hf : fileOf d n = some g) (hs : ActS S n (.rm n) (removeE S n) T) : removeE S n = 0 ∧ St T (delD d n) s (a ++ [.rm n]) r (dec z) false c ∧ T.fl = S.fl := by
  have h0 : removeE S n = 0 := by unfold removeE; rw [h.found hn hf, if_neg (by simp), h.burnE0 hz]
  refine ⟨h0, ?_⟩
  rcases hs with ⟨_, h1⟩ | ⟨_, _, _, hT⟩
  · exact absurd h0 h1
  · rcases hT with ⟨h3, _⟩ | ⟨_, v', rfl⟩
    · exact absurd (h.burnE0 hz) h3
    · obtain ⟨hb, hfl⟩ := h.burn hz
      exact ⟨⟨by show delD S.dir n = _; rw [h.dir], hb.safe, by show S.acts ++ _ = _; rw [h.acts], hb.room, hb.fuse, hb.down, hb.gs⟩, hfl⟩

theorem St.fused (h : St S d s a r z b c) (n : Int) : St { S with fuse := n } d s a r n b c := ⟨h.dir, h.safe, h.acts, h.room, rfl, h.down, h.gs⟩
theorem st_new (B r : Nat) : St (dk0 B r) [] [] [] r (-1) false 0 := ⟨rfl, rfl, rfl, rfl, rfl, rfl, Nat.le_refl _⟩

def aB : ByteArray := ⟨#[97]⟩
def bB : ByteArray := ⟨#[98]⟩
theorem aB_ok : nameOk aB = true := by decide
theorem bB_ok : nameOk bB = true := by decide
end Go.Proofs.Ytbhapbioibhalaa
