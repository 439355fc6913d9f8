/- Requests as bytes. -/
import Derived.Test.YtopnldebekhelaaDoorMga
namespace Go.Proofs.YtopnldebekhelaaDoor
open Go Go.RowKit

/-- Six texts: a tuple, or a point and a subject. -/
structure T6 where
  a : ByteArray
  b : ByteArray
  c : ByteArray
  d : ByteArray
  e : ByteArray
  f : ByteArray

def T6.list (t : T6) : List ByteArray := [t.a, t.b, t.c, t.d, t.e, t.f]
def T6.val (t : T6) : Value := .agg #[.string t.a, .string t.b, .string t.c, .string t.d, .string t.e, .string t.f]

/-- A truth, and a tuple. -/
structure Wri where
  is : Bool
  t : T6

def Wri.val (x : Wri) : Value := .agg #[.bool x.is, .string x.t.a, .string x.t.b, .string x.t.c, .string x.t.d, .string x.t.e, .string x.t.f]

structure Arg4 where
  name : ByteArray
  kind : Int
  n : Int
  s : ByteArray

def Arg4.val (x : Arg4) : Value := .agg #[.string x.name, .int .i64 x.kind, .int .i64 x.n, .string x.s]

def in64 (n : Int) : Prop := -9223372036854775808 ≤ n ∧ n ≤ 9223372036854775807

/-- A whole number's place: what is below 0 stands between those that aren't. -/
def zig (n : Int) : Nat := if n < 0 then (2 * (-(n + 1)) + 1).toNat else (2 * n).toNat

theorem zig_lt {n : Int} (h : in64 n) : zig n < 18446744073709551616 := by
  unfold in64 at h
  unfold zig
  split <;> omega

def unzig (v : Nat) : Int := if v % 2 = 0 then ((v / 2 : Nat) : Int) else -((v / 2 : Nat) : Int) - 1

theorem unzig_zig {n : Int} (h : in64 n) : unzig (zig n) = n := by
  unfold in64 at h
  unfold unzig zig
  split
  · rw [if_neg (by omega)]
    omega
  · rw [if_pos (by omega)]
    omega

theorem unzig_in (v : Nat) (h : v < 18446744073709551616) : in64 (unzig v) := by
  unfold in64 unzig
  split <;> omega

theorem zig_unzig (v : Nat) (h : v < 18446744073709551616) : zig (unzig v) = v := by
  unfold zig unzig
  split
  · rw [if_neg (by omega)]
    omega
  · rw [if_pos (by omega)]
    omega

def txt (s : ByteArray) : List UInt8 := enc s.size ++ s.data.toList
def txts (l : List ByteArray) : List UInt8 := l.flatMap txt
def bitN (b : Bool) : Nat := if b then 1 else 0
def t6B (t : T6) : List UInt8 := txts t.list
def wriB (x : Wri) : List UInt8 := enc (bitN x.is) ++ t6B x.t
def argB (x : Arg4) : List UInt8 := txt x.name ++ enc (zig x.kind) ++ enc (zig x.n) ++ txt x.s
def listB {α : Type} (f : α → List UInt8) (l : List α) : List UInt8 := enc l.length ++ l.flatMap f

structure Req where
  client : ByteArray
  id : Nat
  kind : Int
  how : Int
  token : ByteArray
  n : Nat
  typ : ByteArray
  f1 : ByteArray
  f2 : ByteArray
  f3 : ByteArray
  writes : List Wri
  pres : List Wri
  asks : List T6
  args : List Arg4

def reqB (q : Req) : List UInt8 :=
  [113, 49] ++ txt q.client ++ enc q.id ++ enc (zig q.kind) ++ enc (zig q.how) ++ txt q.token ++ enc q.n ++ txts [q.typ, q.f1, q.f2, q.f3] ++
    listB wriB q.writes ++ listB wriB q.pres ++ listB t6B q.asks ++ listB argB q.args

theorem txt_len {s : ByteArray} (h : s.size ≤ 1000000000) : (txt s).length ≤ s.size + 10 := by
  have h1 := enc_length_le 9 s.size (by omega)
  have h2 : s.data.toList.length = s.size := Array.length_toList
  unfold txt
  rw [List.length_append]
  omega

theorem bit_enc (b : Bool) : enc (bitN b) = [if b then 1 else 0] := by
  cases b
  · rw [show bitN false = 0 from rfl, enc_lt (by decide)]
    rfl
  · rw [show bitN true = 1 from rfl, enc_lt (by decide)]
    rfl
end Go.Proofs.YtopnldebekhelaaDoor
