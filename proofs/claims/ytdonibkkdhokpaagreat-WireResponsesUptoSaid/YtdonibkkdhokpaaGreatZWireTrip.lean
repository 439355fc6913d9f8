/- What a request is written as tells it. -/
import Derived.Test.YtdonibkkdhokpaaGreatZWireGet
import Derived.Test.YtdonibkkdhokpaaGreatZWirePut
namespace Go.Proofs.YtdonibkkdhokpaaGreat
open Go Go.RowKit

structure ReqSm (q : Req) : Prop where
  client : Sm q.client
  token : Sm q.token
  typ : Sm q.typ
  f1 : Sm q.f1
  f2 : Sm q.f2
  f3 : Sm q.f3
  writes : q.writes.length < 18446744073709551616 ∧ ∀ x ∈ q.writes, x.t.Sm
  pres : q.pres.length < 18446744073709551616 ∧ ∀ x ∈ q.pres, x.t.Sm
  asks : q.asks.length < 18446744073709551616 ∧ ∀ x ∈ q.asks, x.Sm
  args : q.args.length < 18446744073709551616 ∧ ∀ x ∈ q.args, x.Sm

theorem getReq_reqB (q : Req) (hi : ReqIn q) (hs : ReqSm q) : getReq ((reqB q).drop 2) false = (q, [], false) := by
  have e : (reqB q).drop 2 = txt q.client ++ (enc q.id ++ (enc (zig q.kind) ++ (enc (zig q.how) ++ (txt q.token ++ (enc q.n ++ (txt q.typ ++ (txt q.f1 ++ (txt q.f2 ++ (txt q.f3 ++ (listB wriB q.writes ++ (listB wriB q.pres ++ (listB t6B q.asks ++ (listB argB q.args ++ []))))))))))))) := by
    simp [reqB, txts]
  rw [e]
  unfold getReq
  simp only [rtxt_txt hs.client, rtxt_txt hs.token, rtxt_txt hs.typ, rtxt_txt hs.f1, rtxt_txt hs.f2, rtxt_txt hs.f3, rnum_enc hi.id, rnum_enc hi.n, rlong_zig hi.ints.1, rlong_zig hi.ints.2,
    rlist_B q.writes hs.writes.1 (fun x hx r => rwri_B (hs.writes.2 x hx) r), rlist_B q.pres hs.pres.1 (fun x hx r => rpre_B (hs.pres.2 x hx) r), rlist_B q.asks hs.asks.1 (fun x hx r => rask_t6 (hs.asks.2 x hx) r), rlist_B q.args hs.args.1 (fun x hx r => rarg_B (hs.args.2 x hx) r)]

theorem readReq_reqB (q : Req) (hi : ReqIn q) (hs : ReqSm q) : readReq (reqB q) = some q := by
  have h2 : starts2 [113, 49] (reqB q) = true := by
    unfold starts2 reqB
    simp
  have h3 : startL (reqB q) = (reqB q).drop 2 := by
    unfold startL
    rw [if_pos h2]
  unfold readReq
  rw [h3, h2, show (!true) = false from rfl, getReq_reqB q hi hs]
  simp
end Go.Proofs.YtdonibkkdhokpaaGreat
