import PyProof.Rows.All
import Wide.All
import OpenK.AllK
import Wide.FinOn
import HandS.ForMost
import HandS.Wide
import HandS.IsInst
import HandS.Conv
import HandS.Zip
import HandS.Deep
import HandS.Star
import HandS.SetKeys
import HandS.More
import HandS.SetFor
import HandS.TupAny
import HandS.Walk
import HandS.Exc
import HandS.ExcOwn
import HandS.ExcIs
import HandS.ExcValue
import HandS.WordsExc
import PyProof.NeKinds
import PyProof.NeData
import KE.KEqDict
import HandS.Strs
import PyProof.SliceList
import HandS.TupMul
import PySem.Challenge.RW_clearyard_k37_states_known
set_option Elab.async false
set_option maxRecDepth 100000
set_option maxHeartbeats 4000000
namespace My
open PySem L2
def top (i : Nat) : Stmt := PySem.Challenge.pw_clearyard_k37_states_known.main.body.getD i (.Pass ⟨0, 0, 0, 0⟩)
abbrev s_is_number : Stmt := top 8
abbrev N_is_number : List Str := ["thing"]
theorem sc_is_number : FnScope N_is_number ["thing"] (defScope s_is_number) := ⟨rfl, rfl, rfl, by decide +kernel, rfl, by decide +kernel, by decide +kernel⟩
abbrev s_is_count : Stmt := top 9
abbrev N_is_count : List Str := ["thing"]
theorem sc_is_count : FnScope N_is_count ["thing"] (defScope s_is_count) := ⟨rfl, rfl, rfl, by decide +kernel, rfl, by decide +kernel, by decide +kernel⟩
abbrev s_is_amount : Stmt := top 10
abbrev N_is_amount : List Str := ["thing"]
theorem sc_is_amount : FnScope N_is_amount ["thing"] (defScope s_is_amount) := ⟨rfl, rfl, rfl, by decide +kernel, rfl, by decide +kernel, by decide +kernel⟩
abbrev s_is_whole : Stmt := top 11
abbrev N_is_whole : List Str := ["thing"]
theorem sc_is_whole : FnScope N_is_whole ["thing"] (defScope s_is_whole) := ⟨rfl, rfl, rfl, by decide +kernel, rfl, by decide +kernel, by decide +kernel⟩
abbrev s_is_time : Stmt := top 12
abbrev N_is_time : List Str := ["thing"]
theorem sc_is_time : FnScope N_is_time ["thing"] (defScope s_is_time) := ⟨rfl, rfl, rfl, by decide +kernel, rfl, by decide +kernel, by decide +kernel⟩
abbrev s_is_digest : Stmt := top 13
abbrev N_is_digest : List Str := ["thing"]
theorem sc_is_digest : FnScope N_is_digest ["thing"] (defScope s_is_digest) := ⟨rfl, rfl, rfl, by decide +kernel, rfl, by decide +kernel, by decide +kernel⟩
abbrev s_is_party : Stmt := top 17
abbrev N_is_party : List Str := ["thing"]
theorem sc_is_party : FnScope N_is_party ["thing"] (defScope s_is_party) := ⟨rfl, rfl, rfl, by decide +kernel, rfl, by decide +kernel, by decide +kernel⟩
abbrev s_is_promise : Stmt := top 18
abbrev N_is_promise : List Str := ["thing", "mark", "by", "amount", "lock", "until"]
theorem sc_is_promise : FnScope N_is_promise ["thing"] (defScope s_is_promise) := ⟨rfl, rfl, rfl, by decide +kernel, rfl, by decide +kernel, by decide +kernel⟩
abbrev s_is_state : Stmt := top 19
abbrev N_is_state : List Str := ["thing", "word", "pool", "turn", "x", "y", "promises", "has"]
theorem sc_is_state : FnScope N_is_state ["thing"] (defScope s_is_state) := ⟨rfl, rfl, rfl, by decide +kernel, rfl, by decide +kernel, by decide +kernel⟩
abbrev s__are_promises : Stmt := top 20
abbrev N__are_promises : List Str := ["thing", "marks", "promise"]
theorem sc__are_promises : FnScope N__are_promises ["thing"] (defScope s__are_promises) := ⟨rfl, rfl, rfl, by decide +kernel, rfl, by decide +kernel, by decide +kernel⟩
abbrev s_worth : Stmt := top 21
abbrev N_worth : List Str := ["state", "promise"]
theorem sc_worth : FnScope N_worth ["state"] (defScope s_worth) := ⟨rfl, rfl, rfl, by decide +kernel, rfl, by decide +kernel, by decide +kernel⟩
abbrev s__look_at : Stmt := top 22
abbrev N__look_at : List Str := ["state"]
theorem sc__look_at : FnScope N__look_at ["state"] (defScope s__look_at) := ⟨rfl, rfl, rfl, by decide +kernel, rfl, by decide +kernel, by decide +kernel⟩
abbrev s__law_begin : Stmt := top 24
abbrev N__law_begin : List Str := ["script", "cells", "cell"]
theorem sc__law_begin : FnScope N__law_begin ["script"] (defScope s__law_begin) := ⟨rfl, rfl, rfl, by decide +kernel, rfl, by decide +kernel, by decide +kernel⟩
abbrev s__law_take : Stmt := top 25
abbrev N__law_take : List Str := ["draw", "size", "cells", "at", "cell"]
theorem sc__law_take : FnScope N__law_take ["draw", "size"] (defScope s__law_take) := ⟨rfl, rfl, rfl, by decide +kernel, rfl, by decide +kernel, by decide +kernel⟩
abbrev s__law_pick : Stmt := top 26
abbrev N__law_pick : List Str := ["draw", "some"]
theorem sc__law_pick : FnScope N__law_pick ["draw", "some"] (defScope s__law_pick) := ⟨rfl, rfl, rfl, by decide +kernel, rfl, by decide +kernel, by decide +kernel⟩
abbrev s__law_promises : Stmt := top 28
abbrev N__law_promises : List Str := ["draw", "most", "found", "last", "k", "held", "bolt"]
theorem sc__law_promises : FnScope N__law_promises ["draw", "most"] (defScope s__law_promises) := ⟨rfl, rfl, rfl, by decide +kernel, rfl, by decide +kernel, by decide +kernel⟩
abbrev s__law_state : Stmt := top 29
abbrev N__law_state : List Str := ["draw", "sums", "first", "k"]
theorem sc__law_state : FnScope N__law_state ["draw"] (defScope s__law_state) := ⟨rfl, rfl, rfl, by decide +kernel, rfl, by decide +kernel, by decide +kernel⟩
abbrev s__law_is : Stmt := top 30
abbrev N__law_is : List Str := ["thing", "low", "high"]
theorem sc__law_is : FnScope N__law_is ["thing", "low", "high"] (defScope s__law_is) := ⟨rfl, rfl, rfl, by decide +kernel, rfl, by decide +kernel, by decide +kernel⟩
abbrev s__law_is_promise : Stmt := top 31
abbrev N__law_is_promise : List Str := ["thing", "mark", "side", "held", "bolt", "due"]
theorem sc__law_is_promise : FnScope N__law_is_promise ["thing"] (defScope s__law_is_promise) := ⟨rfl, rfl, rfl, by decide +kernel, rfl, by decide +kernel, by decide +kernel⟩
abbrev s__law_is_state : Stmt := top 32
abbrev N__law_is_state : List Str := ["thing", "marks", "one"]
theorem sc__law_is_state : FnScope N__law_is_state ["thing"] (defScope s__law_is_state) := ⟨rfl, rfl, rfl, by decide +kernel, rfl, by decide +kernel, by decide +kernel⟩
abbrev s__law_odd_promise : Stmt := top 33
abbrev N__law_odd_promise : List Str := ["draw", "promise", "at", "odd", "some"]
theorem sc__law_odd_promise : FnScope N__law_odd_promise ["draw", "promise"] (defScope s__law_odd_promise) := ⟨rfl, rfl, rfl, by decide +kernel, rfl, by decide +kernel, by decide +kernel⟩
abbrev s__law_odd : Stmt := top 34
abbrev N__law_odd : List Str := ["draw", "state", "way", "promises", "at", "odd", "more", "some", "five", "k"]
theorem sc__law_odd : FnScope N__law_odd ["draw", "state"] (defScope s__law_odd) := ⟨rfl, rfl, rfl, by decide +kernel, rfl, by decide +kernel, by decide +kernel⟩
abbrev s__law_told : Stmt := top 35
abbrev N__law_told : List Str := ["thing", "error", "found", "e", "good"]
theorem sc__law_told : FnScope N__law_told ["thing"] (defScope s__law_told) := ⟨rfl, rfl, rfl, by decide +kernel, rfl, by decide +kernel, by decide +kernel⟩
abbrev s_law : Stmt := top 36
abbrev N_law : List Str := ["script", "draw", "turn", "state", "thing", "good", "found", "due", "k", "promise"]
theorem sc_law : FnScope N_law ["script"] (defScope s_law) := ⟨rfl, rfl, rfl, by decide +kernel, rfl, by decide +kernel, by decide +kernel⟩
/-- a def of the text as the top has left it -/
structure DefAt (K : PySem.W.Frag) (mg : Str → Option Value) (x : Str) (st : Stmt) (ps : List Str) (f : Addr) (fd : FuncData) : Prop where
  F : Fun K x x st f fd
  m : mg x = some (.ref f)
  b : Binds K fd ps []
def Pr (P : Program) (w : World) (K : PySem.W.Frag) (mg : Str → Option Value) (base : Heap) (x : Str) (st : Stmt) (ps : List Str) (k : Nat) (sp : Sp) : Prop :=
  ∃ (f : Addr) (fd : FuncData), DefAt K mg x st ps f fd ∧ FnOk P w K mg base CX0 k f fd ps sp
structure Txt (K : PySem.W.Frag) (mg : Str → Option Value) : Prop where
  d_is_number : ∃ f fd, DefAt K mg "is_number" s_is_number ["thing"] f fd
  d_is_count : ∃ f fd, DefAt K mg "is_count" s_is_count ["thing"] f fd
  d_is_amount : ∃ f fd, DefAt K mg "is_amount" s_is_amount ["thing"] f fd
  d_is_whole : ∃ f fd, DefAt K mg "is_whole" s_is_whole ["thing"] f fd
  d_is_time : ∃ f fd, DefAt K mg "is_time" s_is_time ["thing"] f fd
  d_is_digest : ∃ f fd, DefAt K mg "is_digest" s_is_digest ["thing"] f fd
  d_is_party : ∃ f fd, DefAt K mg "is_party" s_is_party ["thing"] f fd
  d_is_promise : ∃ f fd, DefAt K mg "is_promise" s_is_promise ["thing"] f fd
  d_is_state : ∃ f fd, DefAt K mg "is_state" s_is_state ["thing"] f fd
  d__are_promises : ∃ f fd, DefAt K mg "_are_promises" s__are_promises ["thing"] f fd
  d_worth : ∃ f fd, DefAt K mg "worth" s_worth ["state"] f fd
  d__look_at : ∃ f fd, DefAt K mg "_look_at" s__look_at ["state"] f fd
  d__law_begin : ∃ f fd, DefAt K mg "_law_begin" s__law_begin ["script"] f fd
  d__law_take : ∃ f fd, DefAt K mg "_law_take" s__law_take ["draw", "size"] f fd
  d__law_pick : ∃ f fd, DefAt K mg "_law_pick" s__law_pick ["draw", "some"] f fd
  d__law_promises : ∃ f fd, DefAt K mg "_law_promises" s__law_promises ["draw", "most"] f fd
  d__law_state : ∃ f fd, DefAt K mg "_law_state" s__law_state ["draw"] f fd
  d__law_is : ∃ f fd, DefAt K mg "_law_is" s__law_is ["thing", "low", "high"] f fd
  d__law_is_promise : ∃ f fd, DefAt K mg "_law_is_promise" s__law_is_promise ["thing"] f fd
  d__law_is_state : ∃ f fd, DefAt K mg "_law_is_state" s__law_is_state ["thing"] f fd
  d__law_odd_promise : ∃ f fd, DefAt K mg "_law_odd_promise" s__law_odd_promise ["draw", "promise"] f fd
  d__law_odd : ∃ f fd, DefAt K mg "_law_odd" s__law_odd ["draw", "state"] f fd
  d__law_told : ∃ f fd, DefAt K mg "_law_told" s__law_told ["thing"] f fd
  d_law : ∃ f fd, DefAt K mg "law" s_law ["script"] f fd
  z_abs : mg "abs" = none
  z_range : mg "range" = none
  z_max : mg "max" = none
  z_len : mg "len" = none
  z_tuple : mg "tuple" = none
  z_min : mg "min" = none
  z_isinstance : mg "isinstance" = none
  z_str : mg "str" = none
  z_int : mg "int" = none
  z_bool : mg "bool" = none
  z_sorted : mg "sorted" = none
  z_set : mg "set" = none
  z_all : mg "all" = none
  z_list : mg "list" = none
  z_sum : mg "sum" = none
  g_MOST_PROMISES : ∃ t, mg "MOST_PROMISES" = some (Value.int 4 t)
  g_MOST : ∃ t, mg "MOST" = some (Value.int 1000000000 t)
  g_MOST_DIGEST : ∃ t, mg "MOST_DIGEST" = some (Value.int 1000000000000000000000000000000 t)
  g_MOST_OF_ONE : ∃ t, mg "MOST_OF_ONE" = some (Value.int 10000000000 t)
end My
set_option Elab.async false
set_option maxRecDepth 100000
set_option maxHeartbeats 4000000
namespace My
open PySem L2
/-! the heap -/
/-- all that stands stays, but for what stands at one of ds -/
def Keep (ds : List Addr) (H H' : Hp) : Prop := ∀ b o, H b = some o → b ∉ ds → H' b = some o
theorem Keep.refl {ds H} : Keep ds H H := fun _ _ h _ => h
theorem Keep.trans {ds H H1 H2} (a : Keep ds H H1) (b : Keep ds H1 H2) : Keep ds H H2 := fun x o h n => b x o (a x o h n) n
theorem Keep.mono {ds es H H1} (a : Keep ds H H1) (s : ∀ x ∈ ds, x ∈ es) : Keep es H H1 := fun x o h n => a x o h fun q => n (s x q)
theorem Keep.upd_new {ds H p o} (h : H p = none) : Keep ds H (upd H p o) := fun b u e _ => by rw [upd_ne (ne_of_none e h)]; exact e
theorem Keep.upd_in {ds : List Addr} {H p o} (h : p ∈ ds) : Keep ds H (upd H p o) := fun b u e n => by
  rw [upd_ne (fun q => n (by rw [q]; exact h))]; exact e
theorem Keep.of_same {ds H H1} (h : Same H H1) : Keep ds H H1 := fun b o e _ => h b o e
theorem Keep.same {H H1} (h : Keep [] H H1) : Same H H1 := fun b o e => h b o e (by simp)

theorem mod_small {a b : Int} (h0 : 0 < b) (h1 : b < 2 ^ 64) : -(2 ^ 64) < a % b ∧ a % b < 2 ^ 64 := by
  have e1 := Int.emod_nonneg a (show b ≠ 0 by omega)
  have e2 := Int.emod_lt_of_pos a h0
  omega
/-! the rules that name the written part, for a comprehension's block -/
section
variable {X : Cx} {K : PySem.W.Frag}
theorem op_notIn_seqK (e : X.K = K) : OpR X (compareOp .NotIn) (rIn K true) := e ▸ op_notIn_seq
theorem op_in_seqK (e : X.K = K) : OpR X (compareOp .In) (rIn K false) := e ▸ op_in_seq
theorem ix_listK (e : X.K = K) : IxR X (rIxL K) := e ▸ ix_list
theorem ix_tupK (e : X.K = K) : IxR X (rIxT K) := e ▸ ix_tup
theorem ix_seqK (e : X.K = K) : IxR X (rIx K) := e ▸ ix_seq
theorem call_isiK2 (e : X.K = K) : CallR X (.builtin "isinstance") (rIsi K) := e ▸ call_isi
end
/-! dicts by texts -/
theorem valV_hd {k : Str} {v : V} {r : List (Key × V)} : valV ((Sum.inr k, v) :: r) (Sum.inr k) = some v := by
  unfold valV; simp
theorem valV_tl {k j : Str} {v : V} {r : List (Key × V)} (h : ¬ j = k) : valV ((Sum.inr j, v) :: r) (Sum.inr k : Key) = valV r (Sum.inr k) := by
  unfold valV
  rw [List.find?_cons_of_neg]
  simpa using h

theorem DGetS {H : Hp} {a : Addr} {kvs : List (Key × V)} {k : Str} {v : V} (e : H a = some (.dK kvs)) (h : valV kvs (Sum.inr k) = some v) : DGet H a (.str k) (some v) := h ▸ DGet.k (k := Sum.inr k) e
theorem DPutS {H : Hp} {a : Addr} {kvs : List (Key × V)} {k : Str} {v : V} (e : H a = some (.dK kvs)) (hl : kvs.length < sizeLine) : DPut H a (.str k) v (upd H a (.dK (putK kvs (Sum.inr k) v))) := DPut.k (k := Sum.inr k) e hl
theorem atI_of {α : Type} {xs : List α} {i : Int} (h0 : 0 ≤ i) (h1 : i < xs.length) : ∃ v, xs[i.toNat]? = some v ∧ atI xs i = some v := by
  have h : i.toNat < xs.length := by omega
  refine ⟨xs[i.toNat], List.getElem?_eq_getElem h, ?_⟩
  have e : ((i.toNat : Nat) : Int) = i := by omega
  have := atI_nat (xs := xs) (j := i.toNat) (List.getElem?_eq_getElem h)
  rwa [e] at this
theorem atI_int {ns : List Int} {i : Int} (h0 : 0 ≤ i) (h1 : i < ns.length) : ∃ z, atI (ns.map V.int) i = some (.int z) := by
  obtain ⟨v, e, h⟩ := atI_of (xs := ns.map V.int) h0 (by rw [List.length_map]; exact h1)
  rw [List.getElem?_map] at e
  cases q : ns[i.toNat]? with
  | none => rw [q] at e; cases e
  | some z => rw [q] at e; cases e; exact ⟨z, h⟩
theorem ixN_of {n : Nat} {k : Int} (h0 : 0 ≤ k) (h1 : k < n) : ixN n k = some k.toNat := by
  unfold ixN
  rw [if_pos h0, if_pos h1]
/-- the state of the draws stands at d, its numbers at c -/
def DrawAt (H : Hp) (d c : Addr) : Prop := ∃ (ns : List Int) (i m : Int), H d = some (.lst [.ref c, .int i, .int m]) ∧ H c = some (.lst (ns.map V.int)) ∧ 0 < ns.length ∧ ns.length ≤ 63 ∧ -(2 ^ 64) < m ∧ m < 2 ^ 64 ∧ c ≠ d
theorem DrawAt.keep {H H' d c} {ds : List Addr} (D : DrawAt H d c) (k : Keep ds H H') (hd : d ∉ ds := by first | exact List.not_mem_nil | simp_all) (hc : c ∉ ds := by first | exact List.not_mem_nil | simp_all) : DrawAt H' d c := by
  obtain ⟨ns, a, b, h1, h2, h3⟩ := D
  exact ⟨ns, a, b, k _ _ h1 hd, k _ _ h2 hc, h3⟩
theorem DrawAt.new {H d c} {p : Addr} (D : DrawAt H d c) (h : H p = none) : d ≠ p ∧ c ≠ p := by
  obtain ⟨ns, a, b, h1, h2, h3⟩ := D
  exact ⟨ne_of_none h1 h, ne_of_none h2 h⟩
section
variable {P : Program} {w : World} {K : PySem.W.Frag} {mg : Str → Option Value} {base : Heap}
def sp_take : Sp := fun vs H Q _ => ∃ d c n, vs = [.ref d, .int n] ∧ DrawAt H d c ∧ 0 < n ∧ n < 2 ^ 128 ∧ ∀ r H', 0 ≤ r → r < n → DrawAt H' d c → Keep [d, c] H H' → Q (.int r) H'
theorem p__law_take (T : Txt K mg) : Pr P w K mg base "_law_take" s__law_take ["draw", "size"] 1 sp_take := by
  obtain ⟨f, fd, D⟩ := T.d__law_take
  refine ⟨f, fd, D, D.F.ok sc__law_take (fun vs H Q E h => ?_) (fun cdv A outer s H vs Q E hr h => ?_)⟩
  · obtain ⟨d, c, n, rfl, _⟩ := h; rfl
  · obtain ⟨d, c, n, rfl, ⟨ns, i, m, h1, h2, l0, l1, m0, m1, ncd⟩, n0, n1, q⟩ := h
    have hu := hu_of hr
    have hsl : sizeLine = 16777216 := sizeLine_eq
    refine ⟨_, (pss_cons (ps_set (i := 2) sc__law_take.nd rfl (Or.inl rfl) (pe_ix ix_list (pv 0) pe_int (fun _ _ => rfl)))
      (pss_cons (ps_set (i := 3) sc__law_take.nd rfl (Or.inl rfl) (pe_op op_mod (pe_ix ix_list (pv 0) pe_int (fun _ _ => rfl)) (pe_callB call_len_seq (by rfl) T.z_len (by decide +kernel) (pa_cons (pv 2) pa_nil))))
      (pss_cons (ps_set (i := 4) sc__law_take.nd rfl (Or.inl rfl) (pe_ix ix_list (pv 2) (pv 3) (fun _ _ => rfl)))
      (pss_cons (ps_if (pt_cmpR op_ge (pv 4) (pe_op op_pow pe_int pe_int) (nomark _)) (pss_cons (ps_asg (pe_op op_fdivW (pv 4) (pv 1)) (pg_sub (pv 2) (pv 3) set_list))
      (pss_one (ps_ret (pe_op op_mod (pv 4) (pv 1))))) pss_nil)
      (pss_cons (ps_asg (pe_op op_add (pe_ix ix_list (pv 0) pe_int (fun _ _ => rfl)) pe_int) (pg_sub (pv 0) pe_int set_list))
      (pss_cons (ps_asg (pe_op op_mod (pe_op op_add (pe_op op_add (pe_op op_mul (pe_ix ix_list (pv 0) pe_int (fun _ _ => rfl)) pe_int) (pv 4)) pe_int) pe_int) (pg_sub (pv 0) pe_int set_list))
      (pss_one (ps_ret (pe_op op_mod (pe_op op_fdivW (pe_op op_mod (pe_op op_mul (pe_ix ix_list (pv 0) pe_int (fun _ _ => rfl)) (pe_ix ix_list (pv 0) pe_int (fun _ _ => rfl))) pe_int) pe_int) (pv 1)))))))))), ?_⟩
    refine ⟨_, rfl, d, _, 0, V.ref c, rfl, rfl, SqL.of h1, rfl, ?_⟩
    refine ⟨_, rfl, d, _, 1, V.int i, rfl, rfl, SqL.of h1, rfl, ?_⟩
    have lp : (0 : Int) < ((ns.map V.int).length : Nat) := by rw [List.length_map]; omega
    refine ⟨_, rfl, c, _, rfl, .inl (SqL.of h2), _, _, rfl, rfl, lp, ?_⟩
    have a0 := Int.emod_nonneg i (show ((ns.map V.int).length : Nat) ≠ (0 : Int) by omega)
    have a1 := Int.emod_lt_of_pos i lp
    have a2 : i % (((ns.map V.int).length : Nat) : Int) < ns.length := by rw [List.length_map] at a1 ⊢; exact a1
    obtain ⟨z, hz⟩ := atI_int (ns := ns) a0 a2
    refine ⟨_, rfl, _, rfl, c, _, _, .int z, rfl, rfl, SqL.of h2, hz, ?_⟩
    refine ⟨_, rfl, _, _, rfl, rfl, ⟨by decide, by decide, by decide⟩, _, _, rfl, rfl, _, rfl, ?_⟩
    refine ite2 (fun _ => ?_) (fun _ => ?_)
    · refine ⟨_, rfl, _, rfl, _, _, rfl, rfl, wide_div (b := 128) n0 (by omega) (by decide) (by decide), ?_⟩
      refine ⟨_, rfl, _, rfl, c, _, _, _, rfl, rfl, h2, ixN_of a0 a1, ?_⟩
      have e : (ns.map V.int).set (i % (((ns.map V.int).length : Nat) : Int)).toNat (V.int (z / n)) = (ns.set (i % (((ns.map V.int).length : Nat) : Int)).toNat (z / n)).map V.int := List.map_set.symm
      rw [show ((fun i j : Int => V.int (i / j)) z n) = V.int (z / n) from rfl, e]
      refine ⟨_, rfl, _, rfl, _, _, rfl, rfl, n0, q _ _ (Int.emod_nonneg _ (by omega)) (Int.emod_lt_of_pos _ n0) ⟨_, i, m, by rw [upd_ne ncd.symm]; exact h1, upd_same, by rw [List.length_set]; exact l0, by rw [List.length_set]; exact l1, m0, m1, ncd⟩ (Keep.upd_in (by simp))⟩
    · refine ⟨_, rfl, d, _, 1, V.int i, rfl, rfl, SqL.of h1, rfl, ?_⟩
      refine ⟨_, _, rfl, rfl, _, rfl, d, _, 1, 1, rfl, rfl, h1, rfl, ?_⟩
      have g1 : (upd H d (.lst [.ref c, .int (i + 1), .int m])) d = some (.lst [.ref c, .int (i + 1), .int m]) := upd_same
      have g2 : (upd H d (.lst [.ref c, .int (i + 1), .int m])) c = some (.lst (ns.map V.int)) := by rw [upd_ne ncd]; exact h2
      have g3 : Keep [d, c] H (upd H d (.lst [.ref c, .int (i + 1), .int m])) := Keep.upd_in (by simp)
      show _
      refine ⟨_, rfl, d, [.ref c, .int (i + 1), .int m], 2, V.int m, rfl, rfl, SqL.of g1, rfl, _, _, rfl, rfl, Or.inl ⟨m0, m1⟩, _, rfl, _, _, rfl, rfl, _, _, rfl, rfl, _, _, rfl, rfl, (by show (0 : Int) < _; decide), ?_⟩
      refine ⟨_, rfl, d, [.ref c, .int (i + 1), .int m], 2, 2, rfl, rfl, g1, rfl, ?_⟩
      have mm := mod_small (a := m * 48271 + z + 12345) (b := 2147483647) (by decide) (by decide)
      have f1 : (upd (upd H d (.lst [.ref c, .int (i + 1), .int m])) d (.lst [.ref c, .int (i + 1), .int ((m * 48271 + z + 12345) % 2147483647)])) d = some (.lst [.ref c, .int (i + 1), .int ((m * 48271 + z + 12345) % 2147483647)]) := upd_same
      have f2 : (upd (upd H d (.lst [.ref c, .int (i + 1), .int m])) d (.lst [.ref c, .int (i + 1), .int ((m * 48271 + z + 12345) % 2147483647)])) c = some (.lst (ns.map V.int)) := by rw [upd_ne ncd]; exact g2
      have f3 : Keep [d, c] H (upd (upd H d (.lst [.ref c, .int (i + 1), .int m])) d (.lst [.ref c, .int (i + 1), .int ((m * 48271 + z + 12345) % 2147483647)])) := g3.trans (Keep.upd_in (by simp))
      refine ⟨_, rfl, d, [.ref c, .int (i + 1), .int ((m * 48271 + z + 12345) % 2147483647)], 2, _, rfl, rfl, SqL.of f1, rfl, _, rfl, d, [.ref c, .int (i + 1), .int ((m * 48271 + z + 12345) % 2147483647)], 2, _, rfl, rfl, SqL.of f1, rfl, ?_⟩
      refine ⟨_, _, rfl, rfl, Or.inl mm, _, _, rfl, rfl, (by show (0 : Int) < _; decide), ?_⟩
      refine ⟨_, _, rfl, rfl, wide_div (b := 64) (by decide) (by decide) (by decide) (by decide), _, rfl, _, _, rfl, rfl, n0, ?_⟩
      exact q _ _ (Int.emod_nonneg _ (by omega)) (Int.emod_lt_of_pos _ n0) ⟨ns, _, _, f1, f2, l0, l1, mm.1, mm.2, ncd⟩ f3
end
end My
set_option Elab.async false
set_option maxRecDepth 100000
set_option maxHeartbeats 800000
namespace My
open PySem L2 TL
section
variable {P : Program} {w : World} {K : PySem.W.Frag} {mg : Str → Option Value} {base : Heap}
/-- a list == [] -/
def rEqNil : R2 := fun x y H Q => ∃ a b xs, x = .ref a ∧ y = .ref b ∧ H a = some (.lst xs) ∧ H b = some (.lst []) ∧ Q (.bl xs.isEmpty) H
theorem op_eqNil {X : Cx} (hu : X.A.units + 64 < cLine) : OpR X (compareOp .Eq) rEqNil := by
  intro pins s σ H x y v u Q I rx ry h
  obtain ⟨a, b, xs, rfl, rfl, ha, hb, q⟩ := h
  cases (show v = Value.ref a from rx)
  cases (show u = Value.ref b from ry)
  obtain ⟨_, its, k, rv, h1⟩ := (show ObjOk X.prog X.w H s.heap a (.lst xs) from I.hok a _ ha)
  obtain ⟨_, its2, k2, rv2, h2⟩ := (show ObjOk X.prog X.w H s.heap b (.lst []) from I.hok b _ hb)
  cases rv2
  cases xs with
  | nil =>
    cases rv
    exact SeqAt.RcAt.lists (e := fun _ => true) ⟨_, h1, rfl, _, rfl⟩ ⟨_, h2, rfl, _, rfl⟩ rfl (by omega) (fun j h => absurd h (by simp)) _ _ _ _ ⟨.bl true, H, I, rfl, q⟩
  | cons z r =>
    cases rv with
    | cons r1 r2 =>
      exact SeqAt.RcAt.lists_lengths ⟨_, h1, rfl, _, rfl⟩ ⟨_, h2, rfl, _, rfl⟩ (by simp) (by omega) _ _ _ _ ⟨.bl false, H, I, rfl, q⟩
theorem yes {A B : Prop} (h : A) : if true = true then A else B := by rw [if_pos rfl]; exact h
theorem tYes_go {F : Bool → Hp → Prop} {σ : L2.St} {H : Hp} (h : F true H) : tYes σ H F := h
theorem take_succ_of {α : Type} {l : List α} {i : Nat} {x : α} (h : l[i]? = some x) : l.take (i + 1) = l.take i ++ [x] := by
  rw [List.take_add_one, h]; rfl
theorem Keep.none_of {ds : List Addr} {H H' : Hp} {p : Addr} (k : Keep ds H H') (h : H' p = none) (hp : p ∉ ds) : H p = none := by
  cases e : H p with
  | none => rfl
  | some o => rw [k p o e hp] at h; cases h
theorem Keep.trans_new {H H1 : Hp} {L : Addr} {o : HO} (k : Keep [] H H1) (h : H L = none) : Keep [] H (upd H1 L o) := fun b u e n => by
  rw [upd_ne (ne_of_none e h)]; exact k b u e n
def sp_begin (K : PySem.W.Frag) : Sp := fun vs H Q _ => ∃ (a : Addr) (ns : List Int), vs = [.ref a] ∧ SqL K H a (ns.map V.int) ∧ ns.length ≤ 63 ∧ ∀ d c H', H d = none → H c = none → DrawAt H' d c → Keep [] H H' → Q (.ref d) H'
theorem p__law_begin (T : Txt K mg) : Pr P w K mg base "_law_begin" s__law_begin ["script"] 1 (sp_begin K) := by
  obtain ⟨f, fd, D⟩ := T.d__law_begin
  refine ⟨f, fd, D, D.F.ok sc__law_begin (fun vs H Q E h => ?_) (fun cdv A outer s H vs Q E hr h => ?_)⟩
  · obtain ⟨d, n, rfl, _⟩ := h; rfl
  · obtain ⟨a, ns, rfl, hS, hl, q⟩ := h
    have hsl : sizeLine = 16777216 := sizeLine_eq
    refine ⟨_, (pss_cons (ps_setLc (i := 1) (own := [("cell", 2)]) (g := gName 2) (tt := tYes) rfl sc__law_begin.nd rfl rfl (sw_true rfl rfl rfl (by decide +kernel)) (pi_list (pe_slice sl_list (pv 0) po_none (po_some pe_int))) (blkOk_by (own := [("cell", 2)]) (N := N__law_begin) (sc := defScope s__law_begin) (by decide +kernel)) (fun _ _ _ _ _ => (pg_name (i := 2) sc__law_begin.nd rfl (Or.inl rfl))) (fun _ _ _ _ _ => pts_nil) (fun _ _ _ _ _ => (pe_callB call_abs (by rfl) T.z_abs (by decide +kernel) (pa_cons (pv 2) pa_nil))))
      (pss_cons (ps_if (pt_cmpR (op_eqNil hr.units) (pv 1) (pe_lst pa_nil) (nomark _)) (pss_one (ps_set (i := 1) sc__law_begin.nd rfl (Or.inl rfl) (pe_lst (pa_cons pe_int pa_nil)))) pss_nil)
      (pss_one (ps_ret (pe_lst (pa_cons (pv 1) (pa_cons pe_int (pa_cons pe_int pa_nil)))))))), ?_⟩
    have ec : cutV (ns.map V.int) none (some 63) = ns.map V.int := by
      unfold cutV
      rw [HT.sIx_none, show (some (63 : Int)) = some ((63 : Nat) : Int) from rfl, HT.sIx_nat, List.drop_zero, Nat.sub_zero, List.take_of_length_le (by rw [List.length_map]; omega)]
    refine ⟨_, rfl, _, rfl, a, _, rfl, hS, fun p hp => ?_⟩
    rw [ec]
    have K1 := Keep.upd_new (ds := []) hp (o := .lst (ns.map V.int))
    have h1 : (upd H p (.lst (ns.map V.int))) p = some (.lst (ns.map V.int)) := upd_same
    generalize upd H p (.lst (ns.map V.int)) = H1 at K1 h1
    refine ⟨p, rfl, ⟨_, SqL.of h1⟩, fun L hL => ?_⟩
    have hL0 := K1.none_of hL (by simp)
    refine lc_list (K := K) (a := p) (xs := ns.map V.int) (fun i H2 => Keep [] H1 H2 ∧ H2 L = some (.lst (((ns.take i).map fun j => if j < 0 then -j else j).map V.int))) ⟨Keep.upd_new hL, upd_same⟩ (fun i H2 _ ⟨k, _⟩ => SqL.of (k _ _ h1 (by simp))) ?_ ?_
    · rintro i x H2 hx ⟨K2, h2⟩
      have il := (List.getElem?_eq_some_iff.mp hx).1
      rw [List.length_map] at il
      obtain ⟨z, hz⟩ : ∃ z, ns[i]? = some z := ⟨_, List.getElem?_eq_getElem il⟩
      rw [List.getElem?_map, hz] at hx
      obtain rfl : V.int z = x := Option.some.inj hx
      refine ⟨rfl, tYes_go (yes ?_)⟩
      refine ⟨_, rfl, z, rfl, _, h2, by rw [List.length_map, List.length_map, List.length_take]; omega, K2.trans_new hL, ?_⟩
      rw [upd_same, take_succ_of hz, List.map_append, List.map_append]; rfl
    · rintro H2 ⟨K2, h2⟩
      rw [List.length_map, List.take_length] at h2
      have K02 := K1.trans K2
      have lm : (ns.map fun j : Int => if j < 0 then -j else j).length = ns.length := List.length_map ..
      generalize (ns.map fun j : Int => if j < 0 then -j else j) = ms at h2 lm
      refine ⟨_, rfl, Nat.zero_le _, fun M hM => ⟨L, M, _, rfl, rfl, Keep.upd_new (ds := []) hM _ _ h2 (by simp), upd_same, _, rfl, ?_⟩⟩
      have h3 := Keep.upd_new (ds := []) hM (o := .lst []) _ _ h2 (by simp)
      have K3 := K02.trans (Keep.upd_new hM (o := .lst []))
      generalize upd H2 M (.lst []) = H3 at h3 K3
      cases ms with
      | nil =>
        refine iteT ?_
        refine ⟨by show 1 ≤ sizeLine; omega, fun N hN => ?_⟩
        refine ⟨_, rfl, by show 3 ≤ sizeLine; omega, fun d hd => ?_⟩
        have nd : N ≠ d := ne_of_none upd_same hd
        exact q d N _ (K3.none_of (by rw [upd_ne nd.symm] at hd; exact hd) (by simp)) (K3.none_of hN (by simp)) ⟨[7], 0, 1, upd_same, by rw [upd_ne nd]; exact upd_same, by decide, by decide, by decide, by decide, nd⟩ ((K3.trans (Keep.upd_new hN)).trans (Keep.upd_new hd))
      | cons z zs =>
        refine iteF ?_
        refine ⟨_, rfl, by show 3 ≤ sizeLine; omega, fun d hd => ?_⟩
        have nd : L ≠ d := ne_of_none h3 hd
        exact q d L _ (K3.none_of hd (by simp)) hL0 ⟨z :: zs, 0, 1, upd_same, by rw [upd_ne nd]; exact h3, by simp, by omega, by decide, by decide, nd⟩ (K3.trans (Keep.upd_new hd))
/-- what may be picked from -/
def PickV (H : Hp) (d c : Addr) (x : V) (xs : List V) : Prop := (∃ a, x = .ref a ∧ a ∉ [d, c] ∧ (H a = some (.lst xs) ∨ H a = some (.tup xs))) ∨ ∃ z : Str, x = .str z ∧ z.length ≤ sizeLine ∧ xs = (tl z).map fun c => V.str ⟨#[c]⟩
theorem PickV.keep {H H' : Hp} {d c : Addr} {x : V} {xs : List V} (h : PickV H d c x xs) (k : Keep [d, c] H H') : PickV H' d c x xs := by
  rcases h with ⟨a, rfl, na, h⟩ | h
  · exact .inl ⟨a, rfl, na, h.imp (fun h => k _ _ h na) fun h => k _ _ h na⟩
  · exact .inr h
def sp_pick : Sp := fun vs H Q _ => ∃ d c x xs, vs = [.ref d, x] ∧ DrawAt H d c ∧ PickV H d c x xs ∧ 0 < xs.length ∧ xs.length < 1000000000 ∧ ∀ v H', v ∈ xs → DrawAt H' d c → Keep [d, c] H H' → Q v H'
theorem p__law_pick (T : Txt K mg) : Pr P w K mg base "_law_pick" s__law_pick ["draw", "some"] 2 sp_pick := by
  obtain ⟨f, fd, D⟩ := T.d__law_pick
  obtain ⟨f__law_take, fd__law_take, D__law_take, G__law_take⟩ := p__law_take (P := P) (w := w) (base := base) T
  refine ⟨f, fd, D, D.F.ok sc__law_pick (fun vs H Q E h => ?_) (fun cdv A outer s H vs Q E hr h => ?_)⟩
  · obtain ⟨d, c, n, xs, rfl, _⟩ := h; rfl
  · obtain ⟨d, c, x, xs, rfl, D0, PV, n0, n1, q⟩ := h
    have hu := hu_of hr
    refine ⟨_, (pss_one (ps_ret (pe_ix ix_seq (pv 1) (pe_call G__law_take (hr.mono (by decide)) rfl D__law_take.m D__law_take.F.kp D__law_take.b .nil pass0 (pa_cons (pv 0) (pa_cons (pe_callB call_len (by rfl) T.z_len (by decide +kernel) (pa_cons (pv 1) pa_nil)) pa_nil))) (fun _ _ => rfl)))), ?_⟩
    have hl : ∀ H1, PickV H1 d c x xs → LenV K x H1 xs.length := fun H1 h => by
      rcases h with ⟨a, rfl, _, h | h⟩ | ⟨z, rfl, hz, rfl⟩
      · exact .inl ⟨xs, SqL.of h, rfl⟩
      · exact .inr ⟨xs, SqT.of h, rfl⟩
      · refine ⟨hz, ?_⟩
        rw [List.length_map]; exact (len_tl z).symm
    refine ⟨_, rfl, _, rfl, _, rfl, x, xs.length, rfl, hl H PV, d, c, _, rfl, D0, by omega, by omega, fun r H1 r0 r1 D1 K1 => ?_⟩
    have PV1 := PV.keep K1
    obtain ⟨v, e1, e2⟩ := atI_of (xs := xs) r0 r1
    have hm : v ∈ xs := List.mem_of_getElem? e1
    rcases id PV1 with ⟨a, rfl, _, h | h⟩ | ⟨z, rfl, hz, rfl⟩
    · exact .inl ⟨a, xs, r, v, rfl, rfl, SqL.of h, e2, q v H1 hm D1 K1⟩
    · exact .inr (.inl ⟨a, xs, r, v, rfl, rfl, SqT.of h, e2, q v H1 hm D1 K1⟩)
    · obtain ⟨c', hc, rfl⟩ := List.mem_map.mp hm
      refine .inr (.inr ⟨z, r, c', rfl, rfl, hz, ?_, q _ H1 hm D1 K1⟩)
      obtain ⟨c3, e3, e4⟩ := atI_of (xs := tl z) r0 (by rw [List.length_map] at r1; exact r1)
      rw [List.getElem?_map, e3] at e1
      cases e1
      exact e4
end
end My
set_option Elab.async false
set_option maxRecDepth 100000
set_option maxHeartbeats 800000
namespace My
open PySem L2 TL
/-! states and their texts: no heap here -/
structure PRO where
  m : Int
  b : Int
  a : Int
  l : Int
  u : Int
structure SO where
  p : Int
  t : Int
  x : Int
  y : Int
  ps : List PRO
def BIG : Int := 10 ^ 40
def pn (p : PRO) : List Int := [p.m, p.b, p.a, p.l, p.u]
def sn (s : SO) : List Int := [s.p, s.t, s.x, s.y]
structure OkP (p : PRO) : Prop where
  m1 : 1 ≤ p.m
  m2 : p.m < BIG
  b : p.b = 0 ∨ p.b = 1
  a1 : 1 ≤ p.a
  a2 : p.a ≤ 1000000000
  l0 : 0 ≤ p.l
  l1 : p.l ≤ 1000000000000000000000000000000
  u0 : 0 ≤ p.u
  u1 : p.u < BIG
structure OkS (s : SO) : Prop where
  p1 : 1 ≤ s.p
  p2 : s.p < BIG
  t0 : 0 ≤ s.t
  t1 : s.t < BIG
  x0 : 0 ≤ s.x
  x1 : s.x ≤ 10000000000
  y0 : 0 ≤ s.y
  y1 : s.y ≤ 10000000000
  len : s.ps.length ≤ 4
  up : (s.ps.map (·.m)).Pairwise (· < ·)
  ok : ∀ p ∈ s.ps, OkP p
def NumOk (i : Int) : Prop := 0 ≤ i ∧ i < BIG
theorem BIG_eq : BIG = 10000000000000000000000000000000000000000 := by decide +kernel
theorem OkP.nums {p : PRO} (h : OkP p) : ∀ i ∈ pn p, NumOk i := by
  have e := BIG_eq
  obtain ⟨m1, m2, b, a1, a2, l0, l1, u0, u1⟩ := h
  unfold NumOk
  intro i hi
  simp only [pn, List.mem_cons, List.not_mem_nil, or_false] at hi
  rcases hi with rfl | rfl | rfl | rfl | rfl
  · omega
  · rcases b with h | h <;> omega
  · omega
  · omega
  · omega
theorem OkS.nums {s : SO} (h : OkS s) : ∀ i ∈ sn s, NumOk i := by
  have e := BIG_eq
  obtain ⟨p1, p2, t0, t1, x0, x1, y0, y1, _, _, _⟩ := h
  unfold NumOk
  intro i hi
  simp only [sn, List.mem_cons, List.not_mem_nil, or_false] at hi
  rcases hi with rfl | rfl | rfl | rfl <;> omega
/-- str of a number -/
def tx (i : Int) : Str := Str.ofString (toString i)
theorem tl_tx {i : Int} (h : 0 ≤ i) : tl (tx i) = numL i.toNat := by
  have e : i = ((i.toNat : Nat) : Int) := by omega
  unfold tx
  rw [e, tl_num]; rfl
theorem tx_inj {i j : Int} (hi : 0 ≤ i) (hj : 0 ≤ j) (e : tx i = tx j) : i = j := by
  have e2 := congrArg tl e
  rw [tl_tx hi, tl_tx hj] at e2
  have := numL_inj e2
  omega
theorem tx_len {i : Int} (h : NumOk i) : (tl (tx i)).length ≤ 40 := by
  have e := BIG_eq
  rw [tl_tx h.1]
  refine numL_len (by decide) ?_
  have := h.2
  have e2 : (10 : Nat) ^ 40 = 10000000000000000000000000000000000000000 := by decide +kernel
  rw [e2]; omega
theorem tx_free {i : Int} (h : 0 ≤ i) : 32 ∉ tl (tx i) := by
  rw [tl_tx h]; exact numL_free (by decide)
theorem tx_ne {i : Int} (h : 0 ≤ i) : tl (tx i) ≠ [] := by
  rw [tl_tx h]; exact numL_ne _
theorem txs_inj : ∀ {l m : List Int}, (∀ i ∈ l, 0 ≤ i) → (∀ i ∈ m, 0 ≤ i) → l.map tx = m.map tx → l = m
  | [], [], _, _, _ => rfl
  | [], _ :: _, _, _, h => by cases h
  | _ :: _, [], _, _, h => by cases h
  | a :: l, b :: m, h1, h2, h => by
    rw [List.map_cons, List.map_cons, List.cons.injEq] at h
    rw [tx_inj (h1 a (by simp)) (h2 b (by simp)) h.1, txs_inj (fun i hi => h1 i (List.mem_cons_of_mem _ hi)) (fun i hi => h2 i (List.mem_cons_of_mem _ hi)) h.2]
/-- a word and numbers, with a blank between -/
def rowT (h : Str) (ns : List Int) : Str := PySem.Txt.join " " (h :: ns.map tx)
def textS (s : SO) : Str := s.ps.foldl (fun t p => t ++ rowT " /" (pn p)) (rowT "state" (sn s))
def wordsP (ps : List PRO) : List Str := ps.flatMap fun p => ("/" : Str) :: (pn p).map tx
def wordsS (s : SO) : List Str := (("state" : Str) :: (sn s).map tx) ++ wordsP s.ps
theorem joinL_cons {S h : List Nat} {r : List (List Nat)} (hr : r ≠ []) : joinL S (h :: r) = h ++ (S ++ joinL S r) := by
  cases r with
  | nil => exact absurd rfl hr
  | cons q r => rfl
theorem joinL_app {S : List Nat} : ∀ {xs ys : List (List Nat)}, xs ≠ [] → ys ≠ [] → joinL S (xs ++ ys) = joinL S xs ++ (S ++ joinL S ys)
  | [], _, h, _ => absurd rfl h
  | [x], ys, _, hy => by rw [List.singleton_append, joinL_cons hy]; rfl
  | x :: y :: r, ys, _, hy => by
    rw [List.cons_append, joinL_cons (r := y :: r ++ ys) (by simp), joinL_app (xs := y :: r) (by simp) hy, joinL_cons (h := x) (r := y :: r) (by simp)]
    simp only [List.append_assoc]
theorem tl_rowT (h : Str) (ns : List Int) : tl (rowT h ns) = joinL [32] (tl h :: (ns.map tx).map tl) := by
  unfold rowT
  rw [join_eq, tl_join]; rfl
theorem row_slash {ns : List Int} : tl (rowT " /" ns) = [32] ++ joinL [32] (([47] : List Nat) :: (ns.map tx).map tl) := by
  rw [tl_rowT]
  have e : tl (" /" : Str) = 32 :: [47] := by decide +kernel
  rw [e]
  cases hm : (ns.map tx).map tl with
  | nil => rfl
  | cons q r => rfl
theorem fold_words : ∀ (ps : List PRO) (ws : List Str), ws ≠ [] → tl (ps.foldl (fun t p => t ++ rowT " /" (pn p)) (PySem.Txt.join " " ws)) = joinL [32] ((ws ++ wordsP ps).map tl)
  | [], ws, _ => by
    rw [show wordsP [] = [] from rfl, List.append_nil]
    show tl (PySem.Txt.join " " ws) = _
    rw [join_eq, tl_join]; rfl
  | p :: ps, ws, h => by
    have e : PySem.Txt.join " " ws ++ rowT " /" (pn p) = PySem.Txt.join " " (ws ++ (("/" : Str) :: (pn p).map tx)) := by
      refine ext_tl ?_
      rw [tl_append, row_slash, join_eq, join_eq, tl_join, tl_join, List.map_append, joinL_app (by simpa using h) (by simp)]
      rfl
    rw [List.foldl_cons, e, fold_words ps _ (by simp)]
    unfold wordsP
    rw [List.flatMap_cons, List.append_assoc]
theorem text_words (s : SO) : textS s = PySem.Txt.join " " (wordsS s) := by
  refine ext_tl ?_
  have := fold_words s.ps (("state" : Str) :: (sn s).map tx) (by simp)
  rw [join_eq " " (wordsS s), tl_join]
  exact this
theorem words_free {s : SO} (h : OkS s) : ∀ w ∈ wordsS s, 32 ∉ tl w := by
  intro w hw
  unfold wordsS at hw
  have st : 32 ∉ tl ("state" : Str) := by decide +kernel
  have sl : 32 ∉ tl ("/" : Str) := by decide +kernel
  rcases List.mem_append.mp hw with hw | hw
  · rcases List.mem_cons.mp hw with rfl | hw
    · exact st
    · obtain ⟨i, hi, rfl⟩ := List.mem_map.mp hw
      exact tx_free (h.nums i hi).1
  · obtain ⟨p, hp, hw⟩ := List.mem_flatMap.mp hw
    rcases List.mem_cons.mp hw with rfl | hw
    · exact sl
    · obtain ⟨i, hi, rfl⟩ := List.mem_map.mp hw
      exact tx_free ((h.ok p hp).nums i hi).1
theorem split_text {s : SO} (h : OkS s) : PySem.Txt.split (textS s) " " = wordsS s := by
  rw [text_words]
  exact split_join (s := 32) (S := []) (by decide +kernel) (by decide +kernel) (by unfold wordsS; simp) (words_free h)
theorem pn_inj {p q : PRO} (e : pn p = pn q) : p = q := by
  cases p; cases q
  simp only [pn, List.cons.injEq] at e
  obtain ⟨rfl, rfl, rfl, rfl, rfl, _⟩ := e; rfl
theorem wordsP_inj : ∀ {ps qs : List PRO}, (∀ p ∈ ps, OkP p) → (∀ p ∈ qs, OkP p) → wordsP ps = wordsP qs → ps = qs
  | [], [], _, _, _ => rfl
  | [], _ :: _, _, _, h => by unfold wordsP at h; simp at h
  | _ :: _, [], _, _, h => by unfold wordsP at h; simp at h
  | p :: ps, q :: qs, h1, h2, h => by
    unfold wordsP at h
    rw [List.flatMap_cons, List.flatMap_cons] at h
    have hl : ((("/" : Str) :: (pn p).map tx)).length = ((("/" : Str) :: (pn q).map tx)).length := rfl
    obtain ⟨e1, e2⟩ := List.append_inj h hl
    rw [List.cons.injEq] at e1
    have := txs_inj (fun i hi => ((h1 p (by simp)).nums i hi).1) (fun i hi => ((h2 q (by simp)).nums i hi).1) e1.2
    rw [pn_inj this, wordsP_inj (fun x hx => h1 x (List.mem_cons_of_mem _ hx)) (fun x hx => h2 x (List.mem_cons_of_mem _ hx)) e2]
/-- unlike states have unlike texts -/
theorem text_inj {s t : SO} (hs : OkS s) (ht : OkS t) (e : textS s = textS t) : s = t := by
  have e2 := split_text hs
  rw [e, split_text ht] at e2
  unfold wordsS at e2
  obtain ⟨e3, e4⟩ := List.append_inj e2 rfl
  rw [List.cons.injEq] at e3
  have e5 := txs_inj (fun i hi => (ht.nums i hi).1) (fun i hi => (hs.nums i hi).1) e3.2
  have e6 := wordsP_inj ht.ok hs.ok e4
  cases s; cases t
  simp only [sn, List.cons.injEq] at e5
  obtain ⟨rfl, rfl, rfl, rfl, _⟩ := e5
  cases e6; rfl
/-- the law's own text -/
def lawT (s : SO) : Str := PySem.Txt.join " / " (rowT "state" (sn s) :: s.ps.map fun p => PySem.Txt.join " " ((pn p).map tx))
theorem law_text (s : SO) : lawT s = textS s := by
  have key : ∀ (ps : List PRO) (z : Str), tl (PySem.Txt.join " / " (z :: ps.map fun p => PySem.Txt.join " " ((pn p).map tx))) = tl (ps.foldl (fun t p => t ++ rowT " /" (pn p)) z) := by
    intro ps
    induction ps with
    | nil => intro z; rw [join_eq, tl_join]; rfl
    | cons p ps ih =>
      intro z
      rw [List.foldl_cons, ← ih, join_eq, join_eq, tl_join, tl_join]
      have e : tl (" / " : Str) = [32, 47, 32] := by decide +kernel
      have e2 : tl (rowT " /" (pn p)) = [32, 47, 32] ++ tl (PySem.Txt.join " " ((pn p).map tx)) := by
        rw [row_slash, join_eq, tl_join]; rfl
      simp only [List.map_cons, e]
      cases hm : (ps.map fun p => PySem.Txt.join " " ((pn p).map tx)).map tl with
      | nil =>
        show tl z ++ ([32, 47, 32] ++ tl _) = tl (z ++ _)
        rw [tl_append, e2]
      | cons q r =>
        show tl z ++ ([32, 47, 32] ++ (tl _ ++ ([32, 47, 32] ++ joinL [32, 47, 32] (q :: r)))) = tl (z ++ _) ++ ([32, 47, 32] ++ joinL [32, 47, 32] (q :: r))
        rw [tl_append, e2]; simp only [List.append_assoc]
  exact ext_tl (key _ _)
/-- lengths -/
theorem words_len (s : SO) : (wordsS s).length = 5 + 6 * s.ps.length := by
  have : ∀ ps : List PRO, (wordsP ps).length = 6 * ps.length := by
    intro ps
    induction ps with
    | nil => rfl
    | cons p ps ih =>
      unfold wordsP at ih ⊢
      rw [List.flatMap_cons, List.length_append, ih, List.length_cons (as := ps)]
      show 6 + _ = _
      omega
  unfold wordsS
  rw [List.length_append, this]
  show 5 + _ = _; rfl
theorem row_len {h : Str} {ns : List Int} (hn : ∀ i ∈ ns, NumOk i) : (tl (rowT h ns)).length ≤ (tl h).length + 41 * ns.length := by
  rw [tl_rowT]
  have : ∀ (ns : List Int) (z : List Nat), (∀ i ∈ ns, NumOk i) → (joinL [32] (z :: (ns.map tx).map tl)).length ≤ z.length + 41 * ns.length := by
    intro ns
    induction ns with
    | nil => intro z _; show z.length ≤ _; omega
    | cons i r ih =>
      intro z hz
      have h1 := ih (tl (tx i)) fun j hj => hz j (List.mem_cons_of_mem _ hj)
      have h2 := tx_len (hz i (by simp))
      rw [List.map_cons, List.map_cons, joinL_cons (by simp), List.length_append, List.length_append, List.length_cons (as := r)]
      show z.length + (1 + _) ≤ _
      omega
  exact this ns _ hn
theorem text_len {s : SO} (h : OkS s) : (tl (textS s)).length ≤ 2000 := by
  have key : ∀ (ps : List PRO) (z : Str), (∀ p ∈ ps, OkP p) → (tl (ps.foldl (fun t p => t ++ rowT " /" (pn p)) z)).length ≤ (tl z).length + 220 * ps.length := by
    intro ps
    induction ps with
    | nil => intro z _; show (tl z).length ≤ _; omega
    | cons p ps ih =>
      intro z hp
      have h1 := ih (z ++ rowT " /" (pn p)) fun q hq => hp q (List.mem_cons_of_mem _ hq)
      have h2 := row_len (h := " /") (hp p (by simp)).nums
      have e : (tl (" /" : Str)).length = 2 := by decide +kernel
      have e5 : (pn p).length = 5 := rfl
      rw [List.foldl_cons, List.length_cons]
      rw [tl_append, List.length_append] at h1
      omega
  have h1 := key s.ps (rowT "state" (sn s)) h.ok
  have h2 := row_len (h := "state") h.nums
  have e : (tl ("state" : Str)).length = 5 := by decide +kernel
  have e4 : (sn s).length = 4 := rfl
  have := h.len
  unfold textS
  omega
theorem wordsP_slash : ∀ (ps : List PRO) (j : Nat) (w : Str), (wordsP ps)[6 * j]? = some w → w = "/"
  | [], j, w, h => by unfold wordsP at h; simp at h
  | p :: ps, 0, w, h => by unfold wordsP at h; simp [List.flatMap_cons] at h; exact h.symm
  | p :: ps, j + 1, w, h => by
    refine wordsP_slash ps j w ?_
    unfold wordsP at h ⊢
    rw [List.flatMap_cons, List.getElem?_append_right (by show 6 ≤ _; omega)] at h
    have e : 6 * (j + 1) - ((("/" : Str) :: (pn p).map tx)).length = 6 * j := by show 6 * (j + 1) - 6 = _; omega
    rw [e] at h; exact h
theorem wordsP_take : ∀ (ps : List PRO) (j : Nat) (p : PRO), ps[j]? = some p → ((wordsP ps).drop (6 * j + 1)).take 5 = (pn p).map tx
  | [], j, p, h => by simp at h
  | p :: ps, 0, q, h => by
    simp at h; subst h
    unfold wordsP
    rw [List.flatMap_cons]; rfl
  | p :: ps, j + 1, q, h => by
    have ih := wordsP_take ps j q (by simpa using h)
    unfold wordsP at ih ⊢
    rw [List.flatMap_cons, List.drop_append]
    have e1 : ((("/" : Str) :: (pn p).map tx)).drop (6 * (j + 1) + 1) = [] := List.drop_eq_nil_of_le (by show 6 ≤ _; omega)
    have e2 : 6 * (j + 1) + 1 - ((("/" : Str) :: (pn p).map tx)).length = 6 * j + 1 := by show 6 * (j + 1) + 1 - 6 = _; omega
    rw [e1, e2, List.nil_append]; exact ih
end My
set_option Elab.async false
set_option maxRecDepth 100000
set_option maxHeartbeats 4000000
namespace My
open PySem PySem.Spec PyProof.Rows PySem.SeqAt
section
variable {prog : Program} {w : World} {A : Around} {E : Value → Shared → Prop} {s : Shared}
/-- str.__ne__ of a text and a dict: it declines -/
theorem str_ne_dict (b : Str) (u : Tok) (l : Addr) (c : Value) (es : Array DictEntry) (n : Nat) (dd : Option Addr) (sl : Array (Option Value)) :
    Meets (Builtin.«str.__ne__» ⟨[.str b u, .ref l], []⟩)
      (fun _ R s => s.heap.get? l = some ⟨c, dd, .dict es n, sl⟩ ∧ R (.ok (.ret .notImplemented)) s) :=
  .of_wp fun prog w A R s h => by
    obtain ⟨hp, g, d, tk, os⟩ := s
    obtain ⟨hl, h⟩ := h
    wp_walk using AutoSeq1.wpAny_loadPart' hl, wpAny_load hl
    exact ⟨_, rfl, h⟩
theorem ne_dict_str {a : Addr} {o : Obj} {es : Array DictEntry} {ep : Nat} {b : Str} {u : Tok} {Q : Value → Shared → Prop} (ha : s.heap.get? a = some o) (hc : o.cls = .type "dict") (hd : o.data = .dict es ep)
    (hu : A.units < cLine) (h : Q (.bool true) s) : wpAny (model prog w) A (compareOp .NotEq (.ref a) (.str b u)) Q E s := by
  have tI : s.TypeIs (.ref a) "dict" := ⟨o, ha, hc⟩
  obtain ⟨cls, dd, data, sl⟩ := id o
  refine rc_ne_decline_or (k := false) tI (typeIs_str s b u) (by decide) PySem.F.sub_str_dict PySem.F.slot_dict_ne PySem.F.slot_str_ne_refl (fun Q' hq => ?_) (fun Q' hq => ?_) (fun Q' hq => wpAny_of_eq (rfl : isSame (.ref a) (.str b u) = pure false) hq) (.inr hu) h
  · refine wpAny_call_entry PySem.F.slot_dict_ne tI PySem.F.entry_dict_ne ?_ (PySem.F.args_dict_ne_2 _ _)
    show wpAny _ _ (Builtin.Dict.dictSlotArgs "__ne__" ⟨[.ref a, .str b u], []⟩ >>= _) _ _ s
    unfold Builtin.Dict.dictSlotArgs
    refine wpAny_bind (wpAny_bind (wpAny_notOrdered_dict tI ?_))
    refine wpAny_pure (wpAny_bind (wpAny_isInstance (T := "str") (typeIs_str s b u) PySem.F.sub_str_dict ?_))
    rw [if_pos (by rfl)]
    exact wpAny_bind (wpAny_rule (wpAny_pure ⟨_, rfl, hq⟩))
  · obtain ⟨cls, dd, data, sl⟩ := o
    cases hc; cases hd
    exact call_meets PySem.F.slot_str_ne_refl (typeIs_str s b u) PySem.F.entry_str_ne (PySem.F.args_str_ne_2 _ _) (str_ne_dict b u a _ es ep dd sl) ⟨ha, hq⟩
end
open L2 TL
/-- a value of a kind that a law hands in, by its type's name -/
inductive Thing (H : Hp) : V → String → Prop where
  | non : Thing H .non "NoneType"
  | bl (b : Bool) : Thing H (.bl b) "bool"
  | int (i : Int) : Thing H (.int i) "int"
  | str (z : Str) (h : z.length ≤ sizeLine) : Thing H (.str z) "str"
  | lst {a : Addr} {xs : List V} (h : H a = some (.lst xs)) : Thing H (.ref a) "list"
  | tup {a : Addr} {xs : List V} (h : H a = some (.tup xs)) : Thing H (.ref a) "tuple"
  | dct {a : Addr} {kvs : List (Key × V)} (h : H a = some (.dK kvs)) : Thing H (.ref a) "dict"
theorem Thing.ty {K : PySem.W.Frag} {H : Hp} {v : V} {n : String} (h : Thing H v n) : TyX K H v (.type n) := by
  cases h with
  | non => exact .base .non
  | bl b => exact .base (.bl b)
  | int i => exact .base (.int i)
  | str z h => exact .base (.str z)
  | lst h => exact .base (.lst h)
  | tup h => exact .base (.tup h)
  | dct h => exact .base (.dK h)
theorem Thing.keep {H H' : Hp} {d : Addr} {v : V} {n : String} (h : Thing H v n) (k : Keep [d] H H') (hv : v ≠ .ref d) : Thing H' v n := by
  have na : ∀ a, v = .ref a → a ∉ [d] := fun a e => by simp only [List.mem_singleton]; rintro rfl; exact hv e
  cases h with
  | non => exact .non
  | bl b => exact .bl b
  | int i => exact .int i
  | str z h => exact .str z h
  | lst h => exact .lst (k _ _ h (na _ rfl))
  | tup h => exact .tup (k _ _ h (na _ rfl))
  | dct h => exact .dct (k _ _ h (na _ rfl))
def rNeStr : R2 := fun x y H Q => ∃ n z, Thing H x n ∧ y = .str z ∧ Q (.bl (!decide (x = .str z))) H
theorem op_neStr {X : Cx} (hu : X.A.units + 64 < cLine) : OpR X (compareOp .NotEq) rNeStr := by
  intro pins s σ H x y v u Q I rx ry h
  obtain ⟨n, z, T, rfl, q⟩ := h
  obtain ⟨t, rfl⟩ := ry
  have fin : ∀ k : Bool, (!decide (x = V.str z)) = k → EP X pins σ Q (.bool k) s := fun k e => ⟨.bl k, H, I, rfl, e ▸ q⟩
  cases T with
  | non => cases (show v = Value.none from rx); exact RcNeAt.none_str z t _ _ _ _ (fin _ (by simp))
  | bl b => cases (show v = Value.bool b from rx); exact RcNeAt.bool_str b z t _ _ _ _ (fin _ (by simp))
  | int i => obtain ⟨t', rfl⟩ := (show ∃ t, v = Value.int i t from rx); exact RcNeAt.int_str i t' z t _ _ _ _ (fin _ (by simp))
  | str y hy =>
    obtain ⟨t', rfl⟩ := (show ∃ t, v = Value.str y t from rx)
    refine RcNeAt.str_str y t' z t _ _ _ _ (fin _ ?_)
    by_cases e : y = z
    · subst e; simp
    · simp [e]
  | @lst a xs h =>
    cases (show v = Value.ref a from rx)
    obtain ⟨_, its, k, _, h1⟩ := (show ObjOk X.prog X.w H s.heap a (.lst xs) from I.hok a _ h)
    exact RcNeAt.list_str z t ⟨_, h1, rfl, _, rfl⟩ (by omega) _ _ _ _ (fin _ (by simp))
  | @tup a xs h =>
    cases (show v = Value.ref a from rx)
    obtain ⟨_, its, _, o, h1, h2, k, h3⟩ := (show ObjOk X.prog X.w H s.heap a (.tup xs) from I.hok a _ h)
    exact RcNeAt.tuple_str z t ⟨_, h1, h2, _, h3⟩ (by omega) _ _ _ _ (fin _ (by simp))
  | @dct a kvs h =>
    cases (show v = Value.ref a from rx)
    obtain ⟨_, _, vs, _, o, es, ep, h1, h2, h3, _⟩ := (show ObjOk X.prog X.w H s.heap a (.dK kvs) from I.hok a _ h)
    exact ne_dict_str h1 h2.1 h3 (by omega) (fin _ (by simp))

def intV : V → Bool
  | .int _ => true
  | _ => false
def geV (lo : Int) : V → Bool
  | .int i => decide (lo ≤ i)
  | _ => false
def rngV (lo hi : Int) : V → Bool
  | .int i => decide (lo ≤ i) && decide (i ≤ hi)
  | _ => false
theorem intV_eq {v : V} (h : intV v = true) : ∃ i, v = .int i := by
  cases v <;> first | exact ⟨_, rfl⟩ | cases h

section
variable {P : Program} {w : World} {K : PySem.W.Frag} {mg : Str → Option Value} {base : Heap}
theorem isi_int {H : Hp} {v : V} {n : String} (h : Thing H v n) : ∃ b, PySem.W.kitOne K (.type n) (.type "int") = some b ∧ ((∃ i, v = .int i ∧ b = true) ∨ (∃ c, v = .bl c ∧ b = true) ∨ (intV v = false ∧ b = false)) := by
  cases h with
  | non => exact ⟨false, kit_ty (by decide +kernel), .inr (.inr ⟨rfl, rfl⟩)⟩
  | bl b => exact ⟨true, kit_ty (by decide +kernel), .inr (.inl ⟨b, rfl, rfl⟩)⟩
  | int i => exact ⟨true, kit_ty (by decide +kernel), .inl ⟨i, rfl, rfl⟩⟩
  | str z h => exact ⟨false, kit_ty (by decide +kernel), .inr (.inr ⟨rfl, rfl⟩)⟩
  | lst h => exact ⟨false, kit_ty (by decide +kernel), .inr (.inr ⟨rfl, rfl⟩)⟩
  | tup h => exact ⟨false, kit_ty (by decide +kernel), .inr (.inr ⟨rfl, rfl⟩)⟩
  | dct h => exact ⟨false, kit_ty (by decide +kernel), .inr (.inr ⟨rfl, rfl⟩)⟩
def sp_V (f : V → Bool) : Sp := fun vs H Q _ => ∃ v n, vs = [v] ∧ Thing H v n ∧ ∀ H', Keep [] H H' → Q (.bl (f v)) H'
theorem p_is_number (T : Txt K mg) : Pr P w K mg base "is_number" s_is_number ["thing"] 1 (sp_V intV) := by
  obtain ⟨f, fd, D⟩ := T.d_is_number
  refine ⟨f, fd, D, D.F.ok sc_is_number (fun vs H Q E h => ?_) (fun cdv A outer s H vs Q E hr h => ?_)⟩
  · obtain ⟨v, n, rfl, _⟩ := h; rfl
  · obtain ⟨v, n, rfl, Tv, q⟩ := h
    refine ⟨_, (pss_one (ps_ret (pe_and (pe_callB call_isi (by rfl) T.z_isinstance (by decide +kernel) (pa_cons (pv 0) (pa_cons (pe_bltn (by rfl) T.z_int (by decide +kernel) (v := .ty "int") rfl) pa_nil))) (pe_one (pe_not (pe_callB call_isi (by rfl) T.z_isinstance (by decide +kernel) (pa_cons (pv 0) (pa_cons (pe_bltn (by rfl) T.z_bool (by decide +kernel) (v := .ty "bool") rfl) pa_nil)))))))), ?_⟩
    obtain ⟨b, eb, hb⟩ := isi_int (K := K) Tv
    refine ⟨_, rfl, v, _, _, _, b, rfl, .ty _, Tv.ty, eb, b, rfl, ?_⟩
    rcases hb with ⟨i, rfl, rfl⟩ | ⟨c, rfl, rfl⟩ | ⟨e, rfl⟩
    · refine iteT ⟨_, rfl, _, _, _, _, false, rfl, .ty _, .base (.int i), kit_ty (by decide +kernel), _, rfl, ?_⟩
      exact q _ Keep.refl
    · refine iteT ⟨_, rfl, _, _, _, _, true, rfl, .ty _, .base (.bl c), kit_ty (by decide +kernel), _, rfl, ?_⟩
      exact q _ Keep.refl
    · refine iteF ?_
      rw [e] at q; exact q _ Keep.refl
theorem p_is_count (T : Txt K mg) : Pr P w K mg base "is_count" s_is_count ["thing"] 2 (sp_V (geV 1)) := by
  obtain ⟨f, fd, D⟩ := T.d_is_count
  obtain ⟨f_is_number, fd_is_number, D_is_number, G_is_number⟩ := p_is_number (P := P) (w := w) (base := base) T
  refine ⟨f, fd, D, D.F.ok sc_is_count (fun vs H Q E h => ?_) (fun cdv A outer s H vs Q E hr h => ?_)⟩
  · obtain ⟨v, n, rfl, _⟩ := h; rfl
  · obtain ⟨v, n, rfl, Tv, q⟩ := h
    refine ⟨_, (pss_one (ps_ret (pe_and (pe_call G_is_number (hr.mono (by decide)) rfl D_is_number.m D_is_number.F.kp D_is_number.b .nil pass0 (pa_cons (pv 0) pa_nil)) (pe_one (pe_cmpR op_ge (pv 0) pe_int (nomark _)))))), ?_⟩
    refine ⟨_, rfl, v, n, rfl, Tv, fun H1 K1 => ⟨_, rfl, ite2 (fun e => ?_) (fun e => ?_)⟩⟩
    · obtain ⟨i, rfl⟩ := intV_eq e
      exact ⟨_, rfl, _, _, rfl, rfl, q _ K1⟩
    · have : geV 1 v = false := by cases v <;> first | rfl | exact absurd rfl e
      rw [this] at q; exact q _ K1
theorem p_is_amount (T : Txt K mg) : Pr P w K mg base "is_amount" s_is_amount ["thing"] 3 (sp_V (rngV 1 1000000000)) := by
  obtain ⟨f, fd, D⟩ := T.d_is_amount
  obtain ⟨f_is_count, fd_is_count, D_is_count, G_is_count⟩ := p_is_count (P := P) (w := w) (base := base) T; obtain ⟨t_MOST, g_MOST⟩ := T.g_MOST
  refine ⟨f, fd, D, D.F.ok sc_is_amount (fun vs H Q E h => ?_) (fun cdv A outer s H vs Q E hr h => ?_)⟩
  · obtain ⟨v, n, rfl, _⟩ := h; rfl
  · obtain ⟨v, n, rfl, Tv, q⟩ := h
    refine ⟨_, (pss_one (ps_ret (pe_and (pe_call G_is_count (hr.mono (by decide)) rfl D_is_count.m D_is_count.F.kp D_is_count.b .nil pass0 (pa_cons (pv 0) pa_nil)) (pe_one (pe_cmpR op_le (pv 0) (pe_glob (v := .int 1000000000) rfl g_MOST ⟨_, rfl⟩) (nomark _)))))), ?_⟩
    refine ⟨_, rfl, v, n, rfl, Tv, fun H1 K1 => ⟨_, rfl, ite2 (fun e => ?_) (fun e => ?_)⟩⟩
    · obtain ⟨i, rfl⟩ : ∃ i, v = .int i := by cases v <;> first | exact ⟨_, rfl⟩ | cases e
      have e' : decide ((1 : Int) ≤ i) = true := e
      refine ⟨_, rfl, _, _, rfl, rfl, ?_⟩
      have : rngV 1 1000000000 (.int i) = decide (i ≤ 1000000000) := by show (decide ((1 : Int) ≤ i) && _) = _; rw [e']; rfl
      rw [this] at q; exact q _ K1
    · have : rngV 1 1000000000 v = false := by
        cases v <;> first | rfl | (show (decide _ && _) = false; rw [Bool.and_eq_false_iff]; exact .inl (Bool.eq_false_iff.mpr e))
      rw [this] at q; exact q _ K1
theorem p_is_whole (T : Txt K mg) : Pr P w K mg base "is_whole" s_is_whole ["thing"] 2 (sp_V (geV 0)) := by
  obtain ⟨f, fd, D⟩ := T.d_is_whole
  obtain ⟨f_is_number, fd_is_number, D_is_number, G_is_number⟩ := p_is_number (P := P) (w := w) (base := base) T
  refine ⟨f, fd, D, D.F.ok sc_is_whole (fun vs H Q E h => ?_) (fun cdv A outer s H vs Q E hr h => ?_)⟩
  · obtain ⟨v, n, rfl, _⟩ := h; rfl
  · obtain ⟨v, n, rfl, Tv, q⟩ := h
    refine ⟨_, (pss_one (ps_ret (pe_and (pe_call G_is_number (hr.mono (by decide)) rfl D_is_number.m D_is_number.F.kp D_is_number.b .nil pass0 (pa_cons (pv 0) pa_nil)) (pe_one (pe_cmpR op_ge (pv 0) pe_int (nomark _)))))), ?_⟩
    refine ⟨_, rfl, v, n, rfl, Tv, fun H1 K1 => ⟨_, rfl, ite2 (fun e => ?_) (fun e => ?_)⟩⟩
    · obtain ⟨i, rfl⟩ := intV_eq e
      exact ⟨_, rfl, _, _, rfl, rfl, q _ K1⟩
    · have : geV 0 v = false := by cases v <;> first | rfl | exact absurd rfl e
      rw [this] at q; exact q _ K1
theorem p_is_time (T : Txt K mg) : Pr P w K mg base "is_time" s_is_time ["thing"] 3 (sp_V (geV 0)) := by
  obtain ⟨f, fd, D⟩ := T.d_is_time
  obtain ⟨f_is_whole, fd_is_whole, D_is_whole, G_is_whole⟩ := p_is_whole (P := P) (w := w) (base := base) T
  refine ⟨f, fd, D, D.F.ok sc_is_time (fun vs H Q E h => ?_) (fun cdv A outer s H vs Q E hr h => ?_)⟩
  · obtain ⟨v, n, rfl, _⟩ := h; rfl
  · obtain ⟨v, n, rfl, Tv, q⟩ := h
    exact ⟨_, (pss_one (ps_ret (pe_call G_is_whole (hr.mono (by decide)) rfl D_is_whole.m D_is_whole.F.kp D_is_whole.b .nil pass0 (pa_cons (pv 0) pa_nil)))), _, rfl, v, n, rfl, Tv, q⟩
theorem p_is_digest (T : Txt K mg) : Pr P w K mg base "is_digest" s_is_digest ["thing"] 3 (sp_V (rngV 0 1000000000000000000000000000000)) := by
  obtain ⟨f, fd, D⟩ := T.d_is_digest
  obtain ⟨f_is_whole, fd_is_whole, D_is_whole, G_is_whole⟩ := p_is_whole (P := P) (w := w) (base := base) T; obtain ⟨t_MOST_DIGEST, g_MOST_DIGEST⟩ := T.g_MOST_DIGEST
  refine ⟨f, fd, D, D.F.ok sc_is_digest (fun vs H Q E h => ?_) (fun cdv A outer s H vs Q E hr h => ?_)⟩
  · obtain ⟨v, n, rfl, _⟩ := h; rfl
  · obtain ⟨v, n, rfl, Tv, q⟩ := h
    refine ⟨_, (pss_one (ps_ret (pe_and (pe_call G_is_whole (hr.mono (by decide)) rfl D_is_whole.m D_is_whole.F.kp D_is_whole.b .nil pass0 (pa_cons (pv 0) pa_nil)) (pe_one (pe_cmpR op_le (pv 0) (pe_glob (v := .int 1000000000000000000000000000000) rfl g_MOST_DIGEST ⟨_, rfl⟩) (nomark _)))))), ?_⟩
    refine ⟨_, rfl, v, n, rfl, Tv, fun H1 K1 => ⟨_, rfl, ite2 (fun e => ?_) (fun e => ?_)⟩⟩
    · obtain ⟨i, rfl⟩ : ∃ i, v = .int i := by cases v <;> first | exact ⟨_, rfl⟩ | cases e
      have e' : decide ((0 : Int) ≤ i) = true := e
      refine ⟨_, rfl, _, _, rfl, rfl, ?_⟩
      have : rngV 0 1000000000000000000000000000000 (.int i) = decide (i ≤ 1000000000000000000000000000000) := by show (decide ((0 : Int) ≤ i) && _) = _; rw [e']; rfl
      rw [this] at q; exact q _ K1
    · have : rngV 0 1000000000000000000000000000000 v = false := by
        cases v <;> first | rfl | (show (decide _ && _) = false; rw [Bool.and_eq_false_iff]; exact .inl (Bool.eq_false_iff.mpr e))
      rw [this] at q; exact q _ K1
def prtV : V → Bool
  | .int i => decide (i = 0 ∨ i = 1)
  | _ => false
theorem p_is_party (T : Txt K mg) : Pr P w K mg base "is_party" s_is_party ["thing"] 2 (sp_V prtV) := by
  obtain ⟨f, fd, D⟩ := T.d_is_party
  obtain ⟨f_is_number, fd_is_number, D_is_number, G_is_number⟩ := p_is_number (P := P) (w := w) (base := base) T
  refine ⟨f, fd, D, D.F.ok sc_is_party (fun vs H Q E h => ?_) (fun cdv A outer s H vs Q E hr h => ?_)⟩
  · obtain ⟨v, n, rfl, _⟩ := h; rfl
  · obtain ⟨v, n, rfl, Tv, q⟩ := h
    refine ⟨_, (pss_one (ps_ret (pe_and (pe_call G_is_number (hr.mono (by decide)) rfl D_is_number.m D_is_number.F.kp D_is_number.b .nil pass0 (pa_cons (pv 0) pa_nil)) (pe_one (pe_cmpR op_in_seq (pv 0) (pe_tup (pa_cons pe_int (pa_cons pe_int pa_nil))) (by rfl)))))), ?_⟩
    refine ⟨_, rfl, v, n, rfl, Tv, fun H1 K1 => ⟨_, rfl, ite2 (fun e => ?_) (fun e => ?_)⟩⟩
    · obtain ⟨i, rfl⟩ := intV_eq e
      refine ⟨_, rfl, by show 2 ≤ sizeLine; decide, fun p hp => ⟨p, _, rfl, .inr (SqT.of upd_same), rfl, rfl, ?_⟩⟩
      have e : inV (V.int i) [V.int 0, V.int 1] = prtV (.int i) := by
        show _ = decide (i = 0 ∨ i = 1)
        by_cases h0 : i = 0
        · subst h0; rfl
        · by_cases h1 : i = 1
          · subst h1; rfl
          · rw [decide_eq_false (by omega)]
            simp only [inV, List.any_cons, List.any_nil, Bool.or_false, Bool.or_eq_false_iff]
            refine ⟨?_, ?_⟩
            · first | exact decide_eq_false (fun z => h0 z.symm) | exact beq_eq_false_iff_ne.mpr (fun z => h0 z.symm)
            · first | exact decide_eq_false (fun z => h1 z.symm) | exact beq_eq_false_iff_ne.mpr (fun z => h1 z.symm)
      rw [e]
      exact q _ (K1.trans (Keep.upd_new hp))
    · have : prtV v = false := by cases v <;> first | rfl | exact absurd rfl e
      rw [this] at q; exact q _ K1
end
end My
set_option Elab.async false
set_option maxRecDepth 100000
namespace My
open PySem PySem.Spec PyProof.Rows L2
section
variable {P : Program} {w : World} {A : Around} {E : Value → Shared → Prop} {s : Shared}
/-- a new set -/
abbrev nuSet (w : World) : Obj := { cls := .type "set", dict := none, data := .set #[] 0 (.fresh 0 0 (!w.params.followText "set-order")) }
/-- what set(..) of whole numbers has made -/
def MadeI (w : World) (ns : List Int) (s s2 : Shared) : Prop := ∃ h' tk c, s2 = { s with heap := h', toks := tk } ∧ SetR w h' s.heap.objs.size (fun j => decide (j ∈ ns)) c ∧ c ≤ ns.length ∧ ∀ b o, s.heap.get? b = some o → h'.get? b = some o
set_option maxHeartbeats 3200000 in
theorem set_of_list {l : Addr} {its : Array Value} (ns : List Int) {Q : Value → Shared → Prop} (nh : A.handled = none) (li : s.heap.IsList l its) (ia : IntsAre its.toList ns) (few : ns.length + 1 < scanBound)
    (fin : ∀ s2, MadeI w ns s s2 → Q (.ref s.heap.objs.size) s2) : wpAny (model P w) A (call (.type "set") [.ref l]) Q E s := by
  have sz : its.size = ns.length := (Array.length_toList (xs := its)).symm.trans (IntsAre.length ia)
  have C := F.called_set
  obtain ⟨_, _, _⟩ := C.mro
  have m1 := C.made; have m2 := C.sub; have m3 := C.notType; have m4 := C.canCreate; have m5 := F.typeCall_set_1 (.ref l)
  refine wpAny_call (codeAny_of_tree ?_)
  show wpAny _ _ (callAny (.type "set") _) _ _ _
  refine wpAny_pure ⟨Code.quiet_builtin _ (by decide +kernel), codeAny_builtin F.entry_type_call ?_⟩
  rw [Around.under_plain (weight_type_call_type "set" [.ref l] []) rfl]
  repeat (any_goals (first | assumption | wp_step))
  refine codeAny_mono (code_set_led1 (.ref l) (E := E) (Q₁ := fun z t => z = .ref s.heap.objs.size ∧ t = { s with heap := s.heap.push (nuSet w) }) ⟨rfl, rfl⟩) fun r t hr => ?_
  rcases r with e | (_ | _ | z | _)
  all_goals first | exact hr | exact hr.elim | skip
  obtain ⟨rfl, rfl⟩ := hr
  have g0 : (s.heap.push (nuSet w)).get? s.heap.objs.size = some (nuSet w) := Heap.get?_push_size _ rfl
  have g1 : Shared.TypeIs { s with heap := s.heap.push (nuSet w) } (.ref s.heap.objs.size) "set" := ⟨_, g0, rfl⟩
  have i1 := C.init.lookup; have i2 := C.init.bind (.ref s.heap.objs.size)
  repeat (any_goals (first | assumption | wp_step))
  refine codeAny_mono (codeAny_call_builtin (R := wants (fun r t => r = .none ∧ MadeI w ns s t) E) C.init.plain F.entry_set_init (check_set_init_1 g1 ?_)) fun r t hr => ?_
  · obtain ⟨ob, g2, gc, k, gd⟩ := li
    obtain ⟨_, od, _, os⟩ := ob
    simp only at gc gd
    subst gc; subst gd
    have g3 := Heap.get?_push_of_some (nuSet w) g2
    have d1 := F.sub_list_set; have d2 := F.sub_list_frozenset
    have d3 : (Value.type "list" == Value.type "dict") = false := by decide
    have g4 : (s.heap.push (nuSet w)).IsList l its := ⟨_, g3, rfl, k, rfl⟩
    unfold Builtin.«set.__init__» noKeywords Builtin.Frozenset.updateFrom
    generalize hI : pyIter = IT
    wp_walk
    subst hI
    refine wpAny_pyIter_list g4 (wpAny_bind (wpAny_runValue ?_))
    have lt : l < s.heap.objs.size := Heap.lt_size g2
    have n1 : (s.heap.push (nuSet w)).objs.size = s.heap.objs.size + 1 := Heap.size_push ..
    have n2 : l ≠ (s.heap.push (nuSet w)).objs.size := by rw [n1]; exact Nat.ne_of_lt (Nat.lt_succ_of_lt lt)
    have n3 : s.heap.objs.size ∉ [(s.heap.push (nuSet w)).objs.size, l] := by
      rw [n1]; simp only [List.mem_cons, List.not_mem_nil, or_false, not_or]; exact ⟨Nat.ne_of_lt (Nat.lt_succ_self _), Nat.ne_of_gt lt⟩
    have at_ : ∀ (i : Nat) (v : Value), its[i]? = some v → ∃ z u, ns[i]? = some z ∧ v = .int z u := fun i v hv => by
      have b : i < ns.length := sz ▸ (Array.getElem?_eq_some_iff.mp hv).1
      obtain ⟨u, e⟩ := PyProof.Rows.IntsAre.int_at ia i v (by rw [Array.getElem?_toList]; exact hv)
      have q : ns[i]? = some ns[i] := List.getElem?_eq_getElem b
      exact ⟨ns[i], u, q, by rw [e, List.getD_eq_getElem?_getD, q]; rfl⟩
    have nh3 : A.in1.in1.in1.handled = none := by simp [nh]
    refine set_update_ints (Walks.list nh3 _ l n2 its).toS s.heap.objs.size n3 ns sz few at_ (its.size - 0) 0 _ (by omega) (Nat.zero_le _) ⟨⟨_, Heap.get?_push_size _ rfl, rfl, rfl⟩, g4.push _⟩ ⟨0, Nat.le_refl 0, setR_new_at (Heap.get?_push_of_some _ g0)⟩ ?_
    rintro ⟨h2, q2, r2, tk2, o2⟩ c mv cl R
    obtain rfl : q2 = s.gens := mv.gens
    obtain rfl : r2 = s.drawn := mv.drawn
    obtain rfl : o2 = s.os := mv.os
    show wpAny _ _ _ _ _ _
    refine wpAny_pure ?_
    show wpAny _ _ (ret Value.none) _ _ _
    refine wpAny_pure ⟨rfl, h2, tk2, c, rfl, R, sz ▸ cl, fun b o e => ?_⟩
    have lb : b < s.heap.objs.size := Heap.lt_size e
    refine mv.heap b o ?_ (Heap.get?_push_of_some _ (Heap.get?_push_of_some _ e))
    rw [n1]; simp only [List.mem_cons, List.not_mem_nil, or_false, not_or]; exact ⟨Nat.ne_of_lt lb, Nat.ne_of_lt (Nat.lt_succ_of_lt lb)⟩
  · rcases r with e | (_ | _ | z | _)
    all_goals first | exact hr | exact hr.elim | skip
    obtain ⟨rfl, M⟩ := hr
    repeat (any_goals (first | assumption | wp_step))
    exact fin _ M
end
section
variable {X : Cx}
/-- set(xs) of whole numbers -/
def rSetI (K : PySem.W.Frag) (w : World) : List V → Hp → VK → Prop := fun vs H Q => ∃ (l : Addr) (ns : List Int), vs = [.ref l] ∧ SqL K H l (ns.map V.int) ∧ ns.length ≤ 1000 ∧ ∀ a n, H a = none → n ≤ ns.length → Q (.ref a) (upd H a (SetO w a (fun j => decide (j ∈ ns)) n))
theorem call_setI (hc : X.calm = true) : CallR X (.type "set") (rSetI X.K X.w) := by
  intro pins s σ H vs us Q I r h
  obtain ⟨l, ns, rfl, hl, few, q⟩ := h
  obtain rfl := Vals.ref1 r
  obtain ⟨its, rv, pl, _⟩ := I.list hl
  refine set_of_list ns (I.ok.hd hc) pl.isList (by simpa using rv.ints) (by unfold scanBound; omega) ?_
  rintro _ ⟨h2, tk, c, rfl, R, cl, k⟩
  exact ⟨.ref s.heap.objs.size, upd H s.heap.objs.size (SetO X.w s.heap.objs.size (fun j => decide (j ∈ ns)) c), I.laid (t' := tk) k (Nat.le_refl _) (setO_new R), rfl, q _ _ (I.hok.fresh (Nat.le_refl _)) cl⟩
/-- a set's name stands for its numbers: sorted(set(ns)) -/
theorem sorted_setI {w : World} {H : Hp} {a : Addr} {ns : List Int} {n : Nat} {Q : VK} (hn : n < 64) (q : ∀ (ms : List Int) (p : Addr), ms.Pairwise (· < ·) → (∀ k, k ∈ ms ↔ k ∈ ns) → H p = none → Q (.ref p) (upd H p (.lst (ms.map V.int)))) (ha : H a = some (SetO w a (fun j => decide (j ∈ ns)) n)) :
    rSortedSet w [.ref a] H Q := ⟨a, _, n, rfl, ha, hn, fun ms p so mem _ hp => q ms p so (fun k => by rw [mem k]; exact decide_eq_true_iff) hp⟩
end
end My
set_option Elab.async false
set_option maxRecDepth 100000
set_option maxHeartbeats 800000
namespace My
open PySem L2 TL
theorem iteB {c : Bool} {A B : Prop} (e : c = true) (h : A) : if c = true then A else B := by rw [if_pos e]; exact h
theorem iteN {c : Bool} {A B : Prop} (e : c = true) (h : B) : if (!c) = true then A else B := by rw [e]; exact iteF h
theorem iteM {c : Bool} {A B : Prop} (h1 : c = false → A) (h2 : c = true → B) : if (!c) = true then A else B := by
  cases c with
  | false => exact iteT (h1 rfl)
  | true => exact iteF (h2 rfl)
/-- promises in the heap -/
def prV (p : PRO) : List V := (pn p).map V.int
def Prs (H : Hp) (rs : List Addr) (ps : List PRO) : Prop := Paired (fun r p => H r = some (.tup (prV p))) rs ps
theorem Prs.keep {H H' : Hp} {rs : List Addr} {ps : List PRO} (h : Prs H rs ps) (k : Keep [] H H') : Prs H' rs ps := Paired.mapP h fun _ _ x => k _ _ x (by simp)
theorem Prs.len {H : Hp} {rs : List Addr} {ps : List PRO} (h : Prs H rs ps) : rs.length = ps.length := Paired.length h
theorem Prs.snoc {H : Hp} {r : Addr} {p : PRO} (hr : H r = some (.tup (prV p))) : ∀ {rs : List Addr} {ps : List PRO}, Prs H rs ps → Prs H (rs ++ [r]) (ps ++ [p])
  | _, _, .nil => .cons hr .nil
  | _, _, .cons a t => .cons a (Prs.snoc hr t)
theorem Prs.keepL {H : Hp} {M : Addr} {o : HO} {ys : List V} {rs : List Addr} {ps : List PRO} (h : Prs H rs ps) (hM : H M = some (.lst ys)) : Prs (upd H M o) rs ps :=
  Paired.mapP h fun r p e => by
    rw [upd_ne (fun z => by rw [z, hM] at e; cases e)]; exact e
def stV (s : SO) (r : Addr) : List V := [.str "state", .int s.p, .int s.t, .int s.x, .int s.y, .ref r]
structure StAt (H : Hp) (a r : Addr) (rs : List Addr) (s : SO) : Prop where
  ha : H a = some (.tup (stV s r))
  hr : H r = some (.tup (rs.map V.ref))
  pr : Prs H rs s.ps
theorem StAt.keep {H H' : Hp} {a r : Addr} {rs : List Addr} {s : SO} (h : StAt H a r rs s) (k : Keep [] H H') : StAt H' a r rs s := ⟨k _ _ h.ha (by simp), k _ _ h.hr (by simp), h.pr.keep k⟩
/-! things of any kind, tuples within tuples, three deep -/
def BND : Int := 100000000000000000000000000000000000000000
/-- the parts of a tuple -/
def partsOf (H : Hp) : V → Option (List V)
  | .ref a => match H a with
    | some (.tup xs) => some xs
    | _ => none
  | _ => none
/-- a thing that isn't one of ds, its number not beyond the greatest -/
def D0 (ds : List Addr) (H : Hp) (v : V) : Prop := (∃ n, Thing H v n) ∧ ((∀ a, v = .ref a → a ∉ ds) ∧ ∀ xs, partsOf H v = some xs → xs.length ≤ 100) ∧ ∀ i, v = .int i → i ≤ BND
def Deep (F : Hp → V → Prop) (ds : List Addr) (H : Hp) (v : V) : Prop := D0 ds H v ∧ ∀ xs, partsOf H v = some xs → ∀ x ∈ xs, F H x
def D1 (ds : List Addr) : Hp → V → Prop := Deep (D0 ds) ds
def D2 (ds : List Addr) : Hp → V → Prop := Deep (D1 ds) ds
def D3 (ds : List Addr) : Hp → V → Prop := Deep (D2 ds) ds
section
variable {ds : List Addr} {H H' : Hp} {v : V} {F : Hp → V → Prop}
theorem parts_tup {a : Addr} {xs : List V} (h : H a = some (.tup xs)) : partsOf H (.ref a) = some xs := by show (match H a with | some (.tup xs) => some xs | _ => none) = _; rw [h]
theorem parts_of {xs : List V} (h : partsOf H v = some xs) : ∃ a, v = .ref a ∧ H a = some (.tup xs) := by
  cases v with
  | ref a =>
    refine ⟨a, rfl, ?_⟩
    have h : (match H a with | some (.tup xs) => some xs | _ => none) = some xs := h
    cases e : H a with
    | none => rw [e] at h; cases h
    | some o =>
      rw [e] at h
      cases o with
      | tup ys => cases h; rfl
      | _ => cases h
  | _ => cases h
theorem Thing.tracked {n : String} (h : Thing H v n) {a : Addr} (e : v = .ref a) : ∃ o, H a = some o := by
  cases h with
  | lst h => cases e; exact ⟨_, h⟩
  | tup h => cases e; exact ⟨_, h⟩
  | dct h => cases e; exact ⟨_, h⟩
  | _ => cases e
theorem Thing.keepD {n : String} (h : Thing H v n) (k : Keep ds H H') (nd : ∀ a, v = .ref a → a ∉ ds) : Thing H' v n := by
  cases h with
  | non => exact .non
  | bl b => exact .bl b
  | int i => exact .int i
  | str z h => exact .str z h
  | lst h => exact .lst (k _ _ h (nd _ rfl))
  | tup h => exact .tup (k _ _ h (nd _ rfl))
  | dct h => exact .dct (k _ _ h (nd _ rfl))
theorem D0.parts (h : D0 ds H v) (k : Keep ds H H') : partsOf H' v = partsOf H v := by
  obtain ⟨⟨n, T⟩, nd, b⟩ := h
  cases v with
  | ref a =>
    obtain ⟨o, e⟩ := T.tracked rfl
    show (match H' a with | some (.tup xs) => some xs | _ => none) = (match H a with | some (.tup xs) => some xs | _ => none)
    rw [k _ _ e (nd.1 a rfl), e]
  | _ => rfl
theorem D0.keep (h : D0 ds H v) (k : Keep ds H H') : D0 ds H' v := by
  have e := h.parts k
  obtain ⟨⟨n, T⟩, ⟨nd, nl⟩, b⟩ := h
  exact ⟨⟨n, T.keepD k nd⟩, ⟨nd, fun xs z => nl xs (by rw [← e]; exact z)⟩, b⟩
theorem Deep.keep (hF : ∀ x, F H x → F H' x) (h : Deep F ds H v) (k : Keep ds H H') : Deep F ds H' v :=
  ⟨h.1.keep k, fun xs e x hx => hF x (h.2 xs (by rw [h.1.parts k] at e; exact e) x hx)⟩
theorem D1.keep (h : D1 ds H v) (k : Keep ds H H') : D1 ds H' v := Deep.keep (fun _ g => D0.keep g k) h k
theorem D2.keep (h : D2 ds H v) (k : Keep ds H H') : D2 ds H' v := Deep.keep (fun _ g => D1.keep g k) h k
theorem D3.keep (h : D3 ds H v) (k : Keep ds H H') : D3 ds H' v := Deep.keep (fun _ g => D2.keep g k) h k
end
/-! what they are -/
def numV : V → Int
  | .int i => i
  | _ => 0
def isPr (H : Hp) (v : V) : Bool :=
  match partsOf H v with
  | some [m, s, h, b, u] => geV 1 m && (prtV s && (rngV 1 1000000000 h && (rngV 0 1000000000000000000000000000000 b && geV 0 u)))
  | _ => false
def firstOf (H : Hp) (v : V) : Int :=
  match partsOf H v with
  | some (m :: _) => numV m
  | _ => 0
def thirdOf (H : Hp) (v : V) : Int :=
  match partsOf H v with
  | some (_ :: _ :: h :: _) => numV h
  | _ => 0
def upB (l : List Int) : Bool := decide (l.Pairwise (· < ·))
def arePs (H : Hp) (v : V) : Bool :=
  match partsOf H v with
  | some qs => decide (qs.length ≤ 4) && (qs.all (isPr H) && upB (qs.map (firstOf H)))
  | none => false
def isSt (H : Hp) (v : V) : Bool :=
  match partsOf H v with
  | some [w, p, t, x, y, ps] => decide (w = .str "state") && (geV 1 p && (geV 0 t && (rngV 0 10000000000 x && (rngV 0 10000000000 y && arePs H ps))))
  | _ => false
section
variable {ds : List Addr} {H H' : Hp} {v : V}
theorem isPr_keep (h : D0 ds H v) (k : Keep ds H H') : isPr H' v = isPr H v := by unfold isPr; rw [h.parts k]
theorem first_keep (h : D0 ds H v) (k : Keep ds H H') : firstOf H' v = firstOf H v := by unfold firstOf; rw [h.parts k]
theorem third_keep (h : D0 ds H v) (k : Keep ds H H') : thirdOf H' v = thirdOf H v := by unfold thirdOf; rw [h.parts k]
theorem arePs_keep (h : D2 ds H v) (k : Keep ds H H') : arePs H' v = arePs H v := by
  unfold arePs
  rw [h.1.parts k]
  cases e : partsOf H v with
  | none => rfl
  | some qs =>
    have hq := h.2 qs e
    have e1 : qs.all (isPr H') = qs.all (isPr H) := by
      rw [Bool.eq_iff_iff, List.all_eq_true, List.all_eq_true]
      exact ⟨fun g x hx => by rw [← isPr_keep (hq x hx).1 k]; exact g x hx, fun g x hx => by rw [isPr_keep (hq x hx).1 k]; exact g x hx⟩
    have e2 : qs.map (firstOf H') = qs.map (firstOf H) := List.map_congr_left fun x hx => first_keep (hq x hx).1 k
    show (decide (qs.length ≤ 4) && (qs.all (isPr H') && upB (qs.map (firstOf H')))) = _
    rw [e1, e2]
theorem isSt_keep (h : D3 ds H v) (k : Keep ds H H') : isSt H' v = isSt H v := by
  unfold isSt
  rw [h.1.parts k]
  match e : partsOf H v with
  | some [w, p, t, x, y, ps] =>
    have := h.2 _ e ps (by simp)
    show (_ && (_ && (_ && (_ && (_ && arePs H' ps))))) = _
    rw [arePs_keep this k]
  | none => rfl
  | some [] => rfl
  | some [_] => rfl
  | some [_, _] => rfl
  | some [_, _, _] => rfl
  | some [_, _, _, _] => rfl
  | some [_, _, _, _, _] => rfl
  | some (_ :: _ :: _ :: _ :: _ :: _ :: _ :: _) => rfl
end
section
variable {K : PySem.W.Frag}
theorem isi_tup {H : Hp} {v : V} {n : String} (h : Thing H v n) : ∃ b, PySem.W.kitOne K (.type n) (.type "tuple") = some b ∧ ((∃ a xs, v = .ref a ∧ H a = some (.tup xs) ∧ b = true) ∨ (partsOf H v = none ∧ b = false)) := by
  cases h with
  | non => exact ⟨false, kit_ty (by decide +kernel), .inr ⟨rfl, rfl⟩⟩
  | bl b => exact ⟨false, kit_ty (by decide +kernel), .inr ⟨rfl, rfl⟩⟩
  | int i => exact ⟨false, kit_ty (by decide +kernel), .inr ⟨rfl, rfl⟩⟩
  | str z h => exact ⟨false, kit_ty (by decide +kernel), .inr ⟨rfl, rfl⟩⟩
  | @lst a xs h => exact ⟨false, kit_ty (by decide +kernel), .inr ⟨by show (match H a with | some (.tup xs) => some xs | _ => none) = _; rw [h], rfl⟩⟩
  | tup h => exact ⟨true, kit_ty (by decide +kernel), .inl ⟨_, _, rfl, h, rfl⟩⟩
  | @dct a kvs h => exact ⟨false, kit_ty (by decide +kernel), .inr ⟨by show (match H a with | some (.tup xs) => some xs | _ => none) = _; rw [h], rfl⟩⟩
theorem isi_str {H : Hp} {v : V} {n : String} (h : Thing H v n) : ∃ b, PySem.W.kitOne K (.type n) (.type "str") = some b ∧ ((∃ z, v = .str z ∧ z.length ≤ sizeLine ∧ b = true) ∨ ((∀ z, v ≠ .str z) ∧ b = false)) := by
  cases h with
  | non => exact ⟨false, kit_ty (by decide +kernel), .inr ⟨by simp, rfl⟩⟩
  | bl b => exact ⟨false, kit_ty (by decide +kernel), .inr ⟨by simp, rfl⟩⟩
  | int i => exact ⟨false, kit_ty (by decide +kernel), .inr ⟨by simp, rfl⟩⟩
  | str z h => exact ⟨true, kit_ty (by decide +kernel), .inl ⟨_, rfl, h, rfl⟩⟩
  | lst h => exact ⟨false, kit_ty (by decide +kernel), .inr ⟨by simp, rfl⟩⟩
  | tup h => exact ⟨false, kit_ty (by decide +kernel), .inr ⟨by simp, rfl⟩⟩
  | dct h => exact ⟨false, kit_ty (by decide +kernel), .inr ⟨by simp, rfl⟩⟩
end
end My
set_option Elab.async false
set_option maxRecDepth 100000
set_option maxHeartbeats 800000
namespace My
open PySem L2 TL
/-! lists of numbers as data -/
def dint (l : List Int) : List PyData := l.map PyData.int
theorem dpAll_int {K : PySem.W.Frag} {H : Hp} : ∀ l : List Int, DpAll K H (l.map V.int) (dint l)
  | [] => .nil
  | i :: r => .cons (.int i) (dpAll_int r)
theorem eqvAll_int : ∀ l m : List Int, PyData.eqvAll (dint l) (dint m) = decide (l = m)
  | [], [] => by simp [dint, PyData.eqvAll]
  | [], _ :: _ => by simp [dint, PyData.eqvAll]
  | _ :: _, [] => by simp [dint, PyData.eqvAll]
  | i :: l, j :: m => by
    have ih := eqvAll_int l m
    unfold dint at ih ⊢
    rw [List.map_cons, List.map_cons, PyData.eqvAll, ih, PyData.eqv]
    by_cases h : i = j
    · subst h; simp
    · have : (i == j) = false := beq_eq_false_iff_ne.mpr h
      rw [this]; simp [h]
theorem eqv_int (l m : List Int) : PyData.eqv (.list (dint l)) (.list (dint m)) = decide (l = m) := by rw [PyData.eqv]; exact eqvAll_int l m
theorem can_int : ∀ l : List Int, PyData.canLayAll0 (dint l) = true ∧ PyData.depthAll (dint l) = 0
  | [] => by simp [dint, PyData.canLayAll0, PyData.depthAll]
  | i :: r => by
    have ih := can_int r
    unfold dint at ih ⊢
    rw [List.map_cons, PyData.canLayAll0, PyData.depthAll, ih.1, ih.2]
    simp [PyData.canLay0, PyData.depth]
theorem shaped_int (l : List Int) : SeqAt.shaped (.list (dint l)) = true := by
  unfold SeqAt.shaped
  rw [PyData.canLay0, PyData.depth, (can_int l).1, (can_int l).2]; rfl
theorem Dp_int {K : PySem.W.Frag} {H : Hp} {a : Addr} {l : List Int} (h : SqL K H a (l.map V.int)) : Dp K H (.ref a) (.list (dint l)) := .lst h (dpAll_int l)
theorem rising_eq : ∀ {l m : List Int}, l.Pairwise (· < ·) → m.Pairwise (· < ·) → (∀ k, k ∈ l ↔ k ∈ m) → l = m := by
  intro l m hl hm h
  refine List.Perm.eq_of_pairwise (le := (· < ·)) (fun a b _ _ h1 h2 => by omega) hl hm ?_
  exact (List.perm_ext_iff_of_nodup (hl.imp fun h => Int.ne_of_lt h) (hm.imp fun h => Int.ne_of_lt h)).mpr h
/-- marks == sorted(set(marks)) -/
theorem upB_eq {l m : List Int} (hm : m.Pairwise (· < ·)) (h : ∀ k, k ∈ m ↔ k ∈ l) : decide (l = m) = upB l := by
  unfold upB
  by_cases e : l = m
  · rw [decide_eq_true e, decide_eq_true (e ▸ hm)]
  · rw [decide_eq_false e, decide_eq_false fun z => e (rising_eq z hm fun k => (h k).symm)]
theorem int_ne {i k : Int} (h : i ≠ k) : decide (V.int i = V.int k) = false := decide_eq_false fun z => h (by injection z)
section
variable {P : Program} {w : World} {K : PySem.W.Frag} {mg : Str → Option Value} {base : Heap}
theorem noArg {σ : L2.St} {H : Hp} {F : List V → Hp → Prop} (h : F [] H) : tNil σ H F := h
theorem k0 {H H1 : Hp} {ds : List Addr} (k : Keep [] H H1) : Keep ds H H1 := k.mono (by simp)
theorem pr_eq {H : Hp} {a : Addr} {m s h b u : V} (ha : H a = some (.tup [m, s, h, b, u])) : isPr H (.ref a) = (geV 1 m && (prtV s && (rngV 1 1000000000 h && (rngV 0 1000000000000000000000000000000 b && geV 0 u)))) := by unfold isPr; rw [parts_tup ha]
theorem pr_none {H : Hp} {v : V} (h : partsOf H v = none) : isPr H v = false := by unfold isPr; rw [h]
theorem pr_len {H : Hp} {a : Addr} {xs : List V} (ha : H a = some (.tup xs)) (h : xs.length ≠ 5) : isPr H (.ref a) = false := by
  unfold isPr
  rw [parts_tup ha]
  match xs, h with
  | [], _ => rfl
  | [_], _ => rfl
  | [_, _], _ => rfl
  | [_, _, _], _ => rfl
  | [_, _, _, _], _ => rfl
  | [_, _, _, _, _], h => exact absurd rfl h
  | _ :: _ :: _ :: _ :: _ :: _ :: _, _ => rfl
theorem five_of {xs : List V} (h : xs.length = 5) : ∃ m s k b u, xs = [m, s, k, b, u] := by
  match xs, h with
  | [m, s, k, b, u], _ => exact ⟨m, s, k, b, u, rfl⟩
theorem six_of {xs : List V} (h : xs.length = 6) : ∃ m s k b u y, xs = [m, s, k, b, u, y] := by
  match xs, h with
  | [m, s, k, b, u, y], _ => exact ⟨m, s, k, b, u, y, rfl⟩
def sp_isPr : Sp := fun vs H Q _ => ∃ v ds, vs = [v] ∧ D1 ds H v ∧ ∀ H', Keep [] H H' → Q (.bl (isPr H v)) H'
theorem p_is_promise (T : Txt K mg) : Pr P w K mg base "is_promise" s_is_promise ["thing"] 4 sp_isPr := by
  obtain ⟨f, fd, D⟩ := T.d_is_promise
  obtain ⟨f_is_count, fd_is_count, D_is_count, G_is_count⟩ := p_is_count (P := P) (w := w) (base := base) T; obtain ⟨f_is_party, fd_is_party, D_is_party, G_is_party⟩ := p_is_party (P := P) (w := w) (base := base) T; obtain ⟨f_is_amount, fd_is_amount, D_is_amount, G_is_amount⟩ := p_is_amount (P := P) (w := w) (base := base) T; obtain ⟨f_is_digest, fd_is_digest, D_is_digest, G_is_digest⟩ := p_is_digest (P := P) (w := w) (base := base) T; obtain ⟨f_is_time, fd_is_time, D_is_time, G_is_time⟩ := p_is_time (P := P) (w := w) (base := base) T
  refine ⟨f, fd, D, D.F.ok sc_is_promise (fun vs H Q E h => ?_) (fun cdv A outer s H vs Q E hr h => ?_)⟩
  · obtain ⟨a, p, rfl, _⟩ := h; rfl
  · obtain ⟨v, ds, rfl, ⟨⟨⟨n, Tv⟩, nd, bn⟩, hx⟩, q⟩ := h
    refine ⟨_, (pss_cons (ps_if (PW.pt (pw_or (pt_not (pt_val (pe_callB call_isi (by rfl) T.z_isinstance (by decide +kernel) (pa_cons (pv 0) (pa_cons (pe_bltn (by rfl) T.z_tuple (by decide +kernel) (v := .ty "tuple") rfl) pa_nil))))) (pw_or1 (pt_cmpR op_ne (pe_callB call_len_seq (by rfl) T.z_len (by decide +kernel) (pa_cons (pv 0) pa_nil)) pe_int (nomark _))))) (pss_one (ps_ret pe_bl)) pss_nil)
      (pss_cons (ps_asg (pv 0) (pg_tup rfl (pgs_cons (pg_name (i := 1) sc_is_promise.nd rfl (Or.inl rfl)) (pgs_cons (pg_name (i := 2) sc_is_promise.nd rfl (Or.inl rfl)) (pgs_cons (pg_name (i := 3) sc_is_promise.nd rfl (Or.inl rfl)) (pgs_cons (pg_name (i := 4) sc_is_promise.nd rfl (Or.inl rfl)) (pgs_cons (pg_name (i := 5) sc_is_promise.nd rfl (Or.inl rfl)) pgs_nil)))))))
      (pss_one (ps_ret (pe_and (pe_call G_is_count (hr.mono (by decide)) rfl D_is_count.m D_is_count.F.kp D_is_count.b .nil pass0 (pa_cons (pv 1) pa_nil)) (pe_and (pe_call G_is_party (hr.mono (by decide)) rfl D_is_party.m D_is_party.F.kp D_is_party.b .nil pass0 (pa_cons (pv 2) pa_nil)) (pe_and (pe_call G_is_amount (hr.mono (by decide)) rfl D_is_amount.m D_is_amount.F.kp D_is_amount.b .nil pass0 (pa_cons (pv 3) pa_nil)) (pe_and (pe_call G_is_digest (hr.mono (by decide)) rfl D_is_digest.m D_is_digest.F.kp D_is_digest.b .nil pass0 (pa_cons (pv 4) pa_nil)) (pe_one (pe_call G_is_time (hr.mono (by decide)) rfl D_is_time.m D_is_time.F.kp D_is_time.b .nil pass0 (pa_cons (pv 5) pa_nil))))))))))), ?_⟩
    obtain ⟨b, eb, hb⟩ := isi_tup (K := K) Tv
    refine ⟨_, rfl, v, _, _, _, b, rfl, .ty _, Tv.ty, eb, _, rfl, ?_⟩
    rcases hb with ⟨a, xs, rfl, ha, rfl⟩ | ⟨hn, rfl⟩
    rotate_left
    · refine iteT ?_
      rw [pr_none hn] at q
      exact q _ Keep.refl
    refine iteF ?_
    by_cases h5 : xs.length = 5
    rotate_left
    · refine ⟨_, rfl, a, _, rfl, .inr (SqT.of ha), rfl, true, ?_, iteT ?_⟩
      · rw [int_ne (by omega)]; rfl
      · rw [pr_len ha h5] at q
        exact q _ Keep.refl
    obtain ⟨m, y, k, l, u, rfl⟩ := five_of h5
    refine ⟨_, rfl, a, _, rfl, .inr (SqT.of ha), rfl, false, rfl, iteF ?_⟩
    rw [pr_eq ha] at q
    have DD : ∀ x ∈ [m, y, k, l, u], ∃ n, Thing H x n := fun x hm => (hx _ (parts_tup ha) x hm).1
    obtain ⟨n1, T1⟩ := DD m (by simp)
    obtain ⟨n2, T2⟩ := DD y (by simp)
    obtain ⟨n3, T3⟩ := DD k (by simp)
    obtain ⟨n4, T4⟩ := DD l (by simp)
    obtain ⟨n5, T5⟩ := DD u (by simp)
    refine ⟨_, rfl, a, _, rfl, SqT.of ha, rfl, _, _, rfl, _, _, rfl, _, _, rfl, _, _, rfl, _, _, rfl, rfl, ?_⟩
    refine ⟨_, rfl, _, _, rfl, T1, fun H1 K1 => ⟨_, rfl, ite2 (fun e => ?_) (fun e => ?_)⟩⟩
    rotate_left
    · rw [Bool.eq_false_iff.mpr e] at q; exact q _ K1
    rw [e] at q
    refine ⟨_, rfl, _, _, rfl, T2.keepD K1 (by simp), fun H2 K2 => ⟨_, rfl, ite2 (fun e => ?_) (fun e => ?_)⟩⟩
    rotate_left
    · rw [Bool.eq_false_iff.mpr e] at q; exact q _ (K1.trans K2)
    rw [e] at q
    have K12 := K1.trans K2
    refine ⟨_, rfl, _, _, rfl, T3.keepD K12 (by simp), fun H3 K3 => ⟨_, rfl, ite2 (fun e => ?_) (fun e => ?_)⟩⟩
    rotate_left
    · rw [Bool.eq_false_iff.mpr e] at q; exact q _ (K12.trans K3)
    rw [e] at q
    have K13 := K12.trans K3
    refine ⟨_, rfl, _, _, rfl, T4.keepD K13 (by simp), fun H4 K4 => ⟨_, rfl, ite2 (fun e => ?_) (fun e => ?_)⟩⟩
    rotate_left
    · rw [Bool.eq_false_iff.mpr e] at q; exact q _ (K13.trans K4)
    rw [e] at q
    have K14 := K13.trans K4
    exact ⟨_, rfl, _, _, rfl, T5.keepD K14 (by simp), fun H5 K5 => q _ (K14.trans K5)⟩
theorem arePs_eq {H : Hp} {a : Addr} {qs : List V} (ha : H a = some (.tup qs)) : arePs H (.ref a) = (decide (qs.length ≤ 4) && (qs.all (isPr H) && upB (qs.map (firstOf H)))) := by unfold arePs; rw [parts_tup ha]
theorem arePs_none {H : Hp} {v : V} (h : partsOf H v = none) : arePs H v = false := by unfold arePs; rw [h]
theorem pr_tup {H : Hp} {v : V} (h : isPr H v = true) : ∃ a m y k l u, v = .ref a ∧ H a = some (.tup [.int m, y, .int k, l, u]) ∧ firstOf H v = m ∧ thirdOf H v = k := by
  cases e : partsOf H v with
  | none => rw [pr_none e] at h; cases h
  | some xs =>
    obtain ⟨a, rfl, ha⟩ := parts_of e
    by_cases h5 : xs.length = 5
    · obtain ⟨m, y, k, l, u, rfl⟩ := five_of h5
      rw [pr_eq ha] at h
      simp only [Bool.and_eq_true] at h
      obtain ⟨h1, h2, h3, _⟩ := h
      obtain ⟨i, rfl⟩ : ∃ i, m = .int i := by cases m <;> first | exact ⟨_, rfl⟩ | cases h1
      obtain ⟨j, rfl⟩ : ∃ j, k = .int j := by cases k <;> first | exact ⟨_, rfl⟩ | cases h3
      exact ⟨a, i, y, j, l, u, rfl, ha, by unfold firstOf; rw [parts_tup ha]; rfl, by unfold thirdOf; rw [parts_tup ha]; rfl⟩
    · rw [pr_len ha h5] at h; cases h
def sp_arePs : Sp := fun vs H Q _ => ∃ v ds, vs = [v] ∧ D2 ds H v ∧ ∀ H', Keep [] H H' → Q (.bl (arePs H v)) H'
theorem p__are_promises (T : Txt K mg) : Pr P w K mg base "_are_promises" s__are_promises ["thing"] 5 sp_arePs := by
  obtain ⟨f, fd, D⟩ := T.d__are_promises
  obtain ⟨f_is_promise, fd_is_promise, D_is_promise, G_is_promise⟩ := p_is_promise (P := P) (w := w) (base := base) T; obtain ⟨t_MOST_PROMISES, g_MOST_PROMISES⟩ := T.g_MOST_PROMISES
  refine ⟨f, fd, D, D.F.ok sc__are_promises (fun vs H Q E h => ?_) (fun cdv A outer s H vs Q E hr h => ?_)⟩
  · obtain ⟨a, b, rfl, _⟩ := h; rfl
  · obtain ⟨v, ds, rfl, ⟨⟨⟨n, Tv⟩, nd, bn⟩, hx⟩, q⟩ := h
    have hsl : sizeLine = 16777216 := sizeLine_eq
    refine ⟨_, (pss_cons (ps_if (PW.pt (pw_or (pt_not (pt_val (pe_callB call_isi (by rfl) T.z_isinstance (by decide +kernel) (pa_cons (pv 0) (pa_cons (pe_bltn (by rfl) T.z_tuple (by decide +kernel) (v := .ty "tuple") rfl) pa_nil))))) (pw_or1 (pt_cmpR op_gt (pe_callB call_len_seq (by rfl) T.z_len (by decide +kernel) (pa_cons (pv 0) pa_nil)) (pe_glob (v := .int 4) rfl g_MOST_PROMISES ⟨_, rfl⟩) (nomark _))))) (pss_one (ps_ret pe_bl)) pss_nil)
      (pss_cons (ps_if (pt_not (pt_val (pe_callB (cr_all rfl) (by rfl) T.z_all (by decide +kernel) (pa_cons (pe_lc (own := [("promise", 2)]) (g := gName 2) (tt := tYes) rfl sc__are_promises.nd (pi_tup (pv 0)) (blkOk_by (own := [("promise", 2)]) (N := N__are_promises) (sc := defScope s__are_promises) (by decide +kernel)) (fun _ _ _ _ _ => (pg_name (i := 2) sc__are_promises.nd rfl (Or.inl rfl))) (fun _ _ _ _ _ => pts_nil) (fun _ _ _ _ _ => (pe_call G_is_promise (hr.mono (by decide)) rfl D_is_promise.m D_is_promise.F.kp D_is_promise.b .nil pass0 (pa_cons (pv 2) pa_nil)))) pa_nil)))) (pss_one (ps_ret pe_bl)) pss_nil)
      (pss_cons (ps_setLc (i := 1) (own := [("promise", 2)]) (g := gName 2) (tt := tYes) rfl sc__are_promises.nd rfl rfl (sw_true rfl rfl rfl (by decide +kernel)) (pi_tup (pv 0)) (blkOk_by (own := [("promise", 2)]) (N := N__are_promises) (sc := defScope s__are_promises) (by decide +kernel)) (fun _ _ _ _ _ => (pg_name (i := 2) sc__are_promises.nd rfl (Or.inl rfl))) (fun _ _ _ _ _ => pts_nil) (fun _ _ _ _ _ => (pe_ix (ix_tupK (K := K) rfl) (pv 2) pe_int (fun _ _ => rfl))))
      (pss_one (ps_ret (pe_cmpR (op_eqD hr.units) (pv 1) (pe_callB (cr_sortedSet rfl) (by rfl) T.z_sorted (by decide +kernel) (pa_cons (pe_callTy (call_setI rfl) (by rfl) T.z_set (by decide +kernel) (pa_cons (pv 1) pa_nil)) pa_nil)) (nomark _))))))), ?_⟩
    obtain ⟨b, eb, hb⟩ := isi_tup (K := K) Tv
    refine ⟨_, rfl, v, _, _, _, b, rfl, .ty _, Tv.ty, eb, _, rfl, ?_⟩
    rcases hb with ⟨a, qs, rfl, ha, rfl⟩ | ⟨hn, rfl⟩
    rotate_left
    · refine iteT ?_
      rw [arePs_none hn] at q
      exact q _ Keep.refl
    refine iteF ?_
    rw [arePs_eq ha] at q
    refine ⟨_, rfl, a, _, rfl, .inr (SqT.of ha), _, _, rfl, rfl, _, rfl, ?_⟩
    by_cases l4 : qs.length ≤ 4
    rotate_left
    · rw [decide_eq_true (show (4 : Int) < (qs.length : Nat) by omega)]
      rw [decide_eq_false l4] at q
      exact iteT (q _ Keep.refl)
    rw [decide_eq_false (show ¬ (4 : Int) < (qs.length : Nat) by omega)]
    rw [decide_eq_true l4] at q
    refine iteF ?_
    have DD : ∀ x ∈ qs, D1 ds H x := hx _ (parts_tup ha)
    refine ⟨_, rfl, a, rfl, ⟨_, SqT.of ha⟩, fun L hL => ?_⟩
    refine lc_tup (K := K) (a := a) (xs := qs) (fun i H6 => Keep [] H H6 ∧ H6 L = some (.lst (((qs.take i).map (isPr H)).map V.bl))) ⟨Keep.upd_new hL, upd_same⟩ (fun i H6 _ ⟨k, _⟩ => SqT.of (k _ _ ha (by simp))) ?_ ?_
    · rintro i x H6 hx6 ⟨K6, h6⟩
      have hm := List.mem_of_getElem? hx6
      refine ⟨rfl, tYes_go (yes ?_)⟩
      refine ⟨_, rfl, x, ds, rfl, (DD x hm).keep (k0 K6), fun H7 K7 => ?_⟩
      rw [isPr_keep (DD x hm).1 (k0 (ds := ds) K6)]
      refine ⟨_, K7 _ _ h6 (by simp), ?_, (K6.trans K7).trans_new hL, ?_⟩
      · rw [List.length_map, List.length_map, List.length_take]; omega
      · rw [upd_same, take_succ_of hx6, List.map_append, List.map_append]; rfl
    · rintro H6 ⟨K6, h6⟩
      refine ⟨L, _, rfl, SqL.of h6, _, rfl, ?_⟩
      rw [List.take_length]
      have ea : (qs.map (isPr H)).all id = qs.all (isPr H) := by rw [List.all_map]; rfl
      rw [ea]
      cases hall : qs.all (isPr H) with
      | false =>
        rw [hall] at q
        exact iteT (q _ K6)
      | true =>
      refine iteF ?_
      rw [hall] at q
      have ha6 := K6 _ _ ha (by simp)
      refine ⟨_, rfl, a, rfl, ⟨_, SqT.of ha6⟩, fun M hM => ?_⟩
      refine lc_tup (K := K) (a := a) (xs := qs) (fun i H7 => Keep [] H6 H7 ∧ H7 M = some (.lst (((qs.take i).map (firstOf H)).map V.int))) ⟨Keep.upd_new hM, upd_same⟩ (fun i H7 _ ⟨k, _⟩ => SqT.of (k _ _ ha6 (by simp))) ?_ ?_
      · rintro i x H7 hx7 ⟨K7, h7⟩
        have hm := List.mem_of_getElem? hx7
        obtain ⟨c, m, y, k, l, u, rfl, hc, ef, _⟩ := pr_tup (List.all_eq_true.mp hall x hm)
        refine ⟨rfl, tYes_go (yes ?_)⟩
        have hc7 := (K6.trans K7) _ _ hc (by simp)
        refine ⟨_, rfl, c, _, 0, .int m, rfl, rfl, SqT.of hc7, rfl, _, h7, ?_, K7.trans_new hM, ?_⟩
        · rw [List.length_map, List.length_map, List.length_take]; omega
        · rw [upd_same, take_succ_of hx7, List.map_append, List.map_append, List.map_cons, ef]; rfl
      · rintro H7 ⟨K7, h7⟩
        rw [List.take_length] at h7
        have lm : (qs.map (firstOf H)).length = qs.length := List.length_map ..
        refine ⟨_, rfl, _, rfl, M, qs.map (firstOf H), rfl, SqL.of h7, by omega, fun S n hS hn => noArg ?_⟩
        refine sorted_setI (a := S) (ns := qs.map (firstOf H)) (n := n) (by omega) (fun ms N so mem hN => ?_) upd_same
        have hN : upd H7 S (SetO w S (fun j => decide (j ∈ qs.map (firstOf H))) n) N = none := hN
        have K8 := (Keep.upd_new (ds := []) hS (o := SetO w S (fun j => decide (j ∈ qs.map (firstOf H))) n)).trans (Keep.upd_new hN (o := .lst (ms.map V.int)))
        refine ⟨_, _, Dp_int (SqL.of (K8 _ _ h7 (by simp))), Dp_int (SqL.of upd_same), shaped_int _, shaped_int _, ?_⟩
        rw [eqv_int, upB_eq so mem]
        exact q _ ((K6.trans K7).trans K8)
end
end My
set_option Elab.async false
set_option maxRecDepth 100000
set_option maxHeartbeats 2000000
namespace My
open PySem PySem.Spec PyProof.Rows L2
/-! a caught exception that is kept behind its suite: it is tracked from the catch on -/
/-- a caught exception without fields of its own stands at p -/
def Caught (cls : Value) (p : Addr) : HO := .ext fun hp => ∃ (ob : Obj) (fs : Array Value), hp.get? p = some ob ∧ Zc cls none ob ∧ ob.data = .fields fs
section
variable {X : Cx} {pins : List (Addr × Obj)} {σ : L2.St} {H : Hp} {s : Shared}
/-- an untracked object that is new since the def's entry is tracked -/
theorem track {p : Addr} {ob : Obj} {fs : Array Value} {cls : Value} (I : Inv X pins σ H s) (hp : s.heap.get? p = some ob) (hz : Zc cls none ob) (hd : ob.data = .fields fs) (hn : H p = none)
    (h0 : X.s_0.heap.get? p = none) (nl : p ≠ X.env.locals) (np : ∀ y ∈ X.pn ++ pins, y.1 ≠ p) : Inv X pins σ (upd H p (Caught cls p)) s := by
  have other : ∀ {y : Addr} {u : Obj}, X.s_0.heap.get? y = some u → y ≠ p := fun e z => by rw [z, h0] at e; cases e
  have old : ∀ {y : Addr} {u : HO}, H y = some u → upd H p (Caught cls p) y = some u := fun e => by rw [upd_ne (ne_of_none e hn)]; exact e
  have nc : ∀ x c, X.env.cells.lookup x = some c → c ≠ p := fun x c e z => by
    obtain ⟨v, ou, hou, hdu⟩ := I.cell x c e
    rw [z, hp] at hou
    cases hou
    rw [hd] at hdu
    cases hdu
  constructor
  · exact I.ok
  · exact I.os
  · exact I.bare
  · constructor
    · exact I.base.keep
    · exact I.base.slot
    · intro y u e n m
      rw [upd_ne (other e)]
      exact I.base.free y u e n m
    · exact I.base.there
    · exact fun y xs e => old (I.base.tups y xs e)
    · exact fun y u xs e => old (I.base.frzs y u xs e)
    · intro y ps e
      obtain ⟨m, z⟩ := I.base.tbls y ps e
      exact ⟨m, old z⟩
  · exact I.loc
  · exact I.cell
  · rw [upd_ne (Ne.symm nl)]; exact I.free
  · intro x c e
    rw [upd_ne (nc x c e)]; exact I.freeC x c e
  · intro y hy
    obtain ⟨a1, a2, a3⟩ := I.pin y hy
    exact ⟨a1, by rw [upd_ne (np y hy)]; exact a2, a3⟩
  · intro y u e
    by_cases hy : y = p
    · subst hy
      rw [upd_same] at e
      cases e
      exact ⟨⟨ob, fs, hp, hz, hd⟩, ⟨ob, hp⟩, fun _ _ ⟨o1, f1, g1, g2⟩ k => ⟨o1, f1, k o1 g1, g2⟩⟩
    · rw [upd_ne hy] at e
      exact (I.hok y u e).stay (fun _ _ _ g => g) (fun _ g => old g) fun _ _ g => old g
  · exact I.len
/-- the suite's own context, nothing pinned anew -/
theorem inSuite (I : Inv X pins σ H s) (p : Addr) : Inv (X.suite p (X.pn ++ pins)) [] σ H s := by
  obtain ⟨a1, a2, a3, a4, a5, a6, a7, a8, a9, b1, b2⟩ := I
  exact ⟨a1.suite _ _, a2, a3, a4, a5, a6, a7, a8, fun y hy => a9 y (by rwa [List.append_nil] at hy), b1, b2⟩
theorem outSuite {p : Addr} {pn' : List (Addr × Obj)} (I : Inv (X.suite p (X.pn ++ pins)) pn' σ H s) (ok : X.Ok) : Inv X pins σ H s := by
  obtain ⟨_, a2, a3, a4, a5, a6, a7, a8, a9, b1, b2⟩ := I
  exact ⟨ok, a2, a3, a4, a5, a6, a7, a8, fun y hy => a9 y (List.mem_append_left _ hy), b1, b2⟩
end
/-- what the clause asks of an exception of the body: it is caught, and tracked from then on -/
def wKeep (K : PySem.W.Frag) (c : Value) (i : Nat) (ts : TS) (D : Ends) : WX := fun cls d σ H =>
  d = none ∧ PySem.W.exmOne K cls c = some true ∧ ∀ p, H p = none →
    ts { nx := fun σ' => D.nx (σ'.set i none), rt := D.rt, bk := fun σ' => D.bk (σ'.set i none), ct := fun σ' => D.ct (σ'.set i none) } (σ.set i (some (.ref p))) (upd H p (Caught cls p))
section
variable {X : Cx} {x n : Str} {c : Value} {i : Nat} {body suite : List Stmt} {b₀ : Stmt} {np pos pos' : Pos} {tb : WX → TS} {ts : TS}
theorem ps_try_keep (hs : X.stack = X.env :: X.outer) (hf : X.env.frame = some X.env.locals) (hex : X.ex = []) (hN : X.N.Nodup) (hi : X.N[i]? = some n) (hln : X.env.kindOf n = some .local) (hc : Names X x c)
    (hb : ∀ (W : WX) (pn : List (Addr × Obj)) (xe : Value → Shared → Prop), Takes (X.tr pn xe) W → PassesOwn (model X.prog X.w) X.A X.env xe → PSs (X.tr pn xe) body (tb W))
    (hsu : ∀ (p : Addr) (pn : List (Addr × Obj)), PSs (X.suite p pn) (b₀ :: suite) ts) :
    PS X (.Try body [.ExceptHandler (some (.Name x np)) (some n) (b₀ :: suite) pos'] [] [] pos) (fun D σ H => tb (wKeep X.K c i ts D) D σ H) := by
  constructor
  intro pins s σ H D I h
  have ok := I.ok
  have frames : X.A.frames = some (X.env :: X.outer) := ok.frames.trans (congrArg some hs)
  refine wpAny_Try_except ?_
  have run := hb (wKeep X.K c i ts D) (X.pn ++ pins) (fun u t0 => wpAny (model X.prog X.w) X.A (noteFrame u X.env) (fun _ t1 => wpAny (model X.prog X.w) X.A (setFlight u none)
    (fun _ t2 => wpAny (model X.prog X.w) X.A (handleBy u X.env [.ExceptHandler (some (.Name x np)) (some n) (b₀ :: suite) pos']) (SP X pins D) X.xe t2) X.xe t1) X.xe t0) ?caught PassesOwn.looking
  case caught =>
    rintro _ s' ⟨p, B, sI, pins', σ', H', cls, d, rfl, J0, ground, up, sky, na, os, ag, rfl, catches, go⟩
    have J : Inv X pins σ' H' sI := J0.ofTry ok
    refine Sky.land (x := show Sky B (X.env :: X.outer) p (Zc cls none) X.env.locals s'.heap from hs ▸ sky) Zc.steady frames hf ?_
    intro h3 fl3 up3
    obtain ⟨ob3, fs3, at3, z3, d3⟩ := fl3.there
    have I3 := J.landed (s' := { s' with heap := h3 }) ground fl3.1 (up.trans up3) os ag
    have offFrames : p ∉ frs (X.env :: X.outer) := fun hm => by
      obtain ⟨_, ou, hou, nofields⟩ := fl3.2.2.1.mem hm
      rw [at3] at hou
      cases hou
      exact nofields fs3 d3
    have nl : p ≠ X.env.locals := by
      rintro rfl
      exact offFrames (List.mem_filterMap.mpr ⟨X.env, List.mem_cons_self, hf⟩)
    have newI : sI.heap.get? p = none := by
      cases e : sI.heap.get? p with
      | none => rfl
      | some ou =>
        have z := ground p ou e (hs ▸ offFrames)
        rw [fl3.2.1] at z
        cases z
    have new0 : X.s_0.heap.get? p = none := by
      cases e : X.s_0.heap.get? p with
      | none => rfl
      | some ou =>
        obtain ⟨ou', z⟩ := J.base.there p ou e (by rw [hex]; exact List.not_mem_nil)
        rw [newI] at z
        cases z
    have npin : ∀ y ∈ X.pn ++ pins, y.1 ≠ p := fun y hy z => by
      have e := (J.pin y hy).1
      rw [z, newI] at e
      cases e
    have S3 := inSuite (track I3 at3 z3 d3 na new0 nl npin) p
    refine wpAny_handleBy_cons (codeAny_handlers_test ?_) (by intro z; cases z)
    have cl : PySem.W.Looks (model X.prog X.w) h3 (typeOf (.ref p)) cls := fun _ _ _ _ k q => wpAny_typeOf_ref (k _ _ at3) (z3.1.symm ▸ q)
    have matches' := PySem.W.exm_one (M := model X.prog X.w) I3.kIn cl catches
    have name : ∀ {Q : Value → Shared → Prop} {E : Value → Shared → Prop}, Q c { s' with heap := h3 } → wpAny (model X.prog X.w) (X.A.mark (some (.ref p))) (eval (.Name x np) X.env) Q E { s' with heap := h3 } := by
      intro Q E q
      rcases hc with ⟨g, db, m | ⟨m, bv, nn⟩⟩
      · exact ld_glob (X := X.suite p (X.pn ++ pins)) S3 g m q db
      · exact ld_blt (X := X.suite p (X.pn ++ pins)) S3 g m bv q nn db
    refine name (matches'.here (codeAny_handlers_suite_as (HandSPX.lands_againZ fl3 ?_)))
    intro h4 fl4 up4
    obtain ⟨ob4, fs4, at4, z4, d4⟩ := fl4.there
    have I4 := J.landed (s' := { s' with heap := h4 }) ground fl4.1 ((up.trans up3).trans up4) os ag
    have S4 := inSuite (track I4 at4 z4 d4 na new0 nl npin) p
    refine store_ok (X := X.suite p (X.pn ++ pins)) (v := .ref p) S4 hN hi (.inl hln) rfl ?_ (.inr hln)
    intro s5 S5
    refine wpAny_mono ((hsu p (X.pn ++ pins)).run [] s5 _ _ _ S5 (go p na)) ?_ (fun _ _ z => z.elim)
    intro f s6 hf6
    have gone : ∀ {σ6 : L2.St} {H6 : Hp} {Q : Shared → Prop}, Inv (X.suite p (X.pn ++ pins)) [] σ6 H6 s6 → (∀ s7, Inv X pins (σ6.set i none) H6 s7 → Q s7) →
        wpAny (model X.prog X.w) X.A (do bindName X.env n .none; unbindBehindTheSuite X.env n pos') (fun _ s7 => Q s7) X.xe s6 := fun S6 hq => gone_ok (outSuite S6 ok) hN hi hln hq
    cases f with
    | next => obtain ⟨σ6, H6, S6, q6⟩ := hf6; exact gone S6 fun s7 J7 => ⟨_, _, J7, q6⟩
    | brk => obtain ⟨σ6, H6, S6, q6⟩ := hf6; exact gone S6 fun s7 J7 => ⟨_, _, J7, q6⟩
    | cont => obtain ⟨σ6, H6, S6, q6⟩ := hf6; exact gone S6 fun s7 J7 => ⟨_, _, J7, q6⟩
    | ret u => obtain ⟨v6, σ6, H6, S6, r6, q6⟩ := hf6; exact gone S6 fun s7 J7 => ⟨_, _, _, J7, r6, q6⟩
  refine wpAny_mono (run.run [] s σ H D (I.toTry _) h) ?_ (fun _ _ z => z)
  intro f s1 hf1
  cases f with
  | next => obtain ⟨σ1, H1, J1, q1⟩ := hf1; exact wpAny_execs_nil ⟨σ1, H1, J1.ofTry ok, q1⟩
  | brk => obtain ⟨σ1, H1, J1, q1⟩ := hf1; exact ⟨σ1, H1, J1.ofTry ok, q1⟩
  | cont => obtain ⟨σ1, H1, J1, q1⟩ := hf1; exact ⟨σ1, H1, J1.ofTry ok, q1⟩
  | ret u => obtain ⟨v1, σ1, H1, J1, r1, q1⟩ := hf1; exact ⟨v1, σ1, H1, J1.ofTry ok, r1, q1⟩
end
/-- isinstance of a kept exception -/
def rIsK (K : PySem.W.Frag) (C : Addr) : List V → Hp → VK → Prop := fun xs H Q => ∃ (p : Addr) (y : V) (u : Value) (b : Bool), xs = [.ref p, y] ∧ H p = some (Caught (.ref C) p) ∧ ClsV y u ∧ PySem.W.kitOne K (.ref C) u = some b ∧ Q (.bl b) H
theorem call_isK {X : Cx} {C : Addr} (F : ExcC X.K C) : CallR X (.builtin "isinstance") (rIsK X.K C) := by
  intro pins s σ H xs us Q I r h
  obtain ⟨p, y, u, b, rfl, hp, hy, e, q⟩ := h
  obtain ⟨u1, u2, rfl, r1, r2⟩ := vals2 r
  have e2 := hy.eq r2
  subst e2
  cases (show u1 = Value.ref p from r1)
  obtain ⟨⟨⟨oc, od, oda, osl⟩, fs, at1, ⟨z1, z2⟩, d1⟩, _⟩ := (show ObjOk X.prog X.w H s.heap p (Caught (.ref C) p) from I.hok p _ hp)
  dsimp only at z1 z2 d1
  subst z1 z2 d1
  exact PySem.W.kia_one (PySem.W.handS_kitx_exc F.hg F.hk F.hs F.hd F.ha F.hn F.ht F.hm) I.kIn ⟨at1, rfl, rfl, trivial⟩ e (fun z => nomatch z) fun tk => ⟨.bl b, H, I.tok tk, rfl, q⟩
def rIsKT (K : PySem.W.Frag) (C : Addr) : List V → Hp → VK → Prop := fun xs H Q => ∃ (p t : Addr) (cs : List V) (us : List Value) (b : Bool), xs = [.ref p, .ref t] ∧ H p = some (Caught (.ref C) p) ∧ H t = some (.tup cs) ∧ Paired ClsV cs us ∧ PySem.W.kitAny K (.ref C) us = some b ∧ Q (.bl b) H
theorem call_isKT {X : Cx} {C : Addr} (F : ExcC X.K C) : CallR X (.builtin "isinstance") (rIsKT X.K C) := by
  intro pins s σ H xs us Q I r h
  obtain ⟨p, t, cs, ws, b, rfl, hp, ht, hy, e, q⟩ := h
  obtain ⟨u1, u2, rfl, r1, r2⟩ := vals2 r
  cases (show u1 = Value.ref p from r1)
  cases (show u2 = Value.ref t from r2)
  obtain ⟨⟨⟨oc, od, oda, osl⟩, fs, at1, ⟨z1, z2⟩, d1⟩, _⟩ := (show ObjOk X.prog X.w H s.heap p (Caught (.ref C) p) from I.hok p _ hp)
  dsimp only at z1 z2 d1
  subst z1 z2 d1
  obtain ⟨_, its, rv, ⟨tc, td, tdt, tsl⟩, at2, e1, n, e3⟩ := (show ObjOk X.prog X.w H s.heap t (.tup cs) from I.hok t _ ht)
  have e4 := ClsV.all hy rv
  subst e4
  simp only at e1 e3
  subst e1 e3
  exact PySem.W.kia_tup (PySem.W.handS_kitx_exc F.hg F.hk F.hs F.hd F.ha F.hn F.ht F.hm) I.kIn ⟨at1, rfl, rfl, trivial⟩ at2 e (fun z => nomatch z) fun tk => ⟨.bl b, H, I.tok tk, rfl, q⟩
/-- C(): an own exception class without its own __init__, made of nothing -/
theorem pmk_own0 {X : Cx} {C : Addr} {bs : List Value} {B nw ini : String} {x : Str} {p pos : Pos} (F : ExcBaseFacts B nw ini bs) (q : PySem.W.excIn X.K C bs nw = true) (gC : X.mg x = some (.ref C)) (kC : PySem.W.keepIn X.K (.ref C) = true) (r : Raises X (.ref C)) (hg : Gl X x)
    (hdb : (x == ("__debug__" : Str)) = false := by decide) : PMk X (.Call (.Name x p) [] [] pos) (fun _ H Q => Q (.ref C) none H) := by
  intro pins s σ H Q I h
  refine wpAny_Call_Name_kw (ld_glob I hg gC ?_ hdb)
  refine PySem.W.callWith_K0 I.kIn kC ?_
  obtain ⟨bm, N, nm, qn, b1, hdct, sn, sub, ab, col, dd, k0, k1, k2, k3, k5, mN, hC, hN, hni, T⟩ := exc_obj I.kIn q
  exact wpAny_call_exc_subT F T hC hN hni (fun h' e hm => mk_of I hm r h (I.hok.gone hm.new)) (Nat.zero_le _)
end My
set_option Elab.async false
set_option maxRecDepth 100000
set_option maxHeartbeats 800000
namespace My
open PySem L2 TL
/-- what the written part says of the errors' classes -/
structure ETx (K : PySem.W.Frag) (mg : Str → Option Value) (C Y S M : Addr) : Prop where
  gC : mg "NoState" = some (.ref C)
  gY : mg "YardError" = some (.ref Y)
  gS : mg "NoSeal" = some (.ref S)
  gM : mg "NoMove" = some (.ref M)
  zV : mg "ValueError" = none
  x : PySem.W.excIn K C [.type "ValueError", .type "Exception", .type "BaseException", .type "object"] "ValueError.__new__" = true
  kp : PySem.W.keepIn K (.ref C) = true
  b : PySem.W.subIn K (.ref C) (.type "BaseException") = some true
  t : PySem.W.typeIn K (.ref C) = some (.type "type")
  e : ExcC K C
  ex : PySem.W.exmOne K (.ref C) (.ref Y) = some true
  i1 : PySem.W.kitOne K (.ref C) (.ref C) = some true
  i2 : PySem.W.kitOne K (.ref C) (.type "ValueError") = some true
  i3 : PySem.W.kitAny K (.ref C) [.ref M, .ref S] = some false
def PrX (P : Program) (w : World) (K : PySem.W.Frag) (mg : Str → Option Value) (base : Heap) (x : Str) (st : Stmt) (ps : List Str) (k : Nat) (sp : Sp) : Prop :=
  ∃ (f : Addr) (fd : FuncData), DefAt K mg x st ps f fd ∧ FnOk P w K mg base (L2.CX P w) k f fd ps sp
section
variable {P : Program} {w : World} {K : PySem.W.Frag} {mg : Str → Option Value} {base : Heap}
theorem st_eq {H : Hp} {a : Addr} {m p t x y ps : V} (ha : H a = some (.tup [m, p, t, x, y, ps])) : isSt H (.ref a) = (decide (m = .str "state") && (geV 1 p && (geV 0 t && (rngV 0 10000000000 x && (rngV 0 10000000000 y && arePs H ps))))) := by unfold isSt; rw [parts_tup ha]
theorem st_none {H : Hp} {v : V} (h : partsOf H v = none) : isSt H v = false := by unfold isSt; rw [h]
theorem st_len {H : Hp} {a : Addr} {xs : List V} (ha : H a = some (.tup xs)) (h : xs.length ≠ 6) : isSt H (.ref a) = false := by
  unfold isSt
  rw [parts_tup ha]
  match xs, h with
  | [], _ => rfl
  | [_], _ => rfl
  | [_, _], _ => rfl
  | [_, _, _], _ => rfl
  | [_, _, _, _], _ => rfl
  | [_, _, _, _, _], _ => rfl
  | [_, _, _, _, _, _], h => exact absurd rfl h
  | _ :: _ :: _ :: _ :: _ :: _ :: _ :: _, _ => rfl
def sp_isSt : Sp := fun vs H Q _ => ∃ v ds, vs = [v] ∧ D3 ds H v ∧ ∀ H', Keep [] H H' → Q (.bl (isSt H v)) H'
theorem p_is_state (T : Txt K mg) : Pr P w K mg base "is_state" s_is_state ["thing"] 6 sp_isSt := by
  obtain ⟨f, fd, D⟩ := T.d_is_state
  obtain ⟨f__are_promises, fd__are_promises, D__are_promises, G__are_promises⟩ := p__are_promises (P := P) (w := w) (base := base) T; obtain ⟨f_is_whole, fd_is_whole, D_is_whole, G_is_whole⟩ := p_is_whole (P := P) (w := w) (base := base) T; obtain ⟨f_is_count, fd_is_count, D_is_count, G_is_count⟩ := p_is_count (P := P) (w := w) (base := base) T; obtain ⟨t_MOST_OF_ONE, g_MOST_OF_ONE⟩ := T.g_MOST_OF_ONE
  refine ⟨f, fd, D, D.F.ok sc_is_state (fun vs H Q E h => ?_) (fun cdv A outer s H vs Q E hr h => ?_)⟩
  · obtain ⟨a, b, rfl, _⟩ := h; rfl
  · obtain ⟨v, ds, rfl, ⟨⟨⟨n, Tv⟩, nd, bn⟩, hx⟩, q⟩ := h
    have hsl : sizeLine = 16777216 := sizeLine_eq
    refine ⟨_, (pss_cons (ps_if (PW.pt (pw_or (pt_not (pt_val (pe_callB call_isi (by rfl) T.z_isinstance (by decide +kernel) (pa_cons (pv 0) (pa_cons (pe_bltn (by rfl) T.z_tuple (by decide +kernel) (v := .ty "tuple") rfl) pa_nil))))) (pw_or1 (pt_cmpR op_ne (pe_callB call_len_seq (by rfl) T.z_len (by decide +kernel) (pa_cons (pv 0) pa_nil)) pe_int (nomark _))))) (pss_one (ps_ret pe_bl)) pss_nil)
      (pss_cons (ps_asg (pv 0) (pg_tup rfl (pgs_cons (pg_name (i := 1) sc_is_state.nd rfl (Or.inl rfl)) (pgs_cons (pg_name (i := 2) sc_is_state.nd rfl (Or.inl rfl)) (pgs_cons (pg_name (i := 3) sc_is_state.nd rfl (Or.inl rfl)) (pgs_cons (pg_name (i := 4) sc_is_state.nd rfl (Or.inl rfl)) (pgs_cons (pg_name (i := 5) sc_is_state.nd rfl (Or.inl rfl)) (pgs_cons (pg_name (i := 6) sc_is_state.nd rfl (Or.inl rfl)) pgs_nil))))))))
      (pss_cons (ps_if (PW.pt (pw_or (pt_cmpR (op_neStr hr.units) (pv 1) pe_str (nomark _)) (pw_or (pt_not (pt_val (pe_call G_is_count (hr.mono (by decide)) rfl D_is_count.m D_is_count.F.kp D_is_count.b .nil pass0 (pa_cons (pv 2) pa_nil)))) (pw_or1 (pt_not (pt_val (pe_call G_is_whole (hr.mono (by decide)) rfl D_is_whole.m D_is_whole.F.kp D_is_whole.b .nil pass0 (pa_cons (pv 3) pa_nil)))))))) (pss_one (ps_ret pe_bl)) pss_nil)
      (pss_cons (ps_if (pt_not (pt_val (pe_callB (cr_all rfl) (by rfl) T.z_all (by decide +kernel) (pa_cons (pe_lc (own := [("has", 7)]) (g := gName 7) (tt := tYes) rfl sc_is_state.nd (pi_tup (pe_tup (pa_cons (pv 4) (pa_cons (pv 5) pa_nil)))) (blkOk_by (own := [("has", 7)]) (N := N_is_state) (sc := defScope s_is_state) (by decide +kernel)) (fun _ _ _ _ _ => (pg_name (i := 7) sc_is_state.nd rfl (Or.inl rfl))) (fun _ _ _ _ _ => pts_nil) (fun _ _ _ _ _ => (pe_and (pe_call G_is_whole (hr.mono (by decide)) rfl D_is_whole.m D_is_whole.F.kp D_is_whole.b .nil pass0 (pa_cons (pv 7) pa_nil)) (pe_one (pe_cmpR op_le (pv 7) (pe_glob (v := .int 10000000000) rfl g_MOST_OF_ONE ⟨_, rfl⟩) (nomark _)))))) pa_nil)))) (pss_one (ps_ret pe_bl)) pss_nil)
      (pss_one (ps_ret (pe_call G__are_promises (hr.mono (by decide)) rfl D__are_promises.m D__are_promises.F.kp D__are_promises.b .nil pass0 (pa_cons (pv 6) pa_nil)))))))), ?_⟩
    obtain ⟨b, eb, hb⟩ := isi_tup (K := K) Tv
    refine ⟨_, rfl, v, _, _, _, b, rfl, .ty _, Tv.ty, eb, _, rfl, ?_⟩
    rcases hb with ⟨a, xs, rfl, ha, rfl⟩ | ⟨hn, rfl⟩
    rotate_left
    · refine iteT ?_
      rw [st_none hn] at q
      exact q _ Keep.refl
    refine iteF ?_
    by_cases h6 : xs.length = 6
    rotate_left
    · refine ⟨_, rfl, a, _, rfl, .inr (SqT.of ha), rfl, true, ?_, iteT ?_⟩
      · rw [int_ne (by omega)]; rfl
      · rw [st_len ha h6] at q
        exact q _ Keep.refl
    obtain ⟨m, p, t, x, y, ps, rfl⟩ := six_of h6
    refine ⟨_, rfl, a, _, rfl, .inr (SqT.of ha), rfl, false, rfl, iteF ?_⟩
    rw [st_eq ha] at q
    have DD : ∀ z ∈ [m, p, t, x, y, ps], D2 ds H z := fun z hm => hx _ (parts_tup ha) z hm
    obtain ⟨n1, T1⟩ := (DD m (by simp)).1.1
    obtain ⟨n2, T2⟩ := (DD p (by simp)).1.1
    obtain ⟨n3, T3⟩ := (DD t (by simp)).1.1
    obtain ⟨n4, T4⟩ := (DD x (by simp)).1.1
    obtain ⟨n5, T5⟩ := (DD y (by simp)).1.1
    have D6 := DD ps (by simp)
    refine ⟨_, rfl, a, _, rfl, SqT.of ha, rfl, _, _, rfl, _, _, rfl, _, _, rfl, _, _, rfl, _, _, rfl, _, _, rfl, rfl, ?_⟩
    refine ⟨_, rfl, n1, _, T1, rfl, _, rfl, iteM (fun e => ?_) (fun e => ?_)⟩
    · rw [e] at q; exact q _ Keep.refl
    rw [e] at q
    refine ⟨_, rfl, _, _, rfl, T2, fun H1 K1 => ⟨_, rfl, iteM (fun e => ?_) (fun e => ?_)⟩⟩
    · rw [e] at q; exact q _ K1
    rw [e] at q
    refine ⟨_, rfl, _, _, rfl, T3.keepD K1 (by simp), fun H2 K2 => ⟨_, rfl, iteM (fun e => ?_) (fun e => ?_)⟩⟩
    · rw [e] at q; exact q _ (K1.trans K2)
    rw [e] at q
    refine ⟨_, rfl, _, rfl, by show 2 ≤ sizeLine; decide, fun T' hT => ⟨T', rfl, ⟨_, SqT.of upd_same⟩, fun L hL => ?_⟩⟩
    have K3 : Keep [] H (upd H2 T' (.tup [x, y])) := (K1.trans K2).trans (Keep.upd_new hT)
    have hT3 : (upd H2 T' (.tup [x, y])) T' = some (.tup [x, y]) := upd_same
    generalize upd H2 T' (.tup [x, y]) = H3 at K3 hT3 hL
    have TT : ∀ z ∈ [x, y], ∃ n, Thing H3 z n := by
      intro z hz
      simp only [List.mem_cons, List.not_mem_nil, or_false] at hz
      rcases hz with rfl | rfl
      · exact ⟨_, T4.keepD K3 (by simp)⟩
      · exact ⟨_, T5.keepD K3 (by simp)⟩
    refine lc_tup (K := K) (a := T') (xs := [x, y]) (fun i H6 => Keep [] H3 H6 ∧ H6 L = some (.lst ((([x, y].take i).map (rngV 0 10000000000)).map V.bl))) ⟨Keep.upd_new hL, upd_same⟩ (fun i H6 _ ⟨k, _⟩ => SqT.of (k _ _ hT3 (by simp))) ?_ ?_
    · rintro i z H6 hz ⟨K6, h6⟩
      obtain ⟨nz, Tz⟩ := TT z (List.mem_of_getElem? hz)
      have fin : ∀ H7, Keep [] H6 H7 → ∃ acc, H7 L = some (.lst acc) ∧ acc.length < sizeLine ∧ (Keep [] H3 (upd H7 L (.lst (acc ++ [V.bl (rngV 0 10000000000 z)]))) ∧ (upd H7 L (.lst (acc ++ [V.bl (rngV 0 10000000000 z)]))) L = some (.lst ((([x, y].take (i + 1)).map (rngV 0 10000000000)).map V.bl))) := fun H7 K7 => by
        refine ⟨_, K7 _ _ h6 (by simp), ?_, (K6.trans K7).trans_new hL, ?_⟩
        · rw [List.length_map, List.length_map, List.length_take]; show min i 2 < _; omega
        · rw [upd_same, take_succ_of hz, List.map_append, List.map_append]; rfl
      refine ⟨rfl, tYes_go (yes ?_)⟩
      refine ⟨_, rfl, _, _, rfl, Tz.keepD K6 (by simp), fun H7 K7 => ⟨_, rfl, ite2 (fun e => ?_) (fun e => ?_)⟩⟩
      · obtain ⟨j, rfl⟩ : ∃ j, z = .int j := by cases z <;> first | exact ⟨_, rfl⟩ | cases e
        have e' : decide ((0 : Int) ≤ j) = true := e
        have er : rngV 0 10000000000 (.int j) = decide (j ≤ 10000000000) := by show (decide ((0 : Int) ≤ j) && _) = _; rw [e']; rfl
        rw [er] at fin
        exact ⟨_, rfl, _, _, rfl, rfl, fin H7 K7⟩
      · have er : rngV 0 10000000000 z = false := by
          cases z <;> first | rfl | (show (decide _ && decide _) = false; rw [Bool.and_eq_false_iff]; exact .inl (Bool.eq_false_iff.mpr e))
        rw [er] at fin
        exact fin H7 K7
    · rintro H6 ⟨K6, h6⟩
      refine ⟨L, _, rfl, SqL.of h6, _, rfl, ?_⟩
      have ea : ((([x, y].take [x, y].length).map (rngV 0 10000000000))).all id = (rngV 0 10000000000 x && rngV 0 10000000000 y) := by simp
      rw [ea]
      refine iteM (fun e => ?_) (fun e => ?_)
      · have q' := q H6 (K3.trans K6)
        rw [← Bool.and_assoc (rngV 0 10000000000 x), e] at q'
        exact q'
      · rw [← Bool.and_assoc (rngV 0 10000000000 x), e] at q
        have K06 := K3.trans K6
        refine ⟨_, rfl, ps, ds, rfl, D6.keep (k0 K06), fun H7 K7 => ?_⟩
        rw [arePs_keep D6 (k0 (ds := ds) K06)]
        exact q _ (K06.trans K7)
def sp_look (C : Addr) : Sp := fun vs H Q E => ∃ v ds, vs = [v] ∧ D3 ds H v ∧ (isSt H v = true → ∀ H', Keep [] H H' → Q .non H') ∧ (isSt H v = false → ∀ H', Keep [] H H' → E (.ref C) none H')
theorem p__look_at {C Y S M : Addr} (EE : ETx K mg C Y S M) (T : Txt K mg) : PrX P w K mg base "_look_at" s__look_at ["state"] 7 (sp_look C) := by
  obtain ⟨f, fd, D⟩ := T.d__look_at
  obtain ⟨f_is_state, fd_is_state, D_is_state, G_is_state⟩ := p_is_state (P := P) (w := w) (base := base) T
  refine ⟨f, fd, D, D.F.okX sc__look_at (fun vs H Q E h => ?_) (fun cdv A outer s H vs Q E hr h => ?_)⟩
  · obtain ⟨a, b, rfl, _⟩ := h; rfl
  · obtain ⟨v, ds, rfl, Dv, qy, qn⟩ := h
    refine ⟨_, (pss_one (ps_if (pt_not (pt_val (pe_call G_is_state (hr.mono (by decide)) rfl D_is_state.m D_is_state.F.kp D_is_state.b .nil pass0 (pa_cons (pv 0) pa_nil)))) (pss_one (ps_raise rfl (takes_of rfl rfl rfl rfl) (pmk_own0 PySem.F.excBase_ValueError EE.x EE.gC EE.kp (raises_own EE.b EE.t) rfl))) pss_nil)), ?_⟩
    refine ⟨_, rfl, v, ds, rfl, Dv, fun H1 K1 => ⟨_, rfl, iteM (fun e => ?_) (fun e => ?_)⟩⟩
    · exact qn e _ K1
    · exact qy e _ K1
end
end My
set_option Elab.async false
set_option maxRecDepth 100000
set_option maxHeartbeats 800000
namespace My
open PySem L2 TL
/-- what a state is worth -/
def worthOf (H : Hp) (v : V) : Int :=
  match partsOf H v with
  | some [_, _, _, x, y, ps] => numV x + numV y + ((match partsOf H ps with | some qs => qs | none => []).map (thirdOf H)).sum
  | _ => 0
theorem worth_keep {ds : List Addr} {H H' : Hp} {v : V} (h : D3 ds H v) (k : Keep ds H H') : worthOf H' v = worthOf H v := by
  unfold worthOf
  rw [h.1.parts k]
  match e : partsOf H v with
  | some [w, p, t, x, y, ps] =>
    have d := h.2 _ e ps (by simp)
    show numV x + numV y + ((match partsOf H' ps with | some qs => qs | none => []).map (thirdOf H')).sum = numV x + numV y + ((match partsOf H ps with | some qs => qs | none => []).map (thirdOf H)).sum
    rw [d.1.parts k]
    cases e2 : partsOf H ps with
    | none => rfl
    | some qs =>
      show numV x + numV y + (qs.map (thirdOf H')).sum = _
      rw [List.map_congr_left fun q hq => third_keep (d.2 qs e2 q hq).1 k]
  | none => rfl
  | some [] => rfl
  | some [_] => rfl
  | some [_, _] => rfl
  | some [_, _, _] => rfl
  | some [_, _, _, _] => rfl
  | some [_, _, _, _, _] => rfl
  | some (_ :: _ :: _ :: _ :: _ :: _ :: _ :: _) => rfl
theorem st_tup {H : Hp} {v : V} (h : isSt H v = true) : ∃ a r m p t x y qs, v = .ref a ∧ H a = some (.tup [m, p, t, .int x, .int y, .ref r]) ∧ H r = some (.tup qs) ∧ qs.length ≤ 4 ∧ qs.all (isPr H) = true ∧ worthOf H v = x + y + (qs.map (thirdOf H)).sum := by
  cases e : partsOf H v with
  | none => rw [st_none e] at h; cases h
  | some xs =>
    obtain ⟨a, rfl, ha⟩ := parts_of e
    by_cases h6 : xs.length = 6
    · obtain ⟨m, p, t, x, y, ps, rfl⟩ := six_of h6
      rw [st_eq ha] at h
      simp only [Bool.and_eq_true] at h
      obtain ⟨h1, h2, h3, h4, h5, h7⟩ := h
      obtain ⟨i, rfl⟩ : ∃ i, x = .int i := by cases x <;> first | exact ⟨_, rfl⟩ | cases h4
      obtain ⟨j, rfl⟩ : ∃ j, y = .int j := by cases y <;> first | exact ⟨_, rfl⟩ | cases h5
      cases e2 : partsOf H ps with
      | none => rw [arePs_none e2] at h7; cases h7
      | some qs =>
        obtain ⟨r, rfl, hr⟩ := parts_of e2
        rw [arePs_eq hr] at h7
        simp only [Bool.and_eq_true, decide_eq_true_eq] at h7
        refine ⟨a, r, m, p, t, i, j, qs, rfl, ha, hr, h7.1, h7.2.1, ?_⟩
        unfold worthOf
        rw [parts_tup ha]
        show numV _ + numV _ + ((match partsOf H (.ref r) with | some qs => qs | none => []).map (thirdOf H)).sum = _
        rw [parts_tup hr]; rfl
    · rw [st_len ha h6] at h; cases h
section
variable {P : Program} {w : World} {K : PySem.W.Frag} {mg : Str → Option Value} {base : Heap}
def sp_worth (C : Addr) : Sp := fun vs H Q E => ∃ v ds, vs = [v] ∧ D3 ds H v ∧ (isSt H v = true → ∀ H', Keep [] H H' → Q (.int (worthOf H v)) H') ∧ (isSt H v = false → ∀ H', Keep [] H H' → E (.ref C) none H')
theorem p_worth {C Y S M : Addr} (EE : ETx K mg C Y S M) (T : Txt K mg) : PrX P w K mg base "worth" s_worth ["state"] 8 (sp_worth C) := by
  obtain ⟨f, fd, D⟩ := T.d_worth
  obtain ⟨f__look_at, fd__look_at, D__look_at, G__look_at⟩ := p__look_at (P := P) (w := w) (base := base) EE T
  refine ⟨f, fd, D, D.F.okX sc_worth (fun vs H Q E h => ?_) (fun cdv A outer s H vs Q E hr h => ?_)⟩
  · obtain ⟨a, b, rfl, _⟩ := h; rfl
  · obtain ⟨v, ds, rfl, Dv, qy, qn⟩ := h
    have hsl : sizeLine = 16777216 := sizeLine_eq
    refine ⟨_, (pss_cons (ps_expr (pe_callS G__look_at (hr.mono (by decide)) rfl D__look_at.m D__look_at.F.kp D__look_at.b (fun σ => passAt (takes_of rfl rfl rfl rfl) σ) (pa_cons (pv 0) pa_nil)))
      (pss_one (ps_ret (pe_op op_add (pe_op op_add (pe_ix ix_tup (pv 0) pe_int (fun _ _ => rfl)) (pe_ix ix_tup (pv 0) pe_int (fun _ _ => rfl))) (pe_callB (cr_sum rfl) (by rfl) T.z_sum (by decide +kernel) (pa_cons (pe_lc (own := [("promise", 1)]) (g := gName 1) (tt := tYes) rfl sc_worth.nd (pi_tup (pe_ix ix_tup (pv 0) pe_int (fun _ _ => rfl))) (blkOk_by (own := [("promise", 1)]) (N := N_worth) (sc := defScope s_worth) (by decide +kernel)) (fun _ _ _ _ _ => (pg_name (i := 1) sc_worth.nd rfl (Or.inl rfl))) (fun _ _ _ _ _ => pts_nil) (fun _ _ _ _ _ => (pe_ix (ix_tupK (K := K) rfl) (pv 1) pe_int (fun _ _ => rfl)))) pa_nil)))))), ?_⟩
    refine ⟨_, rfl, v, ds, rfl, Dv, fun e H1 K1 => ?_, fun e H1 K1 => qn e _ K1⟩
    obtain ⟨a, r, m, p, t, x, y, qs, rfl, ha, hrr, l4, hall, ew⟩ := st_tup e
    have ha1 := K1 _ _ ha (by simp)
    have hr1 := K1 _ _ hrr (by simp)
    refine ⟨_, rfl, a, _, 3, .int x, rfl, rfl, SqT.of ha1, rfl, ?_⟩
    refine ⟨_, rfl, a, _, 4, .int y, rfl, rfl, SqT.of ha1, rfl, ?_⟩
    refine ⟨_, _, rfl, rfl, ?_⟩
    refine ⟨_, rfl, a, _, 5, .ref r, rfl, rfl, SqT.of ha1, rfl, r, rfl, ⟨_, SqT.of hr1⟩, fun L hL => ?_⟩
    refine lc_tup (K := K) (a := r) (xs := qs) (fun i H7 => Keep [] H1 H7 ∧ H7 L = some (.lst (((qs.take i).map (thirdOf H)).map V.int))) ⟨Keep.upd_new hL, upd_same⟩ (fun i H7 _ ⟨k, _⟩ => SqT.of (k _ _ hr1 (by simp))) ?_ ?_
    · rintro i z H7 hz ⟨K7, h7⟩
      have hm := List.mem_of_getElem? hz
      obtain ⟨c, m', y', k, l, u, rfl, hc, _, et⟩ := pr_tup (List.all_eq_true.mp hall z hm)
      refine ⟨rfl, tYes_go (yes ?_)⟩
      have hc7 := (K1.trans K7) _ _ hc (by simp)
      refine ⟨_, rfl, c, _, 2, .int k, rfl, rfl, SqT.of hc7, rfl, _, h7, ?_, K7.trans_new hL, ?_⟩
      · rw [List.length_map, List.length_map, List.length_take]; omega
      · rw [upd_same, take_succ_of hz, List.map_append, List.map_append, List.map_cons, et]; rfl
    · rintro H7 ⟨K7, h7⟩
      rw [List.take_length] at h7
      refine ⟨L, _, rfl, SqL.of h7, _, _, rfl, rfl, ?_⟩
      have q := qy e _ (K1.trans K7)
      rw [ew] at q
      exact q
def sp_told : Sp := fun vs H Q _ => ∃ v ds, vs = [v] ∧ D3 ds H v ∧ ∀ t H', Keep [] H H' → H' t = some (.tup (if isSt H v = true then [.str "told", .int (worthOf H v)] else [.str "none", .bl true])) → Q (.ref t) H'
theorem p__law_told {C Y S M : Addr} (EE : ETx K mg C Y S M) (T : Txt K mg) : Pr P w K mg base "_law_told" s__law_told ["thing"] 9 sp_told := by
  obtain ⟨f, fd, D⟩ := T.d__law_told
  obtain ⟨f_worth, fd_worth, D_worth, G_worth⟩ := p_worth (P := P) (w := w) (base := base) EE T
  refine ⟨f, fd, D, D.F.ok sc__law_told (fun vs H Q E h => ?_) (fun cdv A outer s H vs Q E hr h => ?_)⟩
  · obtain ⟨a, b, rfl, _⟩ := h; rfl
  · obtain ⟨v, ds, rfl, Dv, q⟩ := h
    have hsl : sizeLine = 16777216 := sizeLine_eq
    refine ⟨_, (pss_cons (ps_asg (pe_tup (pa_cons pe_non (pa_cons pe_non pa_nil))) (pg_tup rfl (pgs_cons (pg_name (i := 1) sc__law_told.nd rfl (Or.inl rfl)) (pgs_cons (pg_name (i := 2) sc__law_told.nd rfl (Or.inl rfl)) pgs_nil))))
      (pss_cons (ps_try_keep (i := 3) rfl rfl rfl sc__law_told.nd rfl rfl ⟨rfl, by decide, .inl EE.gY⟩ (fun W pn xe tk _ => pss_one (ps_set (i := 2) sc__law_told.nd rfl (Or.inl rfl) (pe_callS G_worth (hr.mono (by decide)) rfl D_worth.m D_worth.F.kp D_worth.b (fun σ => passAt tk σ) (pa_cons (pv 0) pa_nil)))) (fun p pn => pss_one (ps_set (i := 1) sc__law_told.nd rfl (Or.inl rfl) (pv 3))))
      (pss_cons (ps_if (pt_cmpR op_isN (pv 1) pe_non (nomark _)) (pss_one (ps_ret (pe_tup (pa_cons pe_str (pa_cons (pv 2) pa_nil))))) pss_nil)
      (pss_cons (ps_set (i := 4) sc__law_told.nd rfl (Or.inl rfl) (pe_and (pe_callB (call_isK EE.e) (by rfl) T.z_isinstance (by decide +kernel) (pa_cons (pv 1) (pa_cons (pe_glob (v := .ref C) rfl EE.gC rfl) pa_nil))) (pe_one (pe_callB (call_isK EE.e) (by rfl) T.z_isinstance (by decide +kernel) (pa_cons (pv 1) (pa_cons (pe_bltn (by rfl) EE.zV (by decide +kernel) (v := .ty "ValueError") rfl) pa_nil))))))
      (pss_one (ps_ret (pe_tup (pa_cons pe_str (pa_cons (pe_and (pv 4) (pe_one (pe_not (pe_callB (call_isKT EE.e) (by rfl) T.z_isinstance (by decide +kernel) (pa_cons (pv 1) (pa_cons (pe_tup (pa_cons (pe_glob (v := .ref M) rfl EE.gM rfl) (pa_cons (pe_glob (v := .ref S) rfl EE.gS rfl) pa_nil))) pa_nil)))))) pa_nil))))))))), ?_⟩
    refine ⟨by show 2 ≤ sizeLine; omega, fun u hu => ⟨u, _, rfl, SqT.of upd_same, rfl, _, _, rfl, _, _, rfl, rfl, ?_⟩⟩
    have Ku := Keep.upd_new (ds := []) hu (o := .tup [V.non, V.non])
    generalize upd H u (.tup [V.non, V.non]) = H0 at Ku
    have Dv0 := Dv.keep (k0 Ku)
    have es := isSt_keep Dv (k0 Ku)
    have ew := worth_keep Dv (k0 Ku)
    refine ⟨_, rfl, v, ds, rfl, Dv0, fun e H1 K1 => ?_, fun e H1 K1 => ?_⟩
    · refine ⟨_, rfl, rfl, _, rfl, iteT ⟨_, rfl, by show 2 ≤ sizeLine; omega, fun t ht => ?_⟩⟩
      refine q t _ ((Ku.trans K1).trans (Keep.upd_new ht)) ?_
      rw [upd_same, if_pos (es ▸ e), ← ew]
    · refine ⟨rfl, EE.ex, fun p hp => ⟨_, rfl, ?_⟩⟩
      have hp1 : (upd H1 p (Caught (.ref C) p)) p = some (Caught (.ref C) p) := upd_same
      have Kp := (Ku.trans K1).trans (Keep.upd_new hp (o := Caught (.ref C) p))
      generalize upd H1 p (Caught (.ref C) p) = H2 at hp1 Kp
      refine ⟨_, rfl, rfl, _, rfl, iteF ?_⟩
      refine ⟨_, rfl, p, _, _, true, rfl, hp1, .own C, EE.i1, _, rfl, ?_⟩
      refine iteT ⟨_, rfl, p, _, _, true, rfl, hp1, .ty _, EE.i2, ?_⟩
      refine ⟨_, rfl, _, rfl, iteT ⟨_, rfl, by show 2 ≤ sizeLine; omega, fun c hc => ?_⟩⟩
      have K3 := Kp.trans (Keep.upd_new hc (o := .tup [V.ref M, .ref S]))
      refine ⟨p, c, [.ref M, .ref S], [.ref M, .ref S], false, rfl, Keep.upd_new (ds := []) hc _ _ hp1 (by simp), upd_same, .cons (.own M) (.cons (.own S) .nil), EE.i3, false, rfl, by show 2 ≤ sizeLine; omega, fun t ht => ?_⟩
      refine q t _ (K3.trans (Keep.upd_new ht)) ?_
      rw [upd_same, if_neg (by rw [← es, e]; simp)]; rfl
end
end My
set_option Elab.async false
set_option maxRecDepth 100000
set_option maxHeartbeats 800000
namespace My
open PySem L2 TL
section
variable {P : Program} {w : World} {K : PySem.W.Frag} {mg : Str → Option Value} {base : Heap}
def sp_is : Sp := fun vs H Q _ => ∃ v n lo hi, vs = [v, .int lo, .int hi] ∧ Thing H v n ∧ Q (.bl (rngV lo hi v)) H
theorem p__law_is (T : Txt K mg) : Pr P w K mg base "_law_is" s__law_is ["thing", "low", "high"] 1 sp_is := by
  obtain ⟨f, fd, D⟩ := T.d__law_is
  refine ⟨f, fd, D, D.F.ok sc__law_is (fun vs H Q E h => ?_) (fun cdv A outer s H vs Q E hr h => ?_)⟩
  · obtain ⟨v, n, a, b, rfl, _⟩ := h; rfl
  · obtain ⟨v, n, lo, hi, rfl, Tv, q⟩ := h
    refine ⟨_, (pss_one (ps_ret (pe_and (pe_callB call_isi (by rfl) T.z_isinstance (by decide +kernel) (pa_cons (pv 0) (pa_cons (pe_bltn (by rfl) T.z_int (by decide +kernel) (v := .ty "int") rfl) pa_nil))) (pe_and (pe_not (pe_callB call_isi (by rfl) T.z_isinstance (by decide +kernel) (pa_cons (pv 0) (pa_cons (pe_bltn (by rfl) T.z_bool (by decide +kernel) (v := .ty "bool") rfl) pa_nil)))) (pe_one (pe_chain op_le op_le (pv 1) (pv 0) (pv 2))))))), ?_⟩
    obtain ⟨b, eb, hb⟩ := isi_int (K := K) Tv
    refine ⟨_, rfl, v, _, _, _, b, rfl, .ty _, Tv.ty, eb, b, rfl, ?_⟩
    rcases hb with ⟨i, rfl, rfl⟩ | ⟨c, rfl, rfl⟩ | ⟨e, rfl⟩
    · refine iteT ⟨_, rfl, _, _, _, _, false, rfl, .ty _, .base (.int i), kit_ty (by decide +kernel), _, rfl, _, rfl, ?_⟩
      refine iteT ⟨_, rfl, _, rfl, _, _, rfl, rfl, _, rfl, ite2 (fun e => ?_) (fun e => ?_)⟩
      · have e' : decide (lo ≤ i) = true := e
        refine ⟨_, rfl, _, _, rfl, rfl, ?_⟩
        have er : rngV lo hi (.int i) = decide (i ≤ hi) := by show (decide (lo ≤ i) && _) = _; rw [e']; rfl
        rw [er] at q; exact q
      · have er : rngV lo hi (.int i) = false := by show (decide (lo ≤ i) && _) = false; rw [Bool.eq_false_iff.mpr e]; rfl
        rw [er] at q
        exact q
    · refine iteT ⟨_, rfl, _, _, _, _, true, rfl, .ty _, .base (.bl c), kit_ty (by decide +kernel), _, rfl, _, rfl, ?_⟩
      exact iteF q
    · have er : rngV lo hi v = false := by cases v <;> first | rfl | cases e
      rw [er] at q
      exact iteF q
theorem rng_eq {lo : Int} {v : V} (hb : ∀ i, v = .int i → i ≤ BND) : rngV lo 100000000000000000000000000000000000000000 v = geV lo v := by
  cases v with
  | int i =>
    show (decide (lo ≤ i) && decide (i ≤ 100000000000000000000000000000000000000000)) = decide (lo ≤ i)
    rw [decide_eq_true (show i ≤ 100000000000000000000000000000000000000000 from hb i rfl), Bool.and_true]
  | _ => rfl
theorem rng_side {v : V} : rngV 0 1 v = prtV v := by
  cases v with
  | int i =>
    show (decide ((0 : Int) ≤ i) && decide (i ≤ 1)) = decide (i = 0 ∨ i = 1)
    rw [← Bool.decide_and]
    exact decide_eq_decide.mpr (by omega)
  | _ => rfl
theorem p__law_is_promise (T : Txt K mg) : Pr P w K mg base "_law_is_promise" s__law_is_promise ["thing"] 2 sp_isPr := by
  obtain ⟨f, fd, D⟩ := T.d__law_is_promise
  obtain ⟨f__law_is, fd__law_is, D__law_is, G__law_is⟩ := p__law_is (P := P) (w := w) (base := base) T
  refine ⟨f, fd, D, D.F.ok sc__law_is_promise (fun vs H Q E h => ?_) (fun cdv A outer s H vs Q E hr h => ?_)⟩
  · obtain ⟨a, p, rfl, _⟩ := h; rfl
  · obtain ⟨v, ds, rfl, ⟨⟨⟨n, Tv⟩, nd, bn⟩, hx⟩, q⟩ := h
    refine ⟨_, (pss_cons (ps_if (PW.pt (pw_or (pt_not (pt_val (pe_callB call_isi (by rfl) T.z_isinstance (by decide +kernel) (pa_cons (pv 0) (pa_cons (pe_bltn (by rfl) T.z_tuple (by decide +kernel) (v := .ty "tuple") rfl) pa_nil))))) (pw_or1 (pt_cmpR op_ne (pe_callB call_len_seq (by rfl) T.z_len (by decide +kernel) (pa_cons (pv 0) pa_nil)) pe_int (nomark _))))) (pss_one (ps_ret pe_bl)) pss_nil)
      (pss_cons (ps_asg (pv 0) (pg_tup rfl (pgs_cons (pg_name (i := 1) sc__law_is_promise.nd rfl (Or.inl rfl)) (pgs_cons (pg_name (i := 2) sc__law_is_promise.nd rfl (Or.inl rfl)) (pgs_cons (pg_name (i := 3) sc__law_is_promise.nd rfl (Or.inl rfl)) (pgs_cons (pg_name (i := 4) sc__law_is_promise.nd rfl (Or.inl rfl)) (pgs_cons (pg_name (i := 5) sc__law_is_promise.nd rfl (Or.inl rfl)) pgs_nil)))))))
      (pss_cons (ps_if (PW.pt (pw_or (pt_not (pt_val (pe_call G__law_is (hr.mono (by decide)) rfl D__law_is.m D__law_is.F.kp D__law_is.b .nil pass0 (pa_cons (pv 1) (pa_cons pe_int (pa_cons (pe_op op_pow pe_int pe_int) pa_nil)))))) (pw_or (pt_not (pt_val (pe_call G__law_is (hr.mono (by decide)) rfl D__law_is.m D__law_is.F.kp D__law_is.b .nil pass0 (pa_cons (pv 2) (pa_cons pe_int (pa_cons pe_int pa_nil)))))) (pw_or1 (pt_not (pt_val (pe_call G__law_is (hr.mono (by decide)) rfl D__law_is.m D__law_is.F.kp D__law_is.b .nil pass0 (pa_cons (pv 3) (pa_cons pe_int (pa_cons (pe_op op_pow pe_int pe_int) pa_nil)))))))))) (pss_one (ps_ret pe_bl)) pss_nil)
      (pss_one (ps_ret (pe_and (pe_call G__law_is (hr.mono (by decide)) rfl D__law_is.m D__law_is.F.kp D__law_is.b .nil pass0 (pa_cons (pv 4) (pa_cons pe_int (pa_cons (pe_op op_pow pe_int pe_int) pa_nil)))) (pe_one (pe_call G__law_is (hr.mono (by decide)) rfl D__law_is.m D__law_is.F.kp D__law_is.b .nil pass0 (pa_cons (pv 5) (pa_cons pe_int (pa_cons (pe_op op_pow pe_int pe_int) pa_nil))))))))))), ?_⟩
    obtain ⟨b, eb, hb⟩ := isi_tup (K := K) Tv
    refine ⟨_, rfl, v, _, _, _, b, rfl, .ty _, Tv.ty, eb, _, rfl, ?_⟩
    rcases hb with ⟨a, xs, rfl, ha, rfl⟩ | ⟨hn, rfl⟩
    rotate_left
    · refine iteT ?_
      rw [pr_none hn] at q
      exact q _ Keep.refl
    refine iteF ?_
    by_cases h5 : xs.length = 5
    rotate_left
    · refine ⟨_, rfl, a, _, rfl, .inr (SqT.of ha), rfl, true, ?_, iteT ?_⟩
      · rw [int_ne (by omega)]; rfl
      · rw [pr_len ha h5] at q
        exact q _ Keep.refl
    obtain ⟨m, y, k, l, u, rfl⟩ := five_of h5
    refine ⟨_, rfl, a, _, rfl, .inr (SqT.of ha), rfl, false, rfl, iteF ?_⟩
    rw [pr_eq ha] at q
    have q := q H Keep.refl
    have DD : ∀ x ∈ [m, y, k, l, u], D0 ds H x := fun x hm => hx _ (parts_tup ha) x hm
    obtain ⟨⟨n1, T1⟩, _, B1⟩ := DD m (by simp)
    obtain ⟨⟨n2, T2⟩, _, _⟩ := DD y (by simp)
    obtain ⟨⟨n3, T3⟩, _, _⟩ := DD k (by simp)
    obtain ⟨⟨n4, T4⟩, _, _⟩ := DD l (by simp)
    obtain ⟨⟨n5, T5⟩, _, B5⟩ := DD u (by simp)
    rw [← rng_eq B1, ← rng_side, ← rng_eq B5] at q
    have e41 : (10 : Int) ^ Int.toNat 41 = 100000000000000000000000000000000000000000 := by decide +kernel
    have e30 : (10 : Int) ^ Int.toNat 30 = 1000000000000000000000000000000 := by decide +kernel
    have e9 : (10 : Int) ^ Int.toNat 9 = 1000000000 := by decide +kernel
    rw [← e41, ← e30, ← e9] at q
    refine ⟨_, rfl, a, _, rfl, SqT.of ha, rfl, _, _, rfl, _, _, rfl, _, _, rfl, _, _, rfl, _, _, rfl, rfl, ?_⟩
    refine ⟨_, rfl, _, _, rfl, rfl, ⟨by decide, by decide, by decide⟩, m, n1, _, _, rfl, T1, _, rfl, iteM (fun e => ?_) (fun e => ?_)⟩
    · rw [show rngV 1 ((10 : Int) ^ Int.toNat 41) m = false from e] at q; exact q
    rw [show rngV 1 ((10 : Int) ^ Int.toNat 41) m = true from e] at q
    refine ⟨_, rfl, y, n2, _, _, rfl, T2, _, rfl, iteM (fun e => ?_) (fun e => ?_)⟩
    · rw [e] at q; exact q
    rw [e] at q
    refine ⟨_, rfl, _, _, rfl, rfl, ⟨by decide, by decide, by decide⟩, k, n3, _, _, rfl, T3, _, rfl, iteM (fun e => ?_) (fun e => ?_)⟩
    · rw [show rngV 1 ((10 : Int) ^ Int.toNat 9) k = false from e] at q; exact q
    rw [show rngV 1 ((10 : Int) ^ Int.toNat 9) k = true from e] at q
    refine ⟨_, rfl, _, _, rfl, rfl, ⟨by decide, by decide, by decide⟩, l, n4, _, _, rfl, T4, _, rfl, ite2 (fun e => ?_) (fun e => ?_)⟩
    · rw [show rngV 0 ((10 : Int) ^ Int.toNat 30) l = true from e] at q
      exact ⟨_, rfl, _, _, rfl, rfl, ⟨by decide, by decide, by decide⟩, u, n5, _, _, rfl, T5, q⟩
    · rw [show rngV 0 ((10 : Int) ^ Int.toNat 30) l = false from Bool.eq_false_iff.mpr e] at q
      exact q
theorem filt {qs : List V} {i : Nat} {x : V} {g : V → Bool} (h : qs[i]? = some x) : (qs.take (i + 1)).filter g = (qs.take i).filter g ++ (if g x = true then [x] else []) := by
  rw [take_succ_of h, List.filter_append]
  refine congrArg _ ?_
  rw [List.filter_cons]; rfl
theorem p__law_is_state (T : Txt K mg) : Pr P w K mg base "_law_is_state" s__law_is_state ["thing"] 3 sp_isSt := by
  obtain ⟨f, fd, D⟩ := T.d__law_is_state
  obtain ⟨f__law_is_promise, fd__law_is_promise, D__law_is_promise, G__law_is_promise⟩ := p__law_is_promise (P := P) (w := w) (base := base) T; obtain ⟨f__law_is, fd__law_is, D__law_is, G__law_is⟩ := p__law_is (P := P) (w := w) (base := base) T
  refine ⟨f, fd, D, D.F.ok sc__law_is_state (fun vs H Q E h => ?_) (fun cdv A outer s H vs Q E hr h => ?_)⟩
  · obtain ⟨a, b, rfl, _⟩ := h; rfl
  · obtain ⟨v, ds, rfl, ⟨⟨⟨n, Tv⟩, nd, bn⟩, hx⟩, q⟩ := h
    have hsl : sizeLine = 16777216 := sizeLine_eq
    refine ⟨_, (pss_cons (ps_if (PW.pt (pw_or (pt_not (pt_val (pe_callB call_isi (by rfl) T.z_isinstance (by decide +kernel) (pa_cons (pv 0) (pa_cons (pe_bltn (by rfl) T.z_tuple (by decide +kernel) (v := .ty "tuple") rfl) pa_nil))))) (pw_or (pt_cmpR op_ne (pe_callB call_len_seq (by rfl) T.z_len (by decide +kernel) (pa_cons (pv 0) pa_nil)) pe_int (nomark _)) (pw_or (pt_not (pt_val (pe_callB call_isi (by rfl) T.z_isinstance (by decide +kernel) (pa_cons (pe_ix ix_tup (pv 0) pe_int (fun _ _ => rfl)) (pa_cons (pe_bltn (by rfl) T.z_str (by decide +kernel) (v := .ty "str") rfl) pa_nil))))) (pw_or1 (pt_cmpR (op_neStr hr.units) (pe_ix ix_tup (pv 0) pe_int (fun _ _ => rfl)) pe_str (nomark _))))))) (pss_one (ps_ret pe_bl)) pss_nil)
      (pss_cons (ps_if (PW.pt (pw_or (pt_not (pt_val (pe_call G__law_is (hr.mono (by decide)) rfl D__law_is.m D__law_is.F.kp D__law_is.b .nil pass0 (pa_cons (pe_ix ix_tup (pv 0) pe_int (fun _ _ => rfl)) (pa_cons pe_int (pa_cons (pe_op op_pow pe_int pe_int) pa_nil)))))) (pw_or1 (pt_not (pt_val (pe_call G__law_is (hr.mono (by decide)) rfl D__law_is.m D__law_is.F.kp D__law_is.b .nil pass0 (pa_cons (pe_ix ix_tup (pv 0) pe_int (fun _ _ => rfl)) (pa_cons pe_int (pa_cons (pe_op op_pow pe_int pe_int) pa_nil))))))))) (pss_one (ps_ret pe_bl)) pss_nil)
      (pss_cons (ps_if (PW.pt (pw_or (pt_not (pt_val (pe_call G__law_is (hr.mono (by decide)) rfl D__law_is.m D__law_is.F.kp D__law_is.b .nil pass0 (pa_cons (pe_ix ix_tup (pv 0) pe_int (fun _ _ => rfl)) (pa_cons pe_int (pa_cons (pe_op op_pow pe_int pe_int) pa_nil)))))) (pw_or (pt_not (pt_val (pe_call G__law_is (hr.mono (by decide)) rfl D__law_is.m D__law_is.F.kp D__law_is.b .nil pass0 (pa_cons (pe_ix ix_tup (pv 0) pe_int (fun _ _ => rfl)) (pa_cons pe_int (pa_cons (pe_op op_pow pe_int pe_int) pa_nil)))))) (pw_or1 (pt_not (pt_val (pe_callB call_isi (by rfl) T.z_isinstance (by decide +kernel) (pa_cons (pe_ix ix_tup (pv 0) pe_int (fun _ _ => rfl)) (pa_cons (pe_bltn (by rfl) T.z_tuple (by decide +kernel) (v := .ty "tuple") rfl) pa_nil))))))))) (pss_one (ps_ret pe_bl)) pss_nil)
      (pss_cons (ps_setLc (i := 1) (own := [("one", 2)]) (g := gName 2) rfl sc__law_is_state.nd rfl rfl (sw_true rfl rfl rfl (by decide +kernel)) (pi_tup (pe_ix ix_tup (pv 0) pe_int (fun _ _ => rfl))) (blkOk_by (own := [("one", 2)]) (N := N__law_is_state) (sc := defScope s__law_is_state) (by decide +kernel)) (fun _ _ _ _ _ => (pg_name (i := 2) sc__law_is_state.nd rfl (Or.inl rfl))) (fun _ _ _ _ _ => pts_one (pt_val (pe_call G__law_is_promise (hr.mono (by decide)) rfl D__law_is_promise.m D__law_is_promise.F.kp D__law_is_promise.b .nil pass0 (pa_cons (pv 2) pa_nil)))) (fun _ _ _ _ _ => (pe_ix (ix_tupK (K := K) rfl) (pv 2) pe_int (fun _ _ => rfl))))
      (pss_one (ps_ret (pe_and (pe_chain op_eq op_le (pe_callB call_len_seq (by rfl) T.z_len (by decide +kernel) (pa_cons (pv 1) pa_nil)) (pe_callB call_len_seq (by rfl) T.z_len (by decide +kernel) (pa_cons (pe_ix ix_tup (pv 0) pe_int (fun _ _ => rfl)) pa_nil)) pe_int) (pe_one (pe_cmpR (op_eqD hr.units) (pv 1) (pe_callB (cr_sortedSet rfl) (by rfl) T.z_sorted (by decide +kernel) (pa_cons (pe_callTy (call_setI rfl) (by rfl) T.z_set (by decide +kernel) (pa_cons (pv 1) pa_nil)) pa_nil)) (nomark _)))))))))), ?_⟩
    obtain ⟨b, eb, hb⟩ := isi_tup (K := K) Tv
    refine ⟨_, rfl, v, _, _, _, b, rfl, .ty _, Tv.ty, eb, _, rfl, ?_⟩
    rcases hb with ⟨a, xs, rfl, ha, rfl⟩ | ⟨hn, rfl⟩
    rotate_left
    · refine iteT ?_
      rw [st_none hn] at q
      exact q _ Keep.refl
    refine iteF ?_
    by_cases h6 : xs.length = 6
    rotate_left
    · refine ⟨_, rfl, a, _, rfl, .inr (SqT.of ha), rfl, true, ?_, iteT ?_⟩
      · rw [int_ne (by omega)]; rfl
      · rw [st_len ha h6] at q
        exact q _ Keep.refl
    obtain ⟨m, p, t, x, y, ps, rfl⟩ := six_of h6
    refine ⟨_, rfl, a, _, rfl, .inr (SqT.of ha), rfl, false, rfl, iteF ?_⟩
    rw [st_eq ha] at q
    have DD : ∀ z ∈ [m, p, t, x, y, ps], D2 ds H z := fun z hm => hx _ (parts_tup ha) z hm
    obtain ⟨⟨n1, T1⟩, _, _⟩ := (DD m (by simp)).1
    obtain ⟨⟨n2, T2⟩, _, B2⟩ := (DD p (by simp)).1
    obtain ⟨⟨n3, T3⟩, _, B3⟩ := (DD t (by simp)).1
    obtain ⟨⟨n4, T4⟩, _, _⟩ := (DD x (by simp)).1
    obtain ⟨⟨n5, T5⟩, _, _⟩ := (DD y (by simp)).1
    obtain ⟨⟨n6, T6⟩, _, _⟩ := (DD ps (by simp)).1
    have D6 := DD ps (by simp)
    have e41 : (10 : Int) ^ Int.toNat 41 = 100000000000000000000000000000000000000000 := by decide +kernel
    have e10 : (10 : Int) ^ Int.toNat 10 = 10000000000 := by decide +kernel
    rw [← rng_eq B2, ← rng_eq B3, ← e41, ← e10] at q
    obtain ⟨b1, eb1, hb1⟩ := isi_str (K := K) T1
    refine ⟨_, rfl, a, _, 0, m, rfl, rfl, SqT.of ha, rfl, _, _, _, _, b1, rfl, .ty _, T1.ty, eb1, _, rfl, ?_⟩
    rcases hb1 with ⟨z, rfl, hz, rfl⟩ | ⟨hz, rfl⟩
    rotate_left
    · refine iteT ?_
      rw [decide_eq_false (hz _)] at q
      exact q _ Keep.refl
    refine iteF ?_
    refine ⟨_, rfl, a, _, 0, _, rfl, rfl, SqT.of ha, rfl, "str", _, .str z hz, rfl, _, rfl, iteM (fun e => ?_) (fun e => ?_)⟩
    · rw [e] at q; exact q _ Keep.refl
    rw [e] at q
    refine ⟨_, rfl, a, _, 1, p, rfl, rfl, SqT.of ha, rfl, _, _, rfl, rfl, ⟨by decide, by decide, by decide⟩, p, n2, _, _, rfl, T2, _, rfl, iteM (fun e => ?_) (fun e => ?_)⟩
    · rw [show rngV 1 ((10 : Int) ^ Int.toNat 41) p = false from e] at q; exact q _ Keep.refl
    rw [show rngV 1 ((10 : Int) ^ Int.toNat 41) p = true from e] at q
    refine ⟨_, rfl, a, _, 2, t, rfl, rfl, SqT.of ha, rfl, _, _, rfl, rfl, ⟨by decide, by decide, by decide⟩, t, n3, _, _, rfl, T3, _, rfl, iteM (fun e => ?_) (fun e => ?_)⟩
    · rw [show rngV 0 ((10 : Int) ^ Int.toNat 41) t = false from e] at q; exact q _ Keep.refl
    rw [show rngV 0 ((10 : Int) ^ Int.toNat 41) t = true from e] at q
    refine ⟨_, rfl, a, _, 3, x, rfl, rfl, SqT.of ha, rfl, _, _, rfl, rfl, ⟨by decide, by decide, by decide⟩, x, n4, _, _, rfl, T4, _, rfl, iteM (fun e => ?_) (fun e => ?_)⟩
    · rw [show rngV 0 ((10 : Int) ^ Int.toNat 10) x = false from e] at q; exact q _ Keep.refl
    rw [show rngV 0 ((10 : Int) ^ Int.toNat 10) x = true from e] at q
    refine ⟨_, rfl, a, _, 4, y, rfl, rfl, SqT.of ha, rfl, _, _, rfl, rfl, ⟨by decide, by decide, by decide⟩, y, n5, _, _, rfl, T5, _, rfl, iteM (fun e => ?_) (fun e => ?_)⟩
    · rw [show rngV 0 ((10 : Int) ^ Int.toNat 10) y = false from e] at q; exact q _ Keep.refl
    rw [show rngV 0 ((10 : Int) ^ Int.toNat 10) y = true from e] at q
    obtain ⟨b6, eb6, hb6⟩ := isi_tup (K := K) T6
    refine ⟨_, rfl, a, _, 5, ps, rfl, rfl, SqT.of ha, rfl, _, _, _, _, b6, rfl, .ty _, T6.ty, eb6, _, rfl, ?_⟩
    rcases hb6 with ⟨r, qs, rfl, hrr, rfl⟩ | ⟨hn6, rfl⟩
    rotate_left
    · refine iteT ?_
      rw [arePs_none hn6] at q
      exact q _ Keep.refl
    refine iteF ?_
    rw [arePs_eq hrr] at q
    have DQ : ∀ z ∈ qs, D1 ds H z := fun z hz => D6.2 _ (parts_tup hrr) z hz
    have ql : qs.length ≤ 100 := D6.1.2.1.2 _ (parts_tup hrr)
    refine ⟨_, rfl, a, _, 5, .ref r, rfl, rfl, SqT.of ha, rfl, r, rfl, ⟨_, SqT.of hrr⟩, fun L hL => ?_⟩
    refine lc_tup (K := K) (a := r) (xs := qs) (fun i H7 => Keep [] H H7 ∧ H7 L = some (.lst ((((qs.take i).filter (isPr H)).map (firstOf H)).map V.int))) ⟨Keep.upd_new hL, upd_same⟩ (fun i H7 _ ⟨k, _⟩ => SqT.of (k _ _ hrr (by simp))) ?_ ?_
    · rintro i z H7 hz ⟨K7, h7⟩
      have hm := List.mem_of_getElem? hz
      refine ⟨rfl, ?_⟩
      refine ⟨_, rfl, z, ds, rfl, (DQ z hm).keep (k0 K7), fun H8 K8 => ?_⟩
      rw [isPr_keep (DQ z hm).1 (k0 (ds := ds) K7)]
      have i1 : i < qs.length := (List.getElem?_eq_some_iff.mp hz).1
      refine ⟨_, rfl, ite2 (fun e => ?_) (fun e => ?_)⟩
      · obtain ⟨c, m', y', k, l, u, rfl, hc, ef, _⟩ := pr_tup e
        have hc8 := (K7.trans K8) _ _ hc (by simp)
        refine ⟨_, rfl, c, _, 0, .int m', rfl, rfl, SqT.of hc8, rfl, _, K8 _ _ h7 (by simp), ?_, (K7.trans K8).trans_new hL, ?_⟩
        · rw [List.length_map, List.length_map]
          have := List.length_filter_le (isPr H) (qs.take i)
          rw [List.length_take] at this
          omega
        · rw [upd_same, filt hz, if_pos e, List.map_append, List.map_append, List.map_cons, ef]; rfl
      · refine ⟨K7.trans K8, ?_⟩
        rw [K8 _ _ h7 (by simp), filt hz, if_neg e, List.append_nil]
    · rintro H7 ⟨K7, h7⟩
      rw [List.take_length] at h7
      have ql2 := List.length_filter_le (isPr H) qs
      have lm : ((qs.filter (isPr H)).map (firstOf H)).length = (qs.filter (isPr H)).length := List.length_map ..
      have hr7 := K7 _ _ hrr (by simp)
      have ha7 := K7 _ _ ha (by simp)
      by_cases hall : qs.all (isPr H) = true
      · have ef : qs.filter (isPr H) = qs := List.filter_eq_self.mpr (List.all_eq_true.mp hall)
        rw [ef] at h7 lm
        rw [hall] at q
        refine ⟨_, rfl, L, _, rfl, .inl (SqL.of h7), _, rfl, a, _, 5, .ref r, rfl, rfl, SqT.of ha7, rfl, r, _, rfl, .inr (SqT.of hr7), rfl, _, rfl, ite2 (fun c => ?_) (fun c => ?_)⟩
        rotate_left
        · exact absurd (decide_eq_true (congrArg V.int (by rw [List.length_map, lm]))) c
        refine ⟨_, _, rfl, rfl, _, rfl, ite2 (fun c4 => ?_) (fun c4 => ?_)⟩
        rotate_left
        · have l4 : ¬ qs.length ≤ 4 := fun z => c4 (decide_eq_true (by omega))
          rw [decide_eq_false l4] at q
          exact q _ K7
        have l4 : qs.length ≤ 4 := by have := of_decide_eq_true c4; omega
        rw [decide_eq_true l4] at q
        refine ⟨_, rfl, _, rfl, L, qs.map (firstOf H), rfl, SqL.of h7, by omega, fun S n hS hn => noArg ?_⟩
        refine sorted_setI (a := S) (ns := qs.map (firstOf H)) (n := n) (by omega) (fun ms N so mem hN => ?_) upd_same
        have hN : upd H7 S (SetO w S (fun j => decide (j ∈ qs.map (firstOf H))) n) N = none := hN
        have K8 := (Keep.upd_new (ds := []) hS (o := SetO w S (fun j => decide (j ∈ qs.map (firstOf H))) n)).trans (Keep.upd_new hN (o := .lst (ms.map V.int)))
        refine ⟨_, _, Dp_int (SqL.of (K8 _ _ h7 (by simp))), Dp_int (SqL.of upd_same), shaped_int _, shaped_int _, ?_⟩
        rw [eqv_int, upB_eq so mem]
        exact q _ (K7.trans K8)
      · have hne : (qs.filter (isPr H)).length ≠ qs.length := fun z => hall (List.all_eq_true.mpr (List.filter_eq_self.mp (List.Sublist.eq_of_length List.filter_sublist z)))
        rw [Bool.eq_false_iff.mpr hall] at q
        have q' : ∀ H', Keep [] H H' → Q (.bl false) H' := fun H' k => by
          have := q H' k
          rw [Bool.false_and, Bool.and_false] at this
          exact this
        refine ⟨_, rfl, L, _, rfl, .inl (SqL.of h7), _, rfl, a, _, 5, .ref r, rfl, rfl, SqT.of ha7, rfl, r, _, rfl, .inr (SqT.of hr7), rfl, _, rfl, ite2 (fun c => ?_) (fun c => ?_)⟩
        · have c := of_decide_eq_true c
          injection c with c
          rw [List.length_map, lm] at c
          exact absurd (by omega) hne
        · exact ⟨_, rfl, iteF (q' _ K7)⟩
end
end My
set_option Elab.async false
set_option maxRecDepth 100000
set_option maxHeartbeats 800000
namespace My
open PySem L2 TL StX
theorem Prs.keepD {H H' : Hp} {ds : List Addr} {rs : List Addr} {ps : List PRO} (h : Prs H rs ps) (k : Keep ds H H') (hd : ∀ b ∈ ds, ∀ xs, H b ≠ some (.tup xs)) : Prs H' rs ps :=
  Paired.mapP h fun r p x => k _ _ x fun z => hd r z _ x
theorem DrawAt.notup {H : Hp} {d c : Addr} (D : DrawAt H d c) : ∀ b ∈ [d, c], ∀ xs, H b ≠ some (.tup xs) := by
  obtain ⟨ns, k, l, h1, h2, _⟩ := D
  intro b hb xs e
  rcases List.mem_cons.mp hb with rfl | hb
  · rw [h1] at e; cases e
  · rw [List.mem_singleton] at hb; subst hb
    rw [h2] at e; cases e
theorem DrawAt.ntup {H : Hp} {d c p : Addr} {xs : List V} (D : DrawAt H d c) (h : H p = some (.tup xs)) : p ∉ [d, c] := fun z => D.notup p z xs h
theorem DrawAt.nnew {H : Hp} {d c p : Addr} (D : DrawAt H d c) (h : H p = none) : p ∉ [d, c] := by
  obtain ⟨a, b⟩ := D.new h
  simp only [List.mem_cons, List.not_mem_nil, or_false, not_or]
  exact ⟨a.symm, b.symm⟩
theorem pick_new {H : Hp} {d c a : Addr} {xs : List V} (D : DrawAt H d c) (ha : H a = none) : PickV (upd H a (.lst xs)) d c (.ref a) xs := .inl ⟨a, rfl, D.nnew ha, .inl upd_same⟩
/-- a promise of the law's own -/
structure OwnP (p : PRO) : Prop where
  ok : OkP p
  m : p.m ≤ 100000000000000
  u : p.u ≤ 100000000000000000000
structure OwnS (s : SO) : Prop where
  ok : OkS s
  p : s.p ≤ 100000000000000000001
  t : s.t ≤ 100000000000000000000
  ps : ∀ p ∈ s.ps, OwnP p
section
variable {P : Program} {w : World} {K : PySem.W.Frag} {mg : Str → Option Value} {base : Heap}
def sp_proml : Sp := fun vs H Q _ => ∃ d c, vs = [.ref d, .int 4] ∧ DrawAt H d c ∧ ∀ r rs ps H', H' r = some (.tup (rs.map V.ref)) → Prs H' rs ps → ps.length ≤ 4 → (ps.map (·.m)).Pairwise (· < ·) → (∀ p ∈ ps, OwnP p) → DrawAt H' d c → Keep [d, c] H H' → Q (.ref r) H'
theorem p__law_promises (T : Txt K mg) : Pr P w K mg base "_law_promises" s__law_promises ["draw", "most"] 3 sp_proml := by
  obtain ⟨f, fd, D⟩ := T.d__law_promises
  obtain ⟨f__law_take, fd__law_take, D__law_take, G__law_take⟩ := p__law_take (P := P) (w := w) (base := base) T; obtain ⟨f__law_pick, fd__law_pick, D__law_pick, G__law_pick⟩ := p__law_pick (P := P) (w := w) (base := base) T
  refine ⟨f, fd, D, D.F.ok sc__law_promises (fun vs H Q E h => ?_) (fun cdv A outer s H vs Q E hr h => ?_)⟩
  · obtain ⟨d, c, rfl, _⟩ := h; rfl
  · obtain ⟨d, c, rfl, D0, q⟩ := h
    have hsl : sizeLine = 16777216 := sizeLine_eq
    refine ⟨_, (pss_cons (ps_par (i := 2) (j := 3) (by rfl) sc__law_promises.nd rfl rfl (by decide) rfl rfl (pa_cons (pe_lst pa_nil) (pa_cons pe_int pa_nil)) (by rfl))
      (pss_cons (ps_for PassesOwn.never rfl (pi_range1 rfl T.z_range (pa_cons (pe_call G__law_take (hr.mono (by decide)) rfl D__law_take.m D__law_take.F.kp D__law_take.b .nil pass0 (pa_cons (pv 0) (pa_cons (pe_op op_add (pv 1) pe_int) pa_nil))) pa_nil)) (pg_name (i := 4) sc__law_promises.nd rfl (Or.inl rfl)) (pss_cons (ps_set (i := 3) sc__law_promises.nd rfl (Or.inl rfl) (pe_op op_add (pe_op op_add (pv 3) pe_int) (pe_call G__law_pick (hr.mono (by decide)) rfl D__law_pick.m D__law_pick.F.kp D__law_pick.b .nil pass0 (pa_cons (pv 0) (pa_cons (pe_lst (pa_cons pe_int (pa_cons pe_int (pa_cons (pe_call G__law_take (hr.mono (by decide)) rfl D__law_take.m D__law_take.F.kp D__law_take.b .nil pass0 (pa_cons (pv 0) (pa_cons pe_int pa_nil))) (pa_cons (pe_op op_pow pe_int pe_int) pa_nil))))) pa_nil)))))
      (pss_cons (ps_set (i := 5) sc__law_promises.nd rfl (Or.inl rfl) (pe_call G__law_pick (hr.mono (by decide)) rfl D__law_pick.m D__law_pick.F.kp D__law_pick.b .nil pass0 (pa_cons (pv 0) (pa_cons (pe_lst (pa_cons pe_int (pa_cons (pe_op op_pow pe_int pe_int) (pa_cons (pe_op op_add pe_int (pe_call G__law_take (hr.mono (by decide)) rfl D__law_take.m D__law_take.F.kp D__law_take.b .nil pass0 (pa_cons (pv 0) (pa_cons pe_int pa_nil)))) (pa_cons (pe_op op_add pe_int (pe_call G__law_take (hr.mono (by decide)) rfl D__law_take.m D__law_take.F.kp D__law_take.b .nil pass0 (pa_cons (pv 0) (pa_cons (pe_op op_pow pe_int pe_int) pa_nil)))) pa_nil))))) pa_nil))))
      (pss_cons (ps_set (i := 6) sc__law_promises.nd rfl (Or.inl rfl) (pe_call G__law_pick (hr.mono (by decide)) rfl D__law_pick.m D__law_pick.F.kp D__law_pick.b .nil pass0 (pa_cons (pv 0) (pa_cons (pe_lst (pa_cons pe_int (pa_cons (pe_op op_pow pe_int pe_int) (pa_cons (pe_call G__law_take (hr.mono (by decide)) rfl D__law_take.m D__law_take.F.kp D__law_take.b .nil pass0 (pa_cons (pv 0) (pa_cons pe_int pa_nil))) (pa_cons (pe_call G__law_take (hr.mono (by decide)) rfl D__law_take.m D__law_take.F.kp D__law_take.b .nil pass0 (pa_cons (pv 0) (pa_cons (pe_op op_pow pe_int pe_int) pa_nil))) pa_nil))))) pa_nil))))
      (pss_one (ps_expr (pe_bm PySem.F.plainAttrs_list PySem.F.slot_list_append PySem.F.type_list_append mt_append (pv 2) (pa_cons (pe_tup (pa_cons (pv 3) (pa_cons (pe_call G__law_take (hr.mono (by decide)) rfl D__law_take.m D__law_take.F.kp D__law_take.b .nil pass0 (pa_cons (pv 0) (pa_cons pe_int pa_nil))) (pa_cons (pv 5) (pa_cons (pv 6) (pa_cons (pe_call G__law_pick (hr.mono (by decide)) rfl D__law_pick.m D__law_pick.F.kp D__law_pick.b .nil pass0 (pa_cons (pv 0) (pa_cons (pe_lst (pa_cons pe_int (pa_cons (pe_call G__law_take (hr.mono (by decide)) rfl D__law_take.m D__law_take.F.kp D__law_take.b .nil pass0 (pa_cons (pv 0) (pa_cons pe_int pa_nil))) (pa_cons (pe_op op_pow pe_int pe_int) pa_nil)))) pa_nil))) pa_nil)))))) pa_nil))))))))
      (pss_one (ps_ret (pe_callTy call_tuple_of (by rfl) T.z_tuple (by decide +kernel) (pa_cons (pv 2) pa_nil)))))), ?_⟩
    refine ⟨Nat.zero_le _, fun p hp => ?_⟩
    have D1 := D0.keep (Keep.upd_new (ds := []) hp (o := .lst []))
    refine ⟨_, _, rfl, _, rfl, _, rfl, _, _, rfl, rfl, d, c, _, rfl, D1, by decide, by decide, fun m H1 m0 m1 D2 K2 => ?_⟩
    have np := D0.nnew hp
    have hp2 := K2 _ _ upd_same np
    refine ⟨m, rfl, by omega, by omega, ?_⟩
    have K02 : Keep [d, c] H H1 := (Keep.upd_new hp).trans K2
    refine for_range (lo := 0) (n := m.toNat) (fun i σ H2 => DrawAt H2 d c ∧ Keep [d, c] H H2 ∧ ∃ (rs : List Addr) (ps : List PRO) (z : Int) (v4 v5 v6 : Option V), σ = [some (.ref d), some (.int 4), some (.ref p), some (.int z), v4, v5, v6] ∧ H2 p = some (.lst (rs.map V.ref)) ∧ Prs H2 rs ps ∧ (∀ p ∈ ps, OwnP p) ∧ ps.length = i ∧ 0 ≤ z ∧ z ≤ i * 2000000000000 ∧ (∀ p ∈ ps, p.m ≤ z) ∧ (ps.map (·.m)).Pairwise (· < ·)) ⟨D2, K02, [], [], 0, none, none, none, rfl, hp2, .nil, by simp, rfl, by decide, by decide, by simp, .nil⟩ ?_ ?_
    · rintro i σ H2 hi ⟨D2, K2, rs, ps, z, v4, v5, v6, rfl, h2, pr2, op, il, z0, z1, zm, up⟩
      have np2 : p ∉ [d, c] := np
      refine ⟨_, rfl, _, _, rfl, rfl, _, rfl, _, rfl, d, c, _, rfl, D2, by decide, by decide, fun g H3 g0 g1 D3 K3 => ⟨_, _, rfl, rfl, ⟨by decide, by decide, by decide⟩, by show 4 ≤ sizeLine; omega, fun a ha => ?_⟩⟩
      refine ⟨d, c, _, _, rfl, D3.keep (Keep.upd_new (ds := []) ha), pick_new D3 ha, by show 0 < 4; decide, by show 4 < 1000000000; decide, fun v H4 hv D4 K4 => ?_⟩
      obtain ⟨n1, rfl, n10, n11⟩ : ∃ n : Int, v = .int n ∧ 0 ≤ n ∧ n ≤ 1000000000000 := by
        have e : ((fun i j : Int => V.int (i ^ j.toNat)) 10 12) = V.int 1000000000000 := by decide +kernel
        rw [e] at hv
        simp only [List.mem_cons, List.not_mem_nil, or_false] at hv
        rcases hv with rfl | rfl | rfl | rfl
        · exact ⟨_, rfl, by decide, by decide⟩
        · exact ⟨_, rfl, by decide, by decide⟩
        · exact ⟨_, rfl, g0, by omega⟩
        · exact ⟨_, rfl, by decide, by decide⟩
      have K24 : Keep [d, c] H2 H4 := (K3.trans (Keep.upd_new ha)).trans K4
      clear K3 K4 D3 ha
      refine ⟨_, _, rfl, rfl, ?_⟩
      have e9 : ((fun i j : Int => i ^ j.toNat) 10 9) = 1000000000 := by decide +kernel
      have e30 : ((fun i j : Int => i ^ j.toNat) 10 30) = 1000000000000000000000000000000 := by decide +kernel
      refine ⟨_, rfl, _, _, rfl, rfl, ⟨by decide, by decide, by decide⟩, _, rfl, d, c, _, rfl, D4, by decide, by decide, fun g2 H5 g20 g21 D5 K5 => ⟨_, _, rfl, rfl, _, rfl, _, _, rfl, rfl, ⟨by decide, by decide, by decide⟩, d, c, _, rfl, D5, by decide, by decide, fun g3 H6 g30 g31 D6 K6 => ⟨_, _, rfl, rfl, by show 4 ≤ sizeLine; omega, fun a ha => ?_⟩⟩⟩
      refine ⟨d, c, _, _, rfl, D6.keep (Keep.upd_new (ds := []) ha), pick_new D6 ha, by show 0 < 4; decide, by show 4 < 1000000000; decide, fun v H7 hv D7 K7 => ?_⟩
      obtain ⟨n2, rfl, n20, n21⟩ : ∃ n : Int, v = .int n ∧ 1 ≤ n ∧ n ≤ 1000000000 := by
        have g31 : g3 < 1000000000 := e9 ▸ g31
        have e : ((fun i j : Int => V.int (i ^ j.toNat)) 10 9) = V.int 1000000000 := by decide +kernel
        rw [e] at hv
        simp only [List.mem_cons, List.not_mem_nil, or_false] at hv
        rcases hv with rfl | rfl | rfl | rfl
        · exact ⟨_, rfl, by decide, by decide⟩
        · exact ⟨_, rfl, by decide, by decide⟩
        · exact ⟨_, rfl, by omega, by omega⟩
        · exact ⟨_, rfl, by omega, by omega⟩
      have K27 : Keep [d, c] H2 H7 := (((K24.trans K5).trans K6).trans (Keep.upd_new ha)).trans K7
      clear K24 K5 K6 K7 D4 D5 D6 ha
      refine ⟨_, rfl, _, _, rfl, rfl, ⟨by decide, by decide, by decide⟩, _, rfl, d, c, _, rfl, D7, by decide, by decide, fun g4 H8 g40 g41 D8 K8 => ⟨_, rfl, _, _, rfl, rfl, ⟨by decide, by decide, by decide⟩, d, c, _, rfl, D8, by decide, by decide, fun g5 H9 g50 g51 D9 K9 => ⟨by show 4 ≤ sizeLine; omega, fun a ha => ?_⟩⟩⟩
      refine ⟨d, c, _, _, rfl, D9.keep (Keep.upd_new (ds := []) ha), pick_new D9 ha, by show 0 < 4; decide, by show 4 < 1000000000; decide, fun v H10 hv D10 K10 => ?_⟩
      obtain ⟨n3, rfl, n30, n31⟩ : ∃ n : Int, v = .int n ∧ 0 ≤ n ∧ n ≤ 1000000000000000000000000000000 := by
        have g51 : g5 < 1000000000000000000000000000000 := e30 ▸ g51
        have e : ((fun i j : Int => V.int (i ^ j.toNat)) 10 30) = V.int 1000000000000000000000000000000 := by decide +kernel
        rw [e] at hv
        simp only [List.mem_cons, List.not_mem_nil, or_false] at hv
        rcases hv with rfl | rfl | rfl | rfl
        · exact ⟨_, rfl, by decide, by decide⟩
        · exact ⟨_, rfl, by decide, by decide⟩
        · exact ⟨_, rfl, by omega, by omega⟩
        · exact ⟨_, rfl, by omega, by omega⟩
      have K210 : Keep [d, c] H2 H10 := (((K27.trans K8).trans K9).trans (Keep.upd_new ha)).trans K10
      clear K27 K8 K9 K10 D7 D8 D9 ha
      refine ⟨_, rfl, .inl ⟨rfl, _, SqL.of (K210 _ _ h2 np2)⟩, ?_⟩
      refine ⟨_, rfl, _, rfl, d, c, _, rfl, D10, by decide, by decide, fun g6 H11 g60 g61 D11 K11 => ?_⟩
      refine ⟨_, rfl, _, rfl, _, rfl, _, rfl, d, c, _, rfl, D11, by decide, by decide, fun g7 H12 g70 g71 D12 K12 => ⟨_, _, rfl, rfl, ⟨by decide, by decide, by decide⟩, by show 3 ≤ sizeLine; omega, fun a ha => ?_⟩⟩
      refine ⟨d, c, _, _, rfl, D12.keep (Keep.upd_new (ds := []) ha), pick_new D12 ha, by show 0 < 3; decide, by show 3 < 1000000000; decide, fun v H13 hv D13 K13 => ?_⟩
      obtain ⟨n5, rfl, n50, n51⟩ : ∃ n : Int, v = .int n ∧ 0 ≤ n ∧ n ≤ 100000000000000000000 := by
        have e : ((fun i j : Int => V.int (i ^ j.toNat)) 10 20) = V.int 100000000000000000000 := by decide +kernel
        rw [e] at hv
        simp only [List.mem_cons, List.not_mem_nil, or_false] at hv
        rcases hv with rfl | rfl | rfl
        · exact ⟨_, rfl, by decide, by decide⟩
        · exact ⟨_, rfl, g70, by omega⟩
        · exact ⟨_, rfl, by decide, by decide⟩
      have K213 : Keep [d, c] H2 H13 := (((K210.trans K11).trans K12).trans (Keep.upd_new ha)).trans K13
      clear K210 K11 K12 K13 D10 D11 D12 ha
      refine ⟨by show 5 ≤ sizeLine; omega, fun t ht => ?_⟩
      have ez : ((fun i j : Int => V.int (i + j)) (z + 1) n1) = V.int (z + 1 + n1) := rfl
      have hz0 : (0 : Int) ≤ (i : Nat) * 2000000000000 := by omega
      have hi4 : (i : Int) < 5 := by omega
      obtain ⟨q', hq⟩ : ∃ q' : PRO, q' = ⟨z + 1 + n1, g6, n2, n3, n5⟩ := ⟨_, rfl⟩
      have eB := BIG_eq
      have own : OwnP q' := by
        rw [hq]
        exact ⟨⟨by show 1 ≤ z + 1 + n1; omega, by show z + 1 + n1 < BIG; omega, by show g6 = 0 ∨ g6 = 1; omega, n20, n21, n30, n31, n50, by show n5 < BIG; omega⟩, by show z + 1 + n1 ≤ _; omega, n51⟩
      have K214 := K213.trans (Keep.upd_new (ds := [d, c]) ht (o := .tup (prV q')))
      have ht14 : (upd H13 t (.tup (prV q'))) t = some (.tup (prV q')) := upd_same
      have D14 := D13.keep (Keep.upd_new (ds := []) ht (o := .tup (prV q')))
      have et : HO.tup [V.int (z + 1 + n1), .int g6, .int n2, .int n3, .int n5] = .tup (prV q') := by rw [hq]; rfl
      rw [show [(fun i j : Int => V.int (i + j)) (z + 1) n1, V.int g6, V.int n2, V.int n3, V.int n5] = prV q' from by rw [hq]; rfl]
      generalize upd H13 t (HO.tup (prV q')) = H14 at K214 ht14 D14
      have h14 := K214 _ _ h2 np2
      have pr14 := (pr2.keepD K214 D2.notup).snoc ht14
      refine ⟨p, _, _, rfl, rfl, h14, by rw [List.length_map, pr2.len]; omega, ?_⟩
      have npd : d ∉ [p] ∧ c ∉ [p] := by
        simp only [List.mem_cons, List.not_mem_nil, or_false, not_or] at np2 ⊢
        exact ⟨fun e => np2.1 e.symm, fun e => np2.2 e.symm⟩
      refine ⟨D14.keep (Keep.upd_in (ds := [p]) (by simp)) npd.1 npd.2, fun b o e hb => ?_, rs ++ [t], ps ++ [q'], z + 1 + n1, _, _, _, rfl, by rw [upd_same, List.map_append]; rfl, pr14.keepL h14, fun x hx => ?_, by simp [il], by omega, by omega, fun x hx => ?_, ?_⟩
      · rw [upd_ne (ne_of_none e hp)]; exact (K2.trans K214) b o e hb
      · rcases List.mem_append.mp hx with hx | hx
        · exact op x hx
        · rw [List.mem_singleton] at hx; subst hx; exact own
      · rcases List.mem_append.mp hx with hx | hx
        · have := zm x hx; omega
        · rw [List.mem_singleton] at hx; subst hx; rw [hq]; show z + 1 + n1 ≤ _; omega
      · rw [List.map_append]
        refine List.pairwise_append.mpr ⟨up, by simp, fun x hx y hy => ?_⟩
        obtain ⟨p', hp', rfl⟩ := List.mem_map.mp hx
        simp only [List.map_cons, List.map_nil, List.mem_singleton] at hy
        subst hy
        have := zm p' hp'
        rw [hq]; show p'.m < z + 1 + n1; omega
    · rintro σ H2 ⟨D2, K2, rs, ps, z, v4, v5, v6, rfl, h2, pr2, op, il, z0, z1, zm, up⟩
      exact ⟨_, rfl, p, _, rfl, .inl ⟨SqL.of h2, fun r hr2 => q r rs ps _ upd_same (pr2.keepD (Keep.upd_new (ds := []) hr2) (by simp)) (by omega) up op (D2.keep (Keep.upd_new (ds := []) hr2)) (K2.trans (Keep.upd_new hr2))⟩⟩
end
end My
set_option Elab.async false
set_option maxRecDepth 100000
set_option maxHeartbeats 800000
namespace My
open PySem L2 TL StX
section
variable {P : Program} {w : World} {K : PySem.W.Frag} {mg : Str → Option Value} {base : Heap}
theorem StAt.keepD {H H' : Hp} {ds : List Addr} {a r : Addr} {rs : List Addr} {s : SO} (h : StAt H a r rs s) (k : Keep ds H H') (hd : ∀ b ∈ ds, ∀ xs, H b ≠ some (.tup xs)) : StAt H' a r rs s :=
  ⟨k _ _ h.ha fun z => hd a z _ h.ha, k _ _ h.hr fun z => hd r z _ h.hr, h.pr.keepD k hd⟩
def sp_stl : Sp := fun vs H Q _ => ∃ d c, vs = [.ref d] ∧ DrawAt H d c ∧ ∀ a r rs s H', StAt H' a r rs s → OwnS s → DrawAt H' d c → Keep [d, c] H H' → Q (.ref a) H'
theorem p__law_state (T : Txt K mg) : Pr P w K mg base "_law_state" s__law_state ["draw"] 4 sp_stl := by
  obtain ⟨f, fd, D⟩ := T.d__law_state
  obtain ⟨f__law_promises, fd__law_promises, D__law_promises, G__law_promises⟩ := p__law_promises (P := P) (w := w) (base := base) T; obtain ⟨f__law_pick, fd__law_pick, D__law_pick, G__law_pick⟩ := p__law_pick (P := P) (w := w) (base := base) T; obtain ⟨f__law_take, fd__law_take, D__law_take, G__law_take⟩ := p__law_take (P := P) (w := w) (base := base) T
  refine ⟨f, fd, D, D.F.ok sc__law_state (fun vs H Q E h => ?_) (fun cdv A outer s H vs Q E hr h => ?_)⟩
  · obtain ⟨d, c, rfl, _⟩ := h; rfl
  · obtain ⟨d, c, rfl, D0, q⟩ := h
    have hsl : sizeLine = 16777216 := sizeLine_eq
    have e10 : ((fun i j : Int => i ^ j.toNat) 10 10) = 10000000000 := by decide +kernel
    refine ⟨_, (pss_cons (ps_setLc (i := 1) (own := [("k", 3)]) (g := gName 3) (tt := tYes) rfl sc__law_state.nd rfl rfl (sw_true rfl rfl rfl (by decide +kernel)) (pi_range1 rfl T.z_range (pa_cons pe_int pa_nil)) (blkOk_by (own := [("k", 3)]) (N := N__law_state) (sc := defScope s__law_state) (by decide +kernel)) (fun _ _ _ _ _ => (pg_name (i := 3) sc__law_state.nd rfl (Or.inl rfl))) (fun _ _ _ _ _ => pts_nil) (fun _ _ _ _ _ => (pe_call G__law_pick (hr.mono (by decide)) rfl D__law_pick.m D__law_pick.F.kp D__law_pick.b .nil pass0 (pa_cons (pv 0) (pa_cons (pe_lst (pa_cons pe_int (pa_cons (pe_op op_pow pe_int pe_int) (pa_cons (pe_call G__law_take (hr.mono (by decide)) rfl D__law_take.m D__law_take.F.kp D__law_take.b .nil pass0 (pa_cons (pv 0) (pa_cons pe_int pa_nil))) (pa_cons (pe_call G__law_take (hr.mono (by decide)) rfl D__law_take.m D__law_take.F.kp D__law_take.b .nil pass0 (pa_cons (pv 0) (pa_cons (pe_op op_pow pe_int pe_int) pa_nil))) pa_nil))))) pa_nil)))))
      (pss_cons (ps_set (i := 2) sc__law_state.nd rfl (Or.inl rfl) (pe_lst (pa_cons (pe_op op_add pe_int (pe_call G__law_pick (hr.mono (by decide)) rfl D__law_pick.m D__law_pick.F.kp D__law_pick.b .nil pass0 (pa_cons (pv 0) (pa_cons (pe_lst (pa_cons pe_int (pa_cons (pe_call G__law_take (hr.mono (by decide)) rfl D__law_take.m D__law_take.F.kp D__law_take.b .nil pass0 (pa_cons (pv 0) (pa_cons pe_int pa_nil))) (pa_cons (pe_op op_pow pe_int pe_int) pa_nil)))) pa_nil)))) pa_nil)))
      (pss_cons (ps_expr (pe_bm PySem.F.plainAttrs_list PySem.F.slot_list_append PySem.F.type_list_append mt_append (pv 2) (pa_cons (pe_call G__law_pick (hr.mono (by decide)) rfl D__law_pick.m D__law_pick.F.kp D__law_pick.b .nil pass0 (pa_cons (pv 0) (pa_cons (pe_lst (pa_cons pe_int (pa_cons pe_int (pa_cons (pe_call G__law_take (hr.mono (by decide)) rfl D__law_take.m D__law_take.F.kp D__law_take.b .nil pass0 (pa_cons (pv 0) (pa_cons pe_int pa_nil))) (pa_cons (pe_op op_pow pe_int pe_int) pa_nil))))) pa_nil))) pa_nil)))
      (pss_one (ps_ret (pe_tup (pa_cons pe_str (pa_cons (pe_ix ix_list (pv 2) pe_int (fun _ _ => rfl)) (pa_cons (pe_ix ix_list (pv 2) pe_int (fun _ _ => rfl)) (pa_cons (pe_ix ix_list (pv 1) pe_int (fun _ _ => rfl)) (pa_cons (pe_ix ix_list (pv 1) pe_int (fun _ _ => rfl)) (pa_cons (pe_call G__law_promises (hr.mono (by decide)) rfl D__law_promises.m D__law_promises.F.kp D__law_promises.b .nil pass0 (pa_cons (pv 0) (pa_cons pe_int pa_nil))) pa_nil)))))))))))), ?_⟩
    refine ⟨2, rfl, by decide, by decide, fun L hL => ?_⟩
    have nL := D0.nnew hL
    refine lc_range (lo := 0) (n := ((2 : Int)).toNat) (fun t H8 => DrawAt H8 d c ∧ Keep [d, c] H H8 ∧ ∃ zs : List Int, H8 L = some (.lst (zs.map V.int)) ∧ zs.length = t ∧ ∀ z ∈ zs, 0 ≤ z ∧ z ≤ 10000000000) ⟨D0.keep (Keep.upd_new (ds := []) hL), Keep.upd_new hL, [], upd_same, rfl, by simp⟩ ?_ ?_
    · rintro k H8 hk ⟨D8, K8, zs, h8, zl, zb⟩
      refine ⟨rfl, tYes_go (yes ?_)⟩
      refine ⟨_, rfl, _, _, rfl, rfl, ⟨by decide, by decide, by decide⟩, _, rfl, d, c, _, rfl, D8, by decide, by decide, fun g H9 g0 g1 D9 K9 => ⟨_, rfl, _, _, rfl, rfl, ⟨by decide, by decide, by decide⟩, d, c, _, rfl, D9, by decide, by decide, fun g2 H10 g20 g21 D10 K10 => ⟨by show 4 ≤ sizeLine; omega, fun a ha => ?_⟩⟩⟩
      refine ⟨d, c, _, _, rfl, D10.keep (Keep.upd_new (ds := []) ha), pick_new D10 ha, by show 0 < 4; decide, by show 4 < 1000000000; decide, fun v H11 hv D11 K11 => ?_⟩
      obtain ⟨n, rfl, n0, n1⟩ : ∃ n : Int, v = .int n ∧ 0 ≤ n ∧ n ≤ 10000000000 := by
        have g21 : g2 < 10000000000 := e10 ▸ g21
        have e : ((fun i j : Int => V.int (i ^ j.toNat)) 10 10) = V.int 10000000000 := by decide +kernel
        rw [e] at hv
        simp only [List.mem_cons, List.not_mem_nil, or_false] at hv
        rcases hv with rfl | rfl | rfl | rfl
        · exact ⟨_, rfl, by decide, by decide⟩
        · exact ⟨_, rfl, by decide, by decide⟩
        · exact ⟨_, rfl, g0, by omega⟩
        · exact ⟨_, rfl, g20, by omega⟩
      have KA := ((K9.trans K10).trans (Keep.upd_new ha)).trans K11
      have h11 := KA _ _ h8 nL
      have npd : d ∉ [L] ∧ c ∉ [L] := by
        simp only [List.mem_cons, List.not_mem_nil, or_false, not_or] at nL ⊢
        exact ⟨fun e => nL.1 e.symm, fun e => nL.2 e.symm⟩
      refine ⟨_, h11, by rw [List.length_map]; omega, D11.keep (Keep.upd_in (ds := [L]) (by simp)) npd.1 npd.2, fun b o e hb => ?_, zs ++ [n], by rw [upd_same, List.map_append]; rfl, by simp [zl], fun z hz => ?_⟩
      · rw [upd_ne (ne_of_none e hL)]; exact (K8.trans KA) b o e hb
      · rcases List.mem_append.mp hz with hz | hz
        · exact zb z hz
        · rw [List.mem_singleton] at hz; subst hz; exact ⟨n0, n1⟩
    · rintro H8 ⟨D8, K8, zs, h8, zl, zb⟩
      obtain ⟨x, y, rfl⟩ : ∃ x y, zs = [x, y] := by
        match zs, zl with
        | [x, y], _ => exact ⟨x, y, rfl⟩
      obtain ⟨x0, x1⟩ := zb x (by simp)
      obtain ⟨y0, y1⟩ := zb y (by simp)
      have n20 : ∀ {v : V} {g : Int}, 0 ≤ g → g < 99 → v ∈ [V.int 0, .int 1, .int g, ((fun i j : Int => V.int (i ^ j.toNat)) 10 20)] → ∃ n : Int, v = .int n ∧ 0 ≤ n ∧ n ≤ 100000000000000000000 := by
        intro v g g0 g1 hv
        have e : ((fun i j : Int => V.int (i ^ j.toNat)) 10 20) = V.int 100000000000000000000 := by decide +kernel
        rw [e] at hv
        simp only [List.mem_cons, List.not_mem_nil, or_false] at hv
        rcases hv with rfl | rfl | rfl | rfl
        · exact ⟨_, rfl, by decide, by decide⟩
        · exact ⟨_, rfl, by decide, by decide⟩
        · exact ⟨_, rfl, g0, by omega⟩
        · exact ⟨_, rfl, by decide, by decide⟩
      refine ⟨_, rfl, _, rfl, d, c, _, rfl, D8, by decide, by decide, fun g H9 g0 g1 D9 K9 => ⟨_, _, rfl, rfl, ⟨by decide, by decide, by decide⟩, by show 3 ≤ sizeLine; omega, fun a ha => ?_⟩⟩
      refine ⟨d, c, _, _, rfl, D9.keep (Keep.upd_new (ds := []) ha), pick_new D9 ha, by show 0 < 3; decide, by show 3 < 1000000000; decide, fun v H10 hv D10 K10 => ?_⟩
      obtain ⟨np, rfl, np0, np1⟩ := n20 (v := v) g0 g1 (by
        simp only [List.mem_cons, List.not_mem_nil, or_false] at hv ⊢
        rcases hv with h | h | h
        · exact .inl h
        · exact .inr (.inr (.inl h))
        · exact .inr (.inr (.inr h)))
      have K10' := ((K9.trans (Keep.upd_new ha)).trans K10)
      clear K9 K10 D9 ha hv
      refine ⟨_, _, rfl, rfl, by show 1 ≤ sizeLine; omega, fun F hF => ?_⟩
      have D11 := D10.keep (Keep.upd_new (ds := []) hF (o := .lst [V.int (1 + np)]))
      have nF := D10.nnew hF
      have hF1 : (upd H10 F (.lst [V.int (1 + np)])) F = some (.lst [V.int (1 + np)]) := upd_same
      have K11 := K10'.trans (Keep.upd_new (ds := [d, c]) hF (o := .lst [V.int (1 + np)]))
      have KF : H8 F = none := K10'.none_of hF nF
      generalize upd H10 F (.lst [V.int (1 + np)]) = H11 at D11 hF1 K11
      clear K10' D10 hF
      refine ⟨_, rfl, .inl ⟨rfl, _, SqL.of hF1⟩, ?_⟩
      refine ⟨_, rfl, _, rfl, d, c, _, rfl, D11, by decide, by decide, fun g H12 g0 g1 D12 K12 => ⟨_, _, rfl, rfl, ⟨by decide, by decide, by decide⟩, by show 4 ≤ sizeLine; omega, fun a ha => ?_⟩⟩
      refine ⟨d, c, _, _, rfl, D12.keep (Keep.upd_new (ds := []) ha), pick_new D12 ha, by show 0 < 4; decide, by show 4 < 1000000000; decide, fun v H13 hv D13 K13 => ?_⟩
      obtain ⟨nt, rfl, nt0, nt1⟩ := n20 (v := v) g0 g1 hv
      have K113 := ((K12.trans (Keep.upd_new ha)).trans K13)
      clear K12 K13 D12 ha hv
      have hF13 := K113 _ _ hF1 nF
      have K813 := K11.trans K113
      refine ⟨F, _, _, rfl, rfl, hF13, by show 1 < sizeLine; omega, ?_⟩
      have npF : d ∉ [F] ∧ c ∉ [F] := by
        simp only [List.mem_cons, List.not_mem_nil, or_false, not_or] at nF ⊢
        exact ⟨fun e => nF.1 e.symm, fun e => nF.2 e.symm⟩
      have D14 := D13.keep (Keep.upd_in (ds := [F]) (p := F) (o := .lst ([V.int (1 + np)] ++ [.int nt])) (by simp)) npF.1 npF.2
      have hF14 : (upd H13 F (.lst ([V.int (1 + np)] ++ [.int nt]))) F = some (.lst [V.int (1 + np), .int nt]) := upd_same
      have K814 : Keep [d, c] H8 (upd H13 F (.lst ([V.int (1 + np)] ++ [.int nt]))) := fun b o e hb => by
        rw [upd_ne (ne_of_none e KF)]; exact K813 b o e hb
      generalize upd H13 F (.lst ([V.int (1 + np)] ++ [.int nt])) = H14 at D14 hF14 K814
      have h14 := K814 _ _ h8 nL
      refine ⟨_, rfl, F, _, 0, .int (1 + np), rfl, rfl, SqL.of hF14, rfl, ?_⟩
      refine ⟨_, rfl, F, _, 1, .int nt, rfl, rfl, SqL.of hF14, rfl, ?_⟩
      refine ⟨_, rfl, L, _, 0, .int x, rfl, rfl, SqL.of h14, rfl, ?_⟩
      refine ⟨_, rfl, L, _, 1, .int y, rfl, rfl, SqL.of h14, rfl, ?_⟩
      refine ⟨_, rfl, d, c, rfl, D14, fun r rs ps H15 hr15 pr15 l4 up op D15 K15 => ⟨by show 6 ≤ sizeLine; omega, fun A6 hA => ?_⟩⟩
      have eB := BIG_eq
      have KA := Keep.upd_new (ds := []) hA (o := .tup (stV ⟨1 + np, nt, x, y, ps⟩ r))
      refine q A6 r rs ⟨1 + np, nt, x, y, ps⟩ _ ⟨upd_same, KA _ _ hr15 (by simp), pr15.keep KA⟩ ⟨⟨by show 1 ≤ 1 + np; omega, by show 1 + np < BIG; omega, nt0, by show nt < BIG; omega, x0, x1, y0, y1, l4, up, fun p hp => (op p hp).ok⟩, by show 1 + np ≤ _; omega, nt1, op⟩ (D15.keep KA) ?_
      exact ((K8.trans K814).trans K15).trans (KA.mono (by simp))
end
end My
set_option Elab.async false
set_option maxRecDepth 100000
set_option maxHeartbeats 1600000
namespace My
open PySem PySem.Spec PyProof.Rows L2
section
variable {prog : Program} {w : World} {A : Around} {E : Value → Shared → Prop} {s : Shared}
/-- the places of xs[::-1] -/
theorem rev_parts {sl : Addr} {x y z : Value} {n : Nat} {Q : Int × Int × Nat → Shared → Prop} (hs : s.heap.IsSliceOf sl x y z) (px : IsPart x none) (py : IsPart y none) (pz : IsPart z (some (-1)))
    (q : ∀ m, m ≤ n → Q ((n : Int) - 1, -1, m) s) : wpAny (model prog w) A (Builtin.Slice.sliceApplied (.ref sl) (pure (n : Int))) Q E s := by
  obtain ⟨ob, hob, hcl, hdt⟩ := id hs
  unfold Builtin.Slice.sliceApplied Builtin.Slice.sliceFields
  refine wpAny_bind (wpAny_bind (wpAny_field hob hdt (x := x) rfl (wpAny_bind (wpAny_field hob hdt (x := y) rfl (wpAny_bind (wpAny_field hob hdt (x := z) rfl (wpAny_pure ?_)))))))
  refine wpAny_bind (HT.slicePart_ pz ?_)
  show wpAny _ _ (if ((-1 : Int) == 0) = true then _ else _) _ _ s
  rw [if_neg (by decide)]
  refine wpAny_bind (HT.slicePart_ px (wpAny_bind (HT.slicePart_ py (wpAny_bind (wpAny_pure ?_)))))
  have e : Builtin.Slice.sliceAdjust none none (-1) (n : Int) = ((n : Int) - 1, -1) := rfl
  show wpAny _ _ (match Builtin.Slice.sliceAdjust none none (-1) (n : Int) with | (a, b) => pure (a, (-1 : Int), Builtin.Slice.slicePlaces a b (-1))) _ _ s
  rw [e]
  refine wpAny_pure (q _ ?_)
  unfold Builtin.Slice.slicePlaces
  rw [if_neg (by decide)]
  split
  · rw [show (- -1 : Int) = 1 from rfl, Int.ediv_one]; omega
  · exact Nat.zero_le _
theorem tuple_back {t sl : Addr} {items : Array Value} {x y z : Value} {Q : Value → Shared → Prop} (hT : IsTup s.heap t items) (hs : s.heap.IsSliceOf sl x y z) (px : IsPart x none) (py : IsPart y none) (pz : IsPart z (some (-1))) (few : items.size ≤ sizeLine)
    (q : ∀ m, m ≤ items.size → Q (.ref s.heap.objs.size) { s with heap := s.heap.push { cls := .type "tuple", data := .seq ((List.range m).filterMap fun (k : Nat) => items[((items.size : Int) - 1 + (k : Int) * -1).toNat]?).toArray } }) :
    wpAny (model prog w) A (getItem (.ref t) (.ref sl)) Q E s := by
  obtain ⟨ob, hob, hcl, hdt⟩ := id hs
  have isSl : s.TypeIs (.ref sl) "slice" := ⟨ob, hob, hcl⟩
  unfold getItem
  (try with_reducible refine wpAny_holding ?_); (first | refine wpAny_bind (wpAny_pure ?_) | skip)
  refine wpAny_bind (wpAny_sequenceKey hT.typeIs (by decide) ?_)
  refine wpAny_bind (wpAny_callSpecial?_slot (name := Str.ofString "__getitem__") hT.typeIs slot_tuple_getitem (wpAny_call_entry slot_tuple_getitem hT.typeIs entry_tuple_getitem ?_ (args_tuple_getitem _ _)))
  show wpAny _ _ (Builtin.Tuple.tupleItemsOf (.ref t) >>= _) _ _ s
  refine wpAny_bind (tupleItemsOf_ hT (wpAny_bind (wpAny_typeOf isSl ?_)))
  rw [if_pos (by decide)]
  refine wpAny_bind (rev_parts hs px py pz fun m hm => ?_)
  have one : ¬ ((((items.size : Int) - 1 == 0 && (-1 : Int) == 1 && m == items.size)) = true) := by
    intro z
    rw [Bool.and_eq_true, Bool.and_eq_true] at z
    exact absurd z.1.2 (by decide)
  show wpAny _ _ (if ((items.size : Int) - 1 == 0 && (-1 : Int) == 1 && m == items.size) = true then _ else _) _ _ s
  rw [if_neg one]
  have fits : sizeOk (.seq ((List.range m).filterMap fun (k : Nat) => items[((items.size : Int) - 1 + (k : Int) * -1).toNat]?).toArray) := by
    show Array.size _ ≤ sizeLine
    rw [List.size_toArray]
    refine Nat.le_trans (List.length_filterMap_le _ _) ?_
    rw [List.length_range]; omega
  first
    | exact wpAny_bind (m := Builtin.Tuple.tupleExact _) (wpAny_newObj_type (wpAny_pure ⟨_, rfl, wpAny_pure (q m hm)⟩) fits)
    | exact wpAny_bind (m := Builtin.Tuple.tupleExact _) (wpAny_newObj_type (wpAny_bind (wpAny_pure (wpAny_pure ⟨_, rfl, wpAny_pure (q m hm)⟩))) fits)
/-- a tuple times one is it -/
theorem tuple_once (l : Addr) (items : Array Value) (n : Nat) (dd : Option Addr) (sl : Array (Option Value)) (u : Tok) :
    Meets (Builtin.«tuple.__mul__» ⟨[.ref l, .int 1 u], []⟩) (fun _ R s => s.heap.get? l = some { cls := .type "tuple", dict := dd, data := .seq items n, slots := sl } ∧ R (.ok (.ret (Value.ref l))) s) :=
  .of_wp fun prog w A R s h => by
    obtain ⟨hp, g, d, tk, os⟩ := s
    obtain ⟨at1, h⟩ := h
    have ix := AutoSeq1.idx_int
    have b1 : (decide ((1 : Int) < -(2 ^ 63)) || decide ((1 : Int) ≥ 2 ^ 63)) = false := by decide
    have b2 : (items.isEmpty || (1 : Int) == 1) = true := by rw [show ((1 : Int) == 1) = true from rfl, Bool.or_true]
    wp_walk using wpAny_loadPart' at1
    repeat (first
      | (refine wpAny_ite_false (decide_eq_false (by rw [b1]; exact Bool.false_ne_true)) ?_; wp_walk using wpAny_loadPart' at1)
      | (refine wpAny_ite_true (decide_eq_true b2) ?_; wp_walk using wpAny_loadPart' at1))
    exact ⟨_, rfl, h⟩
end
/-- some of the items, told by their places -/
theorem vals_some {xs : List V} {us : List Value} (r : Vals xs us) (f : Nat → Nat) : ∀ l : List Nat, Vals (l.filterMap fun k => xs[f k]?) (l.filterMap fun k => us[f k]?)
  | [] => .nil
  | k :: l => by
    have ih := vals_some r f l
    have hl := r.length
    cases e : xs[f k]? with
    | none =>
      have e2 : us[f k]? = none := by
        rw [List.getElem?_eq_none_iff] at e ⊢; omega
      simp only [List.filterMap_cons, e, e2]; exact ih
    | some x =>
      obtain ⟨u, hu, ru⟩ := r.get e
      simp only [List.filterMap_cons, e, hu]
      exact .cons ru ih
section
variable {X : Cx}
/-- xs[::-1] of a tuple: only that its items are xs's -/
def tBack (K : PySem.W.Frag) (te : TE) (ts : TO) : TE := fun σ H Q => te σ H fun x H1 => ts σ H1 fun u H2 => ∃ (a : Addr) (xs : List V), x = .ref a ∧ u = some (-1) ∧ SqT K H2 a xs ∧
  ∀ p zs, H2 p = none → zs.length ≤ xs.length → (∀ z ∈ zs, z ∈ xs) → Q (.ref p) (upd H2 p (.tup zs))
theorem pe_back {e st : Expr} {te : TE} {ts : TO} {p2 pos : Pos} (he : PE X e te) (hs : L2.PO X (some st) ts) : PE X (.Subscript e (.Slice none none (some st) p2) pos) (tBack X.K te ts) := by
  refine ⟨fun pins s σ H Q I h => Subscript_ (thn (he.run pins s σ H _ I h) fun v s1 ⟨x, H1, I1, r1, q1⟩ => ?_)⟩
  refine wpAny_Slice (thn (po_none.run pins s1 σ H1 (fun o G => o = none ∧ G = H1) I1 ⟨rfl, rfl⟩) fun vl s2 ⟨_, _, I2, pl, rfl, rfl⟩ => ?_)
  refine thn (po_none.run pins s2 σ _ (fun o G => o = none ∧ G = _) I2 ⟨rfl, rfl⟩) fun vu s3 ⟨_, _, I3, pu, rfl, rfl⟩ => ?_
  refine thn (hs.run pins s3 σ _ _ I3 q1) fun vs s4 ⟨u, H4, I4, ps, a, xs, ex, eu, hx, q⟩ => ?_
  subst ex; subst eu
  cases r1
  have J := I4.kept (t' := s4.toks) (h' := s4.heap.push ⟨.type "slice", none, .fields #[vl, vu, vs], #[]⟩) fun c o z => Heap.get?_push_of_some _ z
  obtain ⟨its, r, ht, hz⟩ := J.tuple hx
  have hlen := r.length
  refine tail_any (ops := [.ref a, .ref s4.heap.objs.size]) ht.typeIs slot_tuple_getitem.lookup ?_ (by with_unfolding_all rfl)
  refine tuple_back ht (Heap.IsSliceOf.new _ _ _ _) pl pu ps (by rw [List.size_toArray]; omega) fun m hm => ?_
  have few : ((List.range m).filterMap fun (k : Nat) => xs[((its.length : Int) - 1 + (k : Int) * -1).toNat]?).length ≤ xs.length := by
    refine Nat.le_trans (List.length_filterMap_le _ _) ?_
    rw [List.length_range]
    rw [List.size_toArray] at hm; omega
  refine ⟨.ref _, _, J.laid (t' := s4.toks) (o := .tup ((List.range m).filterMap fun (k : Nat) => xs[((its.length : Int) - 1 + (k : Int) * -1).toNat]?)) (fun c o z => Heap.get?_push_of_some _ z) (Nat.le_refl _) ?_, rfl, q _ _ (J.hok.fresh (Nat.le_refl _)) few fun z hz => ?_⟩
  · refine ⟨by omega, _, vals_some r (fun (k : Nat) => ((its.length : Int) - 1 + (k : Int) * -1).toNat) (List.range m), ?_⟩
    have e : ((List.range m).filterMap fun (k : Nat) => its.toArray[((its.toArray.size : Int) - 1 + (k : Int) * -1).toNat]?) = (List.range m).filterMap fun (k : Nat) => its[((its.length : Int) - 1 + (k : Int) * -1).toNat]? := by
      refine congrArg (fun f => List.filterMap f _) (funext fun k => ?_)
      rw [List.getElem?_toArray, List.size_toArray]
    rw [e]
    exact IsTup.new _ _
  · obtain ⟨k, _, hk⟩ := List.mem_filterMap.mp hz
    exact List.mem_of_getElem? hk
/-- xs * k of a tuple, also once -/
def rRepA (K : PySem.W.Frag) : R2 := fun x y H Q => ∃ l k xs, x = .ref l ∧ y = .int k ∧ SqT K H l xs ∧ xs ≠ [] ∧ 1 ≤ k ∧ k ≤ 1000 ∧ xs.length ≤ 1000 ∧ (k = 1 → Q (.ref l) H) ∧ (2 ≤ k → ∀ p, H p = none → Q (.ref p) (upd H p (.tup (List.replicate k.toNat xs).flatten)))
theorem op_repA : OpR X (binaryOp .Mult) (rRepA X.K) := by
  intro pins s σ H x y v u Q I rx ry h
  obtain ⟨l, k, xs, rfl, rfl, hT, hne, h1, h2, hz, q1, q2⟩ := h
  by_cases hk : k = 1
  · subst hk
    cases rx
    obtain ⟨t, rfl⟩ := ry
    obtain ⟨its, r, ⟨⟨cl, dd, dt, sl⟩, ho, hc, n, hd⟩, _⟩ := I.tuple hT
    simp only at hc hd
    subst hc hd
    exact wpAny_binaryOp_repeat_ref (T := "tuple") (U := "int") (by decide) ⟨_, ho, rfl⟩ (fun s' => typeIs_int s' 1 t) noFill_tuple_mul F.fills_int_mul F.slot_int_rmul repeat_tuple F.slot_int_index.lookup
      (call_meets F.slot_int_rmul (typeIs_int s 1 t) F.entry_int_rmul (F.args_int_rmul_2 _ _) (int_rmul_tuple 1 t l its.toArray n dd sl)
        ⟨ho, rfl, ⟨_, ho, rfl⟩, call_meets F.slot_tuple_mul ⟨_, ho, rfl⟩ F.entry_tuple_mul (F.args_tuple_mul_2 _ _) (tuple_once l its.toArray n dd sl t) ⟨ho, ⟨.ref l, H, I, rfl, q1 rfl⟩⟩⟩)
  · exact op_repT pins s σ H _ _ v u Q I rx ry ⟨l, k, xs, rfl, rfl, hT, hne, by omega, h2, hz, q2 (by omega)⟩
end
end My
set_option Elab.async false
set_option maxRecDepth 100000
set_option maxHeartbeats 1600000
namespace My
open PySem L2 TL StX
section
variable {ds : List Addr} {H H' : Hp} {v : V} {F : Hp → V → Prop} {a : Addr}
theorem parts_lst {xs : List V} (h : H a = some (.lst xs)) : partsOf H (.ref a) = none := by show (match H a with | some (.tup xs) => some xs | _ => none) = _; rw [h]
theorem parts_dct {xs : List (Key × V)} (h : H a = some (.dK xs)) : partsOf H (.ref a) = none := by show (match H a with | some (.tup xs) => some xs | _ => none) = _; rw [h]
theorem D0_non : D0 ds H .non := ⟨⟨_, .non⟩, ⟨by simp, by intro xs e; cases e⟩, by simp⟩
theorem D0_bl {b : Bool} : D0 ds H (.bl b) := ⟨⟨_, .bl b⟩, ⟨by simp, by intro xs e; cases e⟩, by simp⟩
theorem D0_int {i : Int} (h : i ≤ BND) : D0 ds H (.int i) := ⟨⟨_, .int i⟩, ⟨by simp, by intro xs e; cases e⟩, fun j e => by injection e with e; subst e; exact h⟩
theorem D0_str {z : Str} (h : z.length ≤ sizeLine) : D0 ds H (.str z) := ⟨⟨_, .str z h⟩, ⟨by simp, by intro xs e; cases e⟩, by simp⟩
theorem D0_lst {xs : List V} (h : H a = some (.lst xs)) (n : a ∉ ds) : D0 ds H (.ref a) := ⟨⟨_, .lst h⟩, ⟨fun b e => by cases e; exact n, fun ys e => by rw [parts_lst h] at e; cases e⟩, by simp⟩
theorem D0_dct {xs : List (Key × V)} (h : H a = some (.dK xs)) (n : a ∉ ds) : D0 ds H (.ref a) := ⟨⟨_, .dct h⟩, ⟨fun b e => by cases e; exact n, fun ys e => by rw [parts_dct h] at e; cases e⟩, by simp⟩
theorem D0_tup {xs : List V} (h : H a = some (.tup xs)) (n : a ∉ ds) (l : xs.length ≤ 100) : D0 ds H (.ref a) := ⟨⟨_, .tup h⟩, ⟨fun b e => by cases e; exact n, fun ys e => by rw [parts_tup h] at e; cases e; exact l⟩, by simp⟩
theorem Deep_flat (h : D0 ds H v) (e : partsOf H v = none) : Deep F ds H v := ⟨h, fun xs z => by rw [e] at z; cases z⟩
theorem Deep_tup {xs : List V} (h : H a = some (.tup xs)) (n : a ∉ ds) (l : xs.length ≤ 100) (q : ∀ x ∈ xs, F H x) : Deep F ds H (.ref a) := ⟨D0_tup h n l, fun ys e => by rw [parts_tup h] at e; cases e; exact q⟩
theorem Deep_non : Deep F ds H .non := Deep_flat D0_non rfl
theorem Deep_bl {b : Bool} : Deep F ds H (.bl b) := Deep_flat D0_bl rfl
theorem Deep_int {i : Int} (h : i ≤ BND) : Deep F ds H (.int i) := Deep_flat (D0_int h) rfl
theorem Deep_str {z : Str} (h : z.length ≤ sizeLine) : Deep F ds H (.str z) := Deep_flat (D0_str h) rfl
theorem Deep_lst {xs : List V} (h : H a = some (.lst xs)) (n : a ∉ ds) : Deep F ds H (.ref a) := Deep_flat (D0_lst h n) (parts_lst h)
theorem Deep_dct {xs : List (Key × V)} (h : H a = some (.dK xs)) (n : a ∉ ds) : Deep F ds H (.ref a) := Deep_flat (D0_dct h n) (parts_dct h)
end
theorem cut_mem {xs : List V} {lo hi : Option Int} {z : V} (h : z ∈ cutV xs lo hi) : z ∈ xs := List.mem_of_mem_drop (List.mem_of_mem_take h)
theorem all5 {a b c d e : V} {p : V → Prop} (h1 : p a) (h2 : p b) (h3 : p c) (h4 : p d) (h5 : p e) : ∀ x ∈ [a, b, c, d, e], p x := by
  intro x hx
  simp only [List.mem_cons, List.not_mem_nil, or_false] at hx
  rcases hx with rfl | rfl | rfl | rfl | rfl <;> assumption
/-- what a thing is put between -/
theorem put_mem {xs : List V} {v z : V} {l h l2 h2 : Option Int} {p : V → Prop} (hx : ∀ y ∈ xs, p y) (hv : p v) (hz : z ∈ (cutV xs l h ++ [v]) ++ cutV xs l2 h2) : p z := by
  rcases List.mem_append.mp hz with hz | hz
  · rcases List.mem_append.mp hz with hz | hz
    · exact hx z (cut_mem hz)
    · rw [List.mem_singleton] at hz; subst hz; exact hv
  · exact hx z (cut_mem hz)
theorem put_len {xs : List V} {v : V} {l h l2 h2 : Option Int} : ((cutV xs l h ++ [v]) ++ cutV xs l2 h2).length ≤ 2 * xs.length + 1 := by
  have b1 : (cutV xs l h).length ≤ xs.length := cutV_length _ _ _
  have b2 : (cutV xs l2 h2).length ≤ xs.length := cutV_length _ _ _
  rw [List.length_append, List.length_append]
  show _ + 1 + _ ≤ _
  omega
section
variable {P : Program} {w : World} {K : PySem.W.Frag} {mg : Str → Option Value} {base : Heap}
theorem slA_all {H : Hp} {a : Addr} {xs : List V} {lo hi : Option Int} {Q : VK} (ha : H a = some (.tup xs)) (q : ∀ p H', Keep [] H H' → H' p = some (.tup (cutV xs lo hi)) → Q (.ref p) H') : rSlA K (.ref a) lo hi H Q := by
  refine ⟨a, xs, rfl, SqT.of ha, fun e => ?_, fun _ p hp => q p _ (Keep.upd_new hp) upd_same⟩
  have : cutV xs lo hi = xs := by
    unfold cutV
    rw [e.1, e.2, List.drop_zero, Nat.sub_zero, List.take_length]
  exact q a H Keep.refl (by rw [this]; exact ha)
theorem catA_all {H : Hp} {a b : Addr} {xs ys : List V} {Q : VK} (ha : H a = some (.tup xs)) (hb : H b = some (.tup ys)) (hl : xs.length + ys.length ≤ 1000)
    (q : ∀ p H', Keep [] H H' → H' p = some (.tup (xs ++ ys)) → Q (.ref p) H') : rCatA K (.ref a) (.ref b) H Q := by
  refine ⟨a, b, xs, ys, rfl, rfl, SqT.of ha, SqT.of hb, by have : sizeLine = 16777216 := sizeLine_eq; omega, fun e => ?_, fun _ e => ?_, fun _ _ p hp => q p _ (Keep.upd_new hp) upd_same⟩
  · subst e; exact q b H Keep.refl hb
  · subst e; exact q a H Keep.refl (by rw [List.append_nil]; exact ha)
theorem noPart {σ : L2.St} {H : Hp} {F : Option Int → Hp → Prop} (h : F none H) : tNoPart σ H F := h
theorem new_at {H : Hp} {a : Addr} {o : HO} (h : H a = none) : Keep [] H (upd H a o) ∧ (upd H a o) a = some o := ⟨Keep.upd_new h, upd_same⟩
/-- a list to pick odd things from -/
def OddL (F : Hp → V → Prop) (H : Hp) (a : Addr) : Prop := ∃ xs, H a = some (.lst xs) ∧ 0 < xs.length ∧ xs.length < 1000 ∧ ∀ v ∈ xs, F H v
def sp_oddp : Sp := fun vs H Q _ => ∃ d c a p, vs = [.ref d, .ref a] ∧ DrawAt H d c ∧ H a = some (.tup (prV p)) ∧ OwnP p ∧ ∀ v H', D1 [d, c] H' v → DrawAt H' d c → Keep [d, c] H H' → Q v H'
theorem prV_D0 {H : Hp} {ds : List Addr} {p : PRO} (o : OwnP p) : ∀ x ∈ prV p, D0 ds H x := by
  have eb : BND = 100000000000000000000000000000000000000000 := rfl
  obtain ⟨⟨m1, m2, b, a1, a2, l0, l1, u0, u1⟩, m, u⟩ := o
  refine all5 (D0_int ?_) (D0_int ?_) (D0_int ?_) (D0_int ?_) (D0_int ?_)
  · omega
  · rcases b with b | b <;> omega
  · omega
  · omega
  · omega
theorem p__law_odd_promise (T : Txt K mg) : Pr P w K mg base "_law_odd_promise" s__law_odd_promise ["draw", "promise"] 3 sp_oddp := by
  obtain ⟨f, fd, D⟩ := T.d__law_odd_promise
  obtain ⟨f__law_pick, fd__law_pick, D__law_pick, G__law_pick⟩ := p__law_pick (P := P) (w := w) (base := base) T; obtain ⟨f__law_take, fd__law_take, D__law_take, G__law_take⟩ := p__law_take (P := P) (w := w) (base := base) T
  refine ⟨f, fd, D, D.F.ok sc__law_odd_promise (fun vs H Q E h => ?_) (fun cdv A outer s H vs Q E hr h => ?_)⟩
  · obtain ⟨a, b, c, d, rfl, _⟩ := h; rfl
  · obtain ⟨d, c, a, p, rfl, D0', ha, ow, q⟩ := h
    have hsl : sizeLine = 16777216 := sizeLine_eq
    have eb : BND = 100000000000000000000000000000000000000000 := rfl
    refine ⟨_, (pss_cons (ps_set (i := 2) sc__law_odd_promise.nd rfl (Or.inl rfl) (pe_call G__law_take (hr.mono (by decide)) rfl D__law_take.m D__law_take.F.kp D__law_take.b .nil pass0 (pa_cons (pv 0) (pa_cons pe_int pa_nil))))
      (pss_cons (ps_set (i := 3) sc__law_odd_promise.nd rfl (Or.inl rfl) (pe_lst (pa_cons (pe_lst (pa_cons pe_int (pa_cons (pe_un un_neg pe_int) (pa_cons pe_bl (pa_cons pe_non (pa_cons pe_str pa_nil)))))) (pa_cons (pe_lst (pa_cons pe_int (pa_cons (pe_un un_neg pe_int) (pa_cons pe_bl (pa_cons pe_bl (pa_cons pe_non pa_nil)))))) (pa_cons (pe_lst (pa_cons pe_int (pa_cons (pe_op op_add (pe_op op_pow pe_int pe_int) pe_int) (pa_cons pe_bl (pa_cons pe_str (pa_cons pe_non pa_nil)))))) pa_nil)))))
      (pss_cons (ps_set (i := 3) sc__law_odd_promise.nd rfl (Or.inl rfl) (pe_op op_cat (pv 3) (pe_lst (pa_cons (pe_lst (pa_cons (pe_un un_neg pe_int) (pa_cons (pe_op op_add (pe_op op_pow pe_int pe_int) pe_int) (pa_cons pe_bl (pa_cons pe_non (pa_cons pe_str pa_nil)))))) (pa_cons (pe_lst (pa_cons (pe_un un_neg pe_int) (pa_cons pe_bl (pa_cons pe_non (pa_cons pe_str (pa_cons (pe_tup (pa_cons pe_int pa_nil)) pa_nil)))))) pa_nil)))))
      (pss_cons (ps_set (i := 4) sc__law_odd_promise.nd rfl (Or.inl rfl) (pe_lst (pa_cons (pe_op op_catA (pe_op op_catA (pe_slice sl_tupA (pv 1) po_none (po_some (pv 2))) (pe_tup (pa_cons (pe_call G__law_pick (hr.mono (by decide)) rfl D__law_pick.m D__law_pick.F.kp D__law_pick.b .nil pass0 (pa_cons (pv 0) (pa_cons (pe_ix ix_list (pv 3) (pv 2) (fun _ _ => rfl)) pa_nil))) pa_nil))) (pe_slice sl_tupA (pv 1) (po_some (pe_op op_add (pv 2) pe_int)) po_none)) (pa_cons (pe_slice sl_tupA (pv 1) po_none (po_some pe_int)) (pa_cons (pe_op op_catA (pv 1) (pe_tup (pa_cons pe_int pa_nil))) (pa_cons (pe_callTy call_list_of (by rfl) T.z_list (by decide +kernel) (pa_cons (pv 1) pa_nil)) pa_nil))))))
      (pss_one (ps_ret (pe_call G__law_pick (hr.mono (by decide)) rfl D__law_pick.m D__law_pick.F.kp D__law_pick.b .nil pass0 (pa_cons (pv 0) (pa_cons (pe_op op_cat (pe_op op_cat (pv 4) (pe_op op_rep (pe_lst (pa_cons (pe_ix ix_list (pv 4) pe_int (fun _ _ => rfl)) pa_nil)) pe_int)) (pe_lst (pa_cons pe_non (pa_cons pe_int (pa_cons pe_str (pa_cons (pe_tup pa_nil) pa_nil)))))) pa_nil))))))))), ?_⟩
    refine ⟨_, rfl, d, c, _, rfl, D0', by decide, by decide, fun k H1 k0 k1 D1 K1 => ?_⟩
    have ha1 := K1 _ _ ha (D0'.ntup ha)
    refine ⟨1, rfl, by show 5 ≤ sizeLine; omega, fun A1 h1 => ?_⟩
    refine ⟨1, rfl, by show 5 ≤ sizeLine; omega, fun A2 h2 => ?_⟩
    refine ⟨_, _, rfl, rfl, ⟨by decide, by decide, by decide⟩, _, _, rfl, rfl, by show 5 ≤ sizeLine; omega, fun A3 h3 => ⟨by show 3 ≤ sizeLine; omega, fun L1 h4 => ?_⟩⟩
    refine ⟨_, rfl, 1, rfl, _, _, rfl, rfl, ⟨by decide, by decide, by decide⟩, _, _, rfl, rfl, by show 5 ≤ sizeLine; omega, fun A4 h5 => ?_⟩
    refine ⟨1, rfl, by show 1 ≤ sizeLine; omega, fun t h6 => ⟨by show 5 ≤ sizeLine; omega, fun A5 h7 => ⟨by show 2 ≤ sizeLine; omega, fun L2 h8 => ?_⟩⟩⟩
    have e9 : (10 : Int) ^ Int.toNat 9 = 1000000000 := by decide +kernel
    have e30 : (10 : Int) ^ Int.toNat 30 = 1000000000000000000000000000000 := by decide +kernel
    have a1 := Keep.upd_new (ds := []) h1 (o := .lst [V.int 0, .int (-1), .bl true, .non, .str "1"])
    have a2 := Keep.upd_new (ds := []) h2 (o := .lst [V.int 2, .int (-1), .bl true, .bl false, .non])
    have a3 := Keep.upd_new (ds := []) h3 (o := .lst [V.int 0, .int ((10 : Int) ^ Int.toNat 9 + 1), .bl true, .str "1", .non])
    have a4 := Keep.upd_new (ds := []) h4 (o := .lst [V.ref A1, .ref A2, .ref A3])
    have a5 := Keep.upd_new (ds := []) h5 (o := .lst [V.int (-1), .int ((10 : Int) ^ Int.toNat 30 + 1), .bl true, .non, .str "1"])
    have a6 := Keep.upd_new (ds := []) h6 (o := .tup [V.int 1])
    have a7 := Keep.upd_new (ds := []) h7 (o := .lst [V.int (-1), .bl true, .non, .str "1", .ref t])
    have a8 := Keep.upd_new (ds := []) h8 (o := .lst [V.ref A4, .ref A5])
    have b2 := a1.trans a2
    have b3 := b2.trans a3
    have b4 := b3.trans a4
    have b5 := b4.trans a5
    have b6 := b5.trans a6
    have b7 := b6.trans a7
    have b8 := b7.trans a8
    have n1 := D1.nnew h1
    have n2 := (D1.keep a1).nnew h2
    have n3 := (D1.keep b2).nnew h3
    have n5 := (D1.keep b4).nnew h5
    have n6 := (D1.keep b5).nnew h6
    have n7 := (D1.keep b6).nnew h7
    have c7 := a7.trans a8
    have c6 := a6.trans c7
    have c5 := a5.trans c6
    have c4 := a4.trans c5
    have c3 := a3.trans c4
    have c2 := a2.trans c3
    have f1 := c2 _ _ upd_same (by simp)
    have f2 := c3 _ _ upd_same (by simp)
    have f3 := c4 _ _ upd_same (by simp)
    have fL1 := c5 _ _ upd_same (by simp)
    have f4 := c6 _ _ upd_same (by simp)
    have ft := c7 _ _ upd_same (by simp)
    have f5 := a8 _ _ upd_same (by simp)
    have ha8 := b8 _ _ ha1 (by simp)
    have D8 := D1.keep b8
    refine ⟨L1, L2, _, _, rfl, rfl, fL1, upd_same, by show 3 + 2 ≤ sizeLine; omega, fun L3 h9 => ?_⟩
    obtain ⟨a9, hL3⟩ := new_at (o := .lst ([V.ref A1, .ref A2, .ref A3] ++ [V.ref A4, .ref A5])) h9
    rw [show (some (HO.lst ([V.ref A1, .ref A2, .ref A3] ++ [V.ref A4, .ref A5]))) = some (HO.lst [V.ref A1, .ref A2, .ref A3, .ref A4, .ref A5]) from rfl] at hL3
    have odd : ∀ x ∈ [V.ref A1, .ref A2, .ref A3, .ref A4, .ref A5], ∃ A xs, x = .ref A ∧ A ∉ [d, c] ∧ (upd _ L3 (.lst ([V.ref A1, .ref A2, .ref A3] ++ [V.ref A4, .ref A5]))) A = some (.lst xs) ∧ 0 < xs.length ∧ xs.length < 1000 ∧ ∀ v ∈ xs, D0 [d, c] (upd _ L3 (.lst ([V.ref A1, .ref A2, .ref A3] ++ [V.ref A4, .ref A5]))) v :=
      all5 ⟨A1, _, rfl, n1, a9 _ _ f1 (by simp), by decide, by decide, all5 (D0_int (by rw [eb]; decide)) (D0_int (by rw [eb]; decide)) D0_bl D0_non (D0_str (by decide))⟩
        ⟨A2, _, rfl, n2, a9 _ _ f2 (by simp), by decide, by decide, all5 (D0_int (by rw [eb]; decide)) (D0_int (by rw [eb]; decide)) D0_bl D0_bl D0_non⟩
        ⟨A3, _, rfl, n3, a9 _ _ f3 (by simp), by decide, by decide, all5 (D0_int (by rw [eb]; decide)) (D0_int (by rw [eb, e9]; decide)) D0_bl (D0_str (by decide)) D0_non⟩
        ⟨A4, _, rfl, n5, a9 _ _ f4 (by simp), by decide, by decide, all5 (D0_int (by rw [eb]; decide)) (D0_int (by rw [eb, e30]; decide)) D0_bl D0_non (D0_str (by decide))⟩
        ⟨A5, _, rfl, n7, a9 _ _ f5 (by simp), (by show 0 < 5; decide), (by show 5 < 1000; decide), all5 (D0_int (by rw [eb]; decide)) D0_bl D0_non (D0_str (by decide)) (D0_tup (a9 _ _ ft (by simp)) n6 (by decide))⟩
    obtain ⟨x, hx, hat⟩ := atI_of (xs := [V.ref A1, .ref A2, .ref A3, .ref A4, .ref A5]) k0 k1
    obtain ⟨B, bs, rfl, nB, hB, l0, l1, inB⟩ := odd x (List.mem_of_getElem? hx)
    have ha9 := a9 _ _ ha8 (by simp)
    have D9 := D8.keep a9
    have K9 : Keep [d, c] H _ := K1.trans ((b8.trans a9).mono (by simp))
    clear odd a1 a2 a3 a4 a5 a6 a7 a8 b2 b3 b4 b5 b6 b7 b8 c2 c3 c4 c5 c6 c7 f1 f2 f3 f4 f5 ft fL1 n1 n2 n3 n5 n6 n7 D8 ha8
    refine ⟨_, rfl, noPart ⟨_, rfl, _, rfl, slA_all ha9 fun p1 H2 K2 g1 => ?_⟩⟩
    have X2 := D9.keep K2
    refine ⟨_, rfl, _, rfl, _, rfl, L3, _, k, .ref B, rfl, rfl, SqL.of (K2 _ _ hL3 (by simp)), hat, d, c, .ref B, bs, rfl, X2, .inl ⟨B, rfl, nB, .inl (K2 _ _ hB (by simp))⟩, l0, (by omega), fun v H3 hv X3 K3 => ⟨by show 1 ≤ sizeLine; omega, fun p2 h10 => ?_⟩⟩
    have v9 := (inB v hv).keep (K2.mono (es := [d, c]) (by simp))
    have v3 := v9.keep K3
    have g3 := K3 _ _ g1 (X2.ntup g1)
    have ha3 := K3 _ _ (K2 _ _ ha9 (by simp)) (X2.ntup (K2 _ _ ha9 (by simp)))
    have K03 : Keep [d, c] H H3 := K9.trans ((K2.mono (by simp)).trans K3)
    clear v9 hB inB hL3 ha9 D9 X2 g1 K2 K3
    obtain ⟨a4, g4⟩ := new_at (o := .tup [v]) h10
    refine catA_all (a4 _ _ g3 (by simp)) g4 (by have b1 : (cutV (prV p) none (some k)).length ≤ (prV p).length := cutV_length _ _ _; have : (prV p).length = 5 := rfl; show _ + 1 ≤ 1000; omega) fun p3 H4 K4 g5 => ?_
    have K34 := a4.trans K4
    refine ⟨_, rfl, _, rfl, _, _, rfl, rfl, _, rfl, noPart (slA_all (K34 _ _ ha3 (by simp)) fun p4 H5 K5 g6 => ?_)⟩
    refine catA_all (K5 _ _ g5 (by simp)) g6 ?_ fun p5 H6 K6 g7 => ?_
    · have b1 : (cutV (prV p) none (some k)).length ≤ (prV p).length := cutV_length _ _ _
      have b2 : (cutV (prV p) (some (k + 1)) none).length ≤ (prV p).length := cutV_length _ _ _
      have : (prV p).length = 5 := rfl
      rw [List.length_append]; show _ + 1 + _ ≤ 1000; omega
    have K36 := (K34.trans K5).trans K6
    refine ⟨_, rfl, noPart ⟨4, rfl, slA_all (K36 _ _ ha3 (by simp)) fun p6 H7 K7 g8 => ?_⟩⟩
    have K37 := K36.trans K7
    refine ⟨_, rfl, by show 1 ≤ sizeLine; omega, fun p7 h11 => ?_⟩
    obtain ⟨a8, g9⟩ := new_at (o := .tup [V.int 0]) h11
    have K38 := K37.trans a8
    refine catA_all (K38 _ _ ha3 (by simp)) g9 (by show 5 + 1 ≤ 1000; decide) fun p8 H9 K9' g10 => ?_
    have K39 := K38.trans K9'
    refine ⟨_, rfl, a, _, rfl, .inr (SqT.of (K39 _ _ ha3 (by simp))), fun l1' h12 => ?_⟩
    obtain ⟨a10, g11⟩ := new_at (o := .lst (prV p)) h12
    refine ⟨by show 4 ≤ sizeLine; omega, fun M h13 => ?_⟩
    obtain ⟨a11, g12⟩ := new_at (o := .lst [V.ref p5, .ref p6, .ref p8, .ref l1']) h13
    refine ⟨_, rfl, _, rfl, _, rfl, M, _, 0, .ref p5, rfl, rfl, SqL.of g12, rfl, by show 1 ≤ sizeLine; omega, fun R1 h14 => ?_⟩
    obtain ⟨a12, g13⟩ := new_at (o := .lst [V.ref p5]) h14
    refine ⟨R1, 4, _, rfl, rfl, g13, by decide, by decide, by show 1 * 4 ≤ sizeLine; omega, fun R2 h15 => ?_⟩
    obtain ⟨a13, g14⟩ := new_at (o := .lst (List.replicate (4 : Int).toNat [V.ref p5]).flatten) h15
    refine ⟨M, R2, _, _, rfl, rfl, (a12.trans a13) _ _ g12 (by simp), g14, by show 4 + 4 ≤ sizeLine; omega, fun R3 h16 => ?_⟩
    obtain ⟨a14, g15⟩ := new_at (o := .lst ([V.ref p5, .ref p6, .ref p8, .ref l1'] ++ (List.replicate (4 : Int).toNat [V.ref p5]).flatten)) h16
    refine ⟨by show 0 ≤ sizeLine; omega, fun e0 h17 => ⟨by show 4 ≤ sizeLine; omega, fun R4 h18 => ?_⟩⟩
    obtain ⟨a15, g16⟩ := new_at (o := .tup []) h17
    obtain ⟨a16, g17⟩ := new_at (o := .lst [V.non, .int 5, .str "promise", .ref e0]) h18
    refine ⟨R3, R4, _, _, rfl, rfl, (a15.trans a16) _ _ g15 (by simp), g17, by show 8 + 4 ≤ sizeLine; omega, fun R5 h19 => ?_⟩
    obtain ⟨a17, g18⟩ := new_at (o := .lst (([V.ref p5, .ref p6, .ref p8, .ref l1'] ++ (List.replicate (4 : Int).toNat [V.ref p5]).flatten) ++ [V.non, .int 5, .str "promise", .ref e0])) h19
    have Z4 := a15.trans (a16.trans a17)
    have Z3 := a11.trans (a12.trans (a13.trans (a14.trans Z4)))
    have Z2 := a10.trans Z3
    have Z1 := K39.trans Z2
    have XZ := X3.keep Z1
    have nR : R5 ∉ [d, c] := (X3.keep (K39.trans (a10.trans (a11.trans (a12.trans (a13.trans (a14.trans (a15.trans a16)))))))).nnew h19
    have i5 := ((K7.trans a8).trans (K9'.trans Z2)) _ _ g7 (by simp)
    have i6 := (a8.trans (K9'.trans Z2)) _ _ g8 (by simp)
    have i8 := Z2 _ _ g10 (by simp)
    have il := Z3 _ _ g11 (by simp)
    have ie := (a16.trans a17) _ _ g16 (by simp)
    have nl : l1' ∉ [d, c] := (X3.keep K39).nnew h12
    have vz := v3.keep (Z1.mono (es := [d, c]) (by simp))
    have l5 : (prV p).length = 5 := rfl
    refine ⟨d, c, .ref R5, _, rfl, XZ, .inl ⟨R5, rfl, nR, .inl g18⟩, by show 0 < 12; decide, by show 12 < 1000000000; decide, fun y H20 hy X20 K20 => ?_⟩
    refine q y H20 (My.D1.keep ?_ K20) X20 (K03.trans ((Z1.mono (by simp)).trans K20))
    have hy : y ∈ [V.ref p5, .ref p6, .ref p8, .ref l1', .ref p5, .ref p5, .ref p5, .ref p5, .non, .int 5, .str "promise", .ref e0] := hy
    have q5 : My.D1 [d, c] _ (V.ref p5) := Deep_tup i5 (XZ.ntup i5) (Nat.le_trans put_len (by omega)) fun z hz => put_mem (p := D0 [d, c] _) (prV_D0 ow) vz hz
    simp only [List.mem_cons, List.not_mem_nil, or_false] at hy
    rcases hy with rfl | rfl | rfl | rfl | rfl | rfl | rfl | rfl | rfl | rfl | rfl | rfl
    · exact q5
    · exact Deep_tup i6 (XZ.ntup i6) (Nat.le_trans (cutV_length _ _ _) (by omega)) fun z hz => prV_D0 ow z (cut_mem hz)
    · refine Deep_tup i8 (XZ.ntup i8) (by rw [List.length_append]; show _ + 1 ≤ 100; omega) fun z hz => ?_
      rcases List.mem_append.mp hz with hz | hz
      · exact prV_D0 ow z hz
      · rw [List.mem_singleton] at hz; subst hz; exact D0_int (by rw [eb]; decide)
    · exact Deep_lst il nl
    · exact q5
    · exact q5
    · exact q5
    · exact q5
    · exact Deep_non
    · exact Deep_int (by rw [eb]; decide)
    · exact Deep_str (by decide)
    · exact Deep_tup ie (XZ.ntup ie) (Nat.zero_le _) (by simp)
end
end My
set_option Elab.async false
set_option maxRecDepth 100000
set_option maxHeartbeats 1600000
namespace My
open PySem L2 TL StX
/-! states as data -/
def dP (p : PRO) : PyData := .tuple (dint (pn p))
def dPs (ps : List PRO) : PyData := .tuple (ps.map dP)
def dS (s : SO) : PyData := .tuple [.str "state", .int s.p, .int s.t, .int s.x, .int s.y, dPs s.ps]
theorem dpAll_ps {K : PySem.W.Frag} {H : Hp} : ∀ {rs : List Addr} {ps : List PRO}, Prs H rs ps → DpAll K H (rs.map V.ref) (ps.map dP)
  | _, _, .nil => .nil
  | _, _, .cons h t => .cons (.tup (SqT.of h) (dpAll_int _)) (dpAll_ps t)
theorem Dp_ps {K : PySem.W.Frag} {H : Hp} {r : Addr} {rs : List Addr} {ps : List PRO} (h : H r = some (.tup (rs.map V.ref))) (pr : Prs H rs ps) : Dp K H (.ref r) (dPs ps) := .tup (SqT.of h) (dpAll_ps pr)
theorem Dp_st {K : PySem.W.Frag} {H : Hp} {a r : Addr} {rs : List Addr} {s : SO} (S : StAt H a r rs s) : Dp K H (.ref a) (dS s) :=
  .tup (SqT.of S.ha) (.cons (.str _) (.cons (.int _) (.cons (.int _) (.cons (.int _) (.cons (.int _) (.cons (Dp_ps S.hr S.pr) .nil))))))
theorem can_ps : ∀ ps : List PRO, PyData.canLayAll0 (ps.map dP) = true ∧ PyData.depthAll (ps.map dP) ≤ 1
  | [] => ⟨rfl, Nat.zero_le _⟩
  | p :: r => by
    have ih := can_ps r
    have h1 := can_int (pn p)
    have e1 : (dP p).canLay0 = true := by unfold dP; rw [PyData.canLay0, h1.1]
    have e2 : (dP p).depth = 1 := by unfold dP; rw [PyData.depth, h1.2]
    rw [List.map_cons, PyData.canLayAll0, PyData.depthAll, ih.1, e1, e2]
    exact ⟨rfl, Nat.max_le.mpr ⟨Nat.le_refl _, ih.2⟩⟩
theorem shaped_ps (ps : List PRO) : SeqAt.shaped (dPs ps) = true := by
  have h := can_ps ps
  unfold SeqAt.shaped dPs
  rw [PyData.canLay0, PyData.depth, h.1, Bool.true_and]
  exact decide_eq_true (by omega)
theorem shaped_st (s : SO) : SeqAt.shaped (dS s) = true := by
  have h := can_ps s.ps
  have e0 : (PyData.str "state").canLay0 = true := by rw [PyData.canLay0]; decide +kernel
  have e1 : (dPs s.ps).canLay0 = true := by unfold dPs; rw [PyData.canLay0, h.1]
  have e2 : (dPs s.ps).depth ≤ 2 := by unfold dPs; rw [PyData.depth]; omega
  unfold SeqAt.shaped dS
  simp only [PyData.canLay0, PyData.depth, PyData.canLayAll0, PyData.depthAll, e1, Bool.and_true, Bool.true_and]
  rw [PyData.canLay0] at e0
  rw [e0, Bool.true_and]
  exact decide_eq_true (by omega)
theorem eqvAll_self : ∀ l : List Int, PyData.eqvAll (dint l) (dint l) = true := fun l => by rw [eqvAll_int]; exact decide_eq_true rfl
theorem eqv_P (p : PRO) : PyData.eqv (dP p) (dP p) = true := by unfold dP; rw [PyData.eqv]; exact eqvAll_self _
theorem eqvAll_P : ∀ ps : List PRO, PyData.eqvAll (ps.map dP) (ps.map dP) = true
  | [] => by simp [PyData.eqvAll]
  | p :: r => by rw [List.map_cons, PyData.eqvAll, eqv_P, eqvAll_P r]; rfl
theorem eqv_S (s : SO) : PyData.eqv (dS s) (dS s) = true := by
  have e1 : PyData.eqv (dPs s.ps) (dPs s.ps) = true := by unfold dPs; rw [PyData.eqv]; exact eqvAll_P _
  unfold dS
  rw [PyData.eqv]
  simp only [PyData.eqvAll, PyData.eqv, e1, beq_self_eq_true, Bool.and_self]
theorem eqv_nil (ps : List PRO) : PyData.eqv (dPs ps) (.tuple []) = ps.isEmpty := by
  unfold dPs
  rw [PyData.eqv]
  cases ps with
  | nil => simp [PyData.eqvAll]
  | cons p r => rw [List.map_cons]; simp [PyData.eqvAll]
theorem shaped_nil : SeqAt.shaped (.tuple []) = true := by decide +kernel
/-! the state with one part otherwise -/
section
variable {P : Program} {w : World} {K : PySem.W.Frag} {mg : Str → Option Value} {base : Heap}
theorem Prs.mem {H : Hp} : ∀ {rs : List Addr} {ps : List PRO} {x : Addr}, Prs H rs ps → x ∈ rs → ∃ p, p ∈ ps ∧ H x = some (.tup (prV p))
  | _, _, _, .nil, h => by cases h
  | _, _, x, .cons (a := a) (b := b) h t, hx => by
    rcases List.mem_cons.mp hx with rfl | hx
    · exact ⟨b, List.mem_cons_self, h⟩
    · obtain ⟨p, hp, e⟩ := Prs.mem t hx
      exact ⟨p, List.mem_cons_of_mem _ hp, e⟩
theorem prom_D1 {H : Hp} {d c x : Addr} {p : PRO} (D : DrawAt H d c) (h : H x = some (.tup (prV p))) (o : OwnP p) : D1 [d, c] H (.ref x) :=
  Deep_tup h (D.ntup h) (by show 5 ≤ 100; decide) (prV_D0 o)
theorem proms_D1 {H : Hp} {d c : Addr} {rs : List Addr} {ps : List PRO} (D : DrawAt H d c) (h : Prs H rs ps) (o : ∀ p ∈ ps, OwnP p) : ∀ x ∈ rs.map V.ref, D1 [d, c] H x := by
  intro x hx
  obtain ⟨y, hy, rfl⟩ := List.mem_map.mp hx
  obtain ⟨p, hp, e⟩ := h.mem hy
  exact prom_D1 D e (o p hp)
theorem prV_D1 {H : Hp} {ds : List Addr} {p : PRO} (o : OwnP p) : ∀ x ∈ prV p, D1 ds H x := by
  have eb : BND = 100000000000000000000000000000000000000000 := rfl
  obtain ⟨⟨m1, m2, b, a1, a2, l0, l1, u0, u1⟩, m, u⟩ := o
  refine all5 (Deep_int ?_) (Deep_int ?_) (Deep_int ?_) (Deep_int ?_) (Deep_int ?_)
  · omega
  · rcases b with b | b <;> omega
  · omega
  · omega
  · omega
theorem state_D2 {H : Hp} {d c a r : Addr} {rs : List Addr} {st : SO} (D : DrawAt H d c) (S : StAt H a r rs st) (o : OwnS st) : ∀ x ∈ stV st r, D2 [d, c] H x := by
  have eb : BND = 100000000000000000000000000000000000000000 := rfl
  intro x hx
  have hx : x ∈ [V.str "state", .int st.p, .int st.t, .int st.x, .int st.y, .ref r] := hx
  have h1 := o.p
  have h2 := o.t
  have h3 := o.ok.x1
  have h4 := o.ok.y1
  simp only [List.mem_cons, List.not_mem_nil, or_false] at hx
  rcases hx with rfl | rfl | rfl | rfl | rfl | rfl
  · exact Deep_str (by decide)
  · exact Deep_int (by omega)
  · exact Deep_int (by omega)
  · exact Deep_int (by omega)
  · exact Deep_int (by omega)
  · exact Deep_tup S.hr (D.ntup S.hr) (by rw [List.length_map, S.pr.len]; have := o.ok.len; omega) (proms_D1 D S.pr o.ps)
theorem add_mem {xs : List V} {v z : V} {l h : Option Int} {p : V → Prop} (hx : ∀ y ∈ xs, p y) (hv : p v) (hz : z ∈ cutV xs l h ++ [v]) : p z := by
  rcases List.mem_append.mp hz with hz | hz
  · exact hx z (cut_mem hz)
  · rw [List.mem_singleton] at hz; subst hz; exact hv
theorem add_len {xs : List V} {v : V} {l h : Option Int} : (cutV xs l h ++ [v]).length ≤ xs.length + 1 := by
  have b1 : (cutV xs l h).length ≤ xs.length := cutV_length _ _ _
  rw [List.length_append]; show _ + 1 ≤ _; omega
/-- a state with something else in the promises' place -/
theorem last_D3 {H : Hp} {d c a r : Addr} {rs : List Addr} {st : SO} {t : Addr} {v : V} {l h : Option Int} (D : DrawAt H d c) (S : StAt H a r rs st) (o : OwnS st) (ht : H t = some (.tup (cutV (stV st r) l h ++ [v]))) (hv : D2 [d, c] H v) : D3 [d, c] H (.ref t) :=
  Deep_tup ht (D.ntup ht) (Nat.le_trans add_len (by show 6 + 1 ≤ 100; decide)) fun z hz => add_mem (state_D2 D S o) hv hz
theorem odd3 {H : Hp} {d c A1 A2 A3 t : Addr} {m : Int} (m0 : 0 ≤ m) (m1 : m < 4) (f1 : H A1 = some (.lst [V.int 0, .int (-1), .bl true, .non, .str "1"])) (f2 : H A2 = some (.lst [V.int (-1), .bl true, .non, .str "0", .int 1]))
    (f4 : H A3 = some (.lst [V.int (-1), .int ((10 : Int) ^ Int.toNat 10 + 1), .bl true, .non, .ref t])) (f3 : H t = some (.tup [V.int 1])) (n1 : A1 ∉ [d, c]) (n2 : A2 ∉ [d, c]) (n4 : A3 ∉ [d, c]) (n3 : t ∉ [d, c]) :
    ∃ B bs, atI [V.ref A1, .ref A2, .ref A3] ((if (3 : Int) < 1 + m then 3 else 1 + m) - 1) = some (.ref B) ∧ B ∉ [d, c] ∧ H B = some (.lst bs) ∧ 0 < bs.length ∧ bs.length < 1000000000 ∧ ∀ v ∈ bs, D2 [d, c] H v := by
  have eb : BND = 100000000000000000000000000000000000000000 := rfl
  have e10 : (10 : Int) ^ Int.toNat 10 = 10000000000 := by decide +kernel
  have q1 : ∀ v ∈ [V.int 0, .int (-1), .bl true, .non, .str "1"], D2 [d, c] H v := all5 (Deep_int (by rw [eb]; decide)) (Deep_int (by rw [eb]; decide)) Deep_bl Deep_non (Deep_str (by decide))
  have q2 : ∀ v ∈ [V.int (-1), .bl true, .non, .str "0", .int 1], D2 [d, c] H v := all5 (Deep_int (by rw [eb]; decide)) Deep_bl Deep_non (Deep_str (by decide)) (Deep_int (by rw [eb]; decide))
  have q3 : ∀ v ∈ [V.int (-1), .int ((10 : Int) ^ Int.toNat 10 + 1), .bl true, .non, .ref t], D2 [d, c] H v :=
    all5 (Deep_int (by rw [eb]; decide)) (Deep_int (by rw [eb, e10]; decide)) Deep_bl Deep_non (Deep_tup f3 n3 (by show 1 ≤ 100; decide) fun x hx => by
      rw [List.mem_singleton] at hx; subst hx; exact Deep_int (by rw [eb]; decide))
  obtain rfl | rfl | rfl | rfl : m = 0 ∨ m = 1 ∨ m = 2 ∨ m = 3 := by omega
  · exact ⟨A1, _, rfl, n1, f1, by show 0 < 5; decide, by show 5 < 1000000000; decide, q1⟩
  · exact ⟨A2, _, rfl, n2, f2, by show 0 < 5; decide, by show 5 < 1000000000; decide, q2⟩
  · exact ⟨A3, _, rfl, n4, f4, by show 0 < 5; decide, by show 5 < 1000000000; decide, q3⟩
  · exact ⟨A3, _, rfl, n4, f4, by show 0 < 5; decide, by show 5 < 1000000000; decide, q3⟩
theorem repA_all {H : Hp} {l : Addr} {xs : List V} {k : Int} {Q : VK} (hl : H l = some (.tup xs)) (hne : xs ≠ []) (h1 : 1 ≤ k) (h4 : k ≤ 4) (hz : xs.length ≤ 10)
    (q : ∀ p zs H', Keep [] H H' → H' p = some (.tup zs) → zs.length ≤ 40 → (∀ z ∈ zs, z ∈ xs) → Q (.ref p) H') : rRepA K (.ref l) (.int k) H Q := by
  refine ⟨l, k, xs, rfl, rfl, SqT.of hl, hne, h1, by omega, by omega, fun _ => q l xs H Keep.refl hl (by omega) fun z h => h, fun _ p hp => q p _ _ (Keep.upd_new hp) upd_same ?_ fun z hz => ?_⟩
  · rw [PyProof.Rows.lm_len_rep_flat]
    have a1 : k.toNat * xs.length ≤ 4 * 10 := Nat.mul_le_mul (by omega) hz
    omega
  · obtain ⟨y, hy, hzy⟩ := List.mem_flatten.mp hz
    rw [(List.mem_replicate.mp hy).2] at hzy
    exact hzy
theorem cut_one {x : V} {xs : List V} : cutV (x :: xs) none (some 1) = [x] := by
  unfold cutV
  rw [HT.sIx_none, show (some (1 : Int)) = some ((1 : Nat) : Int) from rfl, HT.sIx_nat, List.drop_zero, Nat.sub_zero, Nat.min_eq_left (by simp)]
  rfl
def sp_odd : Sp := fun vs H Q _ => ∃ d c a r rs st, vs = [.ref d, .ref a] ∧ DrawAt H d c ∧ StAt H a r rs st ∧ OwnS st ∧ ∀ v H', D3 [d, c] H' v → DrawAt H' d c → Keep [d, c] H H' → Q v H'
theorem p__law_odd (T : Txt K mg) : Pr P w K mg base "_law_odd" s__law_odd ["draw", "state"] 4 sp_odd := by
  obtain ⟨f, fd, D⟩ := T.d__law_odd
  obtain ⟨f__law_take, fd__law_take, D__law_take, G__law_take⟩ := p__law_take (P := P) (w := w) (base := base) T; obtain ⟨f__law_pick, fd__law_pick, D__law_pick, G__law_pick⟩ := p__law_pick (P := P) (w := w) (base := base) T; obtain ⟨f__law_odd_promise, fd__law_odd_promise, D__law_odd_promise, G__law_odd_promise⟩ := p__law_odd_promise (P := P) (w := w) (base := base) T
  refine ⟨f, fd, D, D.F.ok sc__law_odd (fun vs H Q E h => ?_) (fun cdv A outer s H vs Q E hr h => ?_)⟩
  · obtain ⟨a, b, c, d, e, g, rfl, _⟩ := h; rfl
  · obtain ⟨d, c, a, r, rs, st, rfl, D0', SA, ow, q⟩ := h
    have hsl : sizeLine = 16777216 := sizeLine_eq
    have eb : BND = 100000000000000000000000000000000000000000 := rfl
    have e10 : (10 : Int) ^ Int.toNat 10 = 10000000000 := by decide +kernel
    have l6 : (stV st r).length = 6 := rfl
    refine ⟨_, (pss_cons (ps_par (i := 2) (j := 3) (by rfl) sc__law_odd.nd rfl rfl (by decide) rfl rfl (pa_cons (pe_call G__law_take (hr.mono (by decide)) rfl D__law_take.m D__law_take.F.kp D__law_take.b .nil pass0 (pa_cons (pv 0) (pa_cons pe_int pa_nil))) (pa_cons (pe_ix ix_tup (pv 1) pe_int (fun _ _ => rfl)) pa_nil)) (by rfl))
      (pss_cons (ps_if (pt_cmpR op_lt (pv 2) pe_int (nomark _)) (pss_cons (ps_set (i := 4) sc__law_odd.nd rfl (Or.inl rfl) (pe_op op_add pe_int (pe_call G__law_take (hr.mono (by decide)) rfl D__law_take.m D__law_take.F.kp D__law_take.b .nil pass0 (pa_cons (pv 0) (pa_cons pe_int pa_nil)))))
      (pss_cons (ps_set (i := 5) sc__law_odd.nd rfl (Or.inl rfl) (pe_ix ix_list (pe_lst (pa_cons (pe_lst (pa_cons pe_int (pa_cons (pe_un un_neg pe_int) (pa_cons pe_bl (pa_cons pe_non (pa_cons pe_str pa_nil)))))) (pa_cons (pe_lst (pa_cons (pe_un un_neg pe_int) (pa_cons pe_bl (pa_cons pe_non (pa_cons pe_str (pa_cons pe_int pa_nil)))))) (pa_cons (pe_lst (pa_cons (pe_un un_neg pe_int) (pa_cons (pe_op op_add (pe_op op_pow pe_int pe_int) pe_int) (pa_cons pe_bl (pa_cons pe_non (pa_cons (pe_tup (pa_cons pe_int pa_nil)) pa_nil)))))) pa_nil)))) (pe_op op_sub (pe_callB (call_min2 rfl) (by rfl) T.z_min (by decide +kernel) (pa_cons (pv 4) (pa_cons pe_int pa_nil))) pe_int) (fun _ _ => rfl)))
      (pss_one (ps_ret (pe_op op_catA (pe_op op_catA (pe_slice sl_tupA (pv 1) po_none (po_some (pv 4))) (pe_tup (pa_cons (pe_call G__law_pick (hr.mono (by decide)) rfl D__law_pick.m D__law_pick.F.kp D__law_pick.b .nil pass0 (pa_cons (pv 0) (pa_cons (pv 5) pa_nil))) pa_nil))) (pe_slice sl_tupA (pv 1) (po_some (pe_op op_add (pv 4) pe_int)) po_none)))))) pss_nil)
      (pss_cons (ps_if (PW.pt (pw_and (pt_cmpR op_eq (pv 2) pe_int (nomark _)) (pw_and1 (pt_cmpR (op_neD hr.units) (pv 3) (pe_tup pa_nil) (nomark _))))) (pss_cons (ps_set (i := 4) sc__law_odd.nd rfl (Or.inl rfl) (pe_call G__law_take (hr.mono (by decide)) rfl D__law_take.m D__law_take.F.kp D__law_take.b .nil pass0 (pa_cons (pv 0) (pa_cons (pe_callB call_len_seq (by rfl) T.z_len (by decide +kernel) (pa_cons (pv 3) pa_nil)) pa_nil))))
      (pss_cons (ps_set (i := 5) sc__law_odd.nd rfl (Or.inl rfl) (pe_call G__law_odd_promise (hr.mono (by decide)) rfl D__law_odd_promise.m D__law_odd_promise.F.kp D__law_odd_promise.b .nil pass0 (pa_cons (pv 0) (pa_cons (pe_ix ix_tup (pv 3) (pv 4) (fun _ _ => rfl)) pa_nil))))
      (pss_one (ps_ret (pe_op op_catA (pe_slice sl_tupA (pv 1) po_none (po_some pe_int)) (pe_tup (pa_cons (pe_op op_catA (pe_op op_catA (pe_slice sl_tupA (pv 3) po_none (po_some (pv 4))) (pe_tup (pa_cons (pv 5) pa_nil))) (pe_slice sl_tupA (pv 3) (po_some (pe_op op_add (pv 4) pe_int)) po_none)) pa_nil))))))) pss_nil)
      (pss_cons (ps_if (PW.pt (pw_and (pt_cmpR op_eq (pv 2) pe_int (nomark _)) (pw_and1 (pt_cmpR (op_neD hr.units) (pv 3) (pe_tup pa_nil) (nomark _))))) (pss_cons (ps_set (i := 6) sc__law_odd.nd rfl (Or.inl rfl) (pe_op op_catA (pv 3) (pe_op op_repA (pe_tup (pa_cons (pe_ix ix_tup (pv 3) pe_int (fun _ _ => rfl)) pa_nil)) (pe_call G__law_pick (hr.mono (by decide)) rfl D__law_pick.m D__law_pick.F.kp D__law_pick.b .nil pass0 (pa_cons (pv 0) (pa_cons (pe_lst (pa_cons pe_int (pa_cons pe_int pa_nil))) pa_nil))))))
      (pss_cons (ps_set (i := 7) sc__law_odd.nd rfl (Or.inl rfl) (pe_lst (pa_cons (pv 6) (pa_cons (pe_back (pv 3) (po_some (pe_un un_neg pe_int))) (pa_cons (pe_callTy call_list_of (by rfl) T.z_list (by decide +kernel) (pa_cons (pv 3) pa_nil)) (pa_cons (pe_op op_repA (pe_slice sl_tupA (pv 3) po_none (po_some pe_int)) pe_int) (pa_cons (pe_ix ix_tup (pv 3) pe_int (fun _ _ => rfl)) pa_nil)))))))
      (pss_one (ps_ret (pe_op op_catA (pe_slice sl_tupA (pv 1) po_none (po_some pe_int)) (pe_tup (pa_cons (pe_call G__law_pick (hr.mono (by decide)) rfl D__law_pick.m D__law_pick.F.kp D__law_pick.b .nil pass0 (pa_cons (pv 0) (pa_cons (pv 7) pa_nil))) pa_nil))))))) pss_nil)
      (pss_cons (ps_if (pt_cmpR op_eq (pv 2) pe_int (nomark _)) (pss_one (ps_ret (pe_call G__law_pick (hr.mono (by decide)) rfl D__law_pick.m D__law_pick.F.kp D__law_pick.b .nil pass0 (pa_cons (pv 0) (pa_cons (pe_lst (pa_cons (pe_slice sl_tupA (pv 1) po_none (po_some pe_int)) (pa_cons (pe_op op_catA (pv 1) (pe_tup (pa_cons pe_int pa_nil))) (pa_cons (pe_callTy call_list_of (by rfl) T.z_list (by decide +kernel) (pa_cons (pv 1) pa_nil)) (pa_cons (pe_op op_catA (pe_tup (pa_cons pe_str pa_nil)) (pe_slice sl_tupA (pv 1) (po_some pe_int) po_none)) (pa_cons (pe_op op_catA (pe_tup (pa_cons pe_int pa_nil)) (pe_slice sl_tupA (pv 1) (po_some pe_int) po_none)) pa_nil)))))) pa_nil))))) pss_nil)
      (pss_cons (ps_if (pt_cmpR op_eq (pv 2) pe_int (nomark _)) (pss_one (ps_ret (pe_call G__law_pick (hr.mono (by decide)) rfl D__law_pick.m D__law_pick.F.kp D__law_pick.b .nil pass0 (pa_cons (pv 0) (pa_cons (pe_lst (pa_cons pe_non (pa_cons pe_bl (pa_cons pe_int (pa_cons pe_str (pa_cons (pe_tup pa_nil) (pa_cons (pe_lst pa_nil) (pa_cons pe_dnewK (pa_cons (pe_tup (pa_cons pe_str pa_nil)) (pa_cons (pe_disp (pps_cons pe_str pe_int pps_nil) (by rfl) (by rfl) (fun z => by cases z) (by decide)) pa_nil)))))))))) pa_nil))))) pss_nil)
      (pss_cons (ps_set (i := 8) sc__law_odd.nd rfl (Or.inl rfl) (pe_callTy call_tuple_of (by rfl) T.z_tuple (by decide +kernel) (pa_cons (pe_lc (own := [("k", 9)]) (g := gName 9) (tt := tYes) rfl sc__law_odd.nd (pi_range1 rfl T.z_range (pa_cons (pe_op op_add pe_int (pe_call G__law_take (hr.mono (by decide)) rfl D__law_take.m D__law_take.F.kp D__law_take.b .nil pass0 (pa_cons (pv 0) (pa_cons pe_int pa_nil)))) pa_nil)) (blkOk_by (own := [("k", 9)]) (N := N__law_odd) (sc := defScope s__law_odd) (by decide +kernel)) (fun _ _ _ _ _ => (pg_name (i := 9) sc__law_odd.nd rfl (Or.inl rfl))) (fun _ _ _ _ _ => pts_nil) (fun _ _ _ _ _ => (pe_tup (pa_cons (pe_op op_add (pv 9) pe_int) (pa_cons pe_int (pa_cons pe_int (pa_cons pe_int (pa_cons pe_int pa_nil)))))))) pa_nil)))
      (pss_one (ps_ret (pe_op op_catA (pe_slice sl_tupA (pv 1) po_none (po_some pe_int)) (pe_tup (pa_cons (pv 8) pa_nil)))))))))))), ?_⟩
    refine ⟨_, rfl, d, c, _, rfl, D0', by decide, by decide, fun k H1 k0 k1 D1 K1 => ?_⟩
    have S1 := SA.keepD K1 D0'.notup
    refine ⟨_, rfl, a, _, 5, .ref r, rfl, rfl, SqT.of S1.ha, rfl, _, _, rfl, ?_⟩
    refine ⟨_, rfl, _, _, rfl, rfl, _, rfl, ite2 (fun e => ?_) (fun e => ?_)⟩
    · refine ⟨_, rfl, d, c, _, rfl, D1, by decide, by decide, fun m H2 m0 m1 D2 K2 => ⟨_, _, rfl, rfl, ?_⟩⟩
      have S2 := S1.keepD K2 D1.notup
      refine ⟨1, rfl, by show 5 ≤ sizeLine; omega, fun A1 h1 => ⟨1, rfl, by show 5 ≤ sizeLine; omega, fun A2 h2 => ?_⟩⟩
      refine ⟨1, rfl, _, _, rfl, rfl, ⟨by decide, by decide, by decide⟩, _, _, rfl, rfl, by show 1 ≤ sizeLine; omega, fun t h3 => ⟨by show 5 ≤ sizeLine; omega, fun A3 h4 => ⟨by show 3 ≤ sizeLine; omega, fun L h5 => ?_⟩⟩⟩
      obtain ⟨a1, g1⟩ := new_at (o := .lst [V.int 0, .int (-1), .bl true, .non, .str "1"]) h1
      obtain ⟨a2, g2⟩ := new_at (o := .lst [V.int (-1), .bl true, .non, .str "0", .int 1]) h2
      obtain ⟨a3, g3⟩ := new_at (o := .tup [V.int 1]) h3
      obtain ⟨a4, g4⟩ := new_at (o := .lst [V.int (-1), .int ((10 : Int) ^ Int.toNat 10 + 1), .bl true, .non, .ref t]) h4
      obtain ⟨a5, g5⟩ := new_at (o := .lst [V.ref A1, .ref A2, .ref A3]) h5
      have n1 := D2.nnew h1
      have n2 := (D2.keep a1).nnew h2
      have n3 := (D2.keep (a1.trans a2)).nnew h3
      have n4 := (D2.keep ((a1.trans a2).trans a3)).nnew h4
      have b := (((a1.trans a2).trans a3).trans a4).trans a5
      have f1 := (((a2.trans a3).trans a4).trans a5) _ _ g1 (by simp)
      have f2 := ((a3.trans a4).trans a5) _ _ g2 (by simp)
      have f3 := (a4.trans a5) _ _ g3 (by simp)
      have f4 := a5 _ _ g4 (by simp)
      have D5 := D2.keep b
      have S5 := S2.keep b
      have K5 := (K1.trans K2).trans (b.mono (es := [d, c]) (by simp))
      obtain ⟨B, bs, hat, nB, hB, l0, l1, inB⟩ := odd3 m0 m1 f1 f2 f4 f3 n1 n2 n4 n3
      clear f1 f2 f3 f4 n1 n2 n3 n4 a1 a2 a3 a4 a5 b g1 g2 g3 g4 S2 K1 K2
      refine ⟨_, rfl, _, _, rfl, _, _, rfl, rfl, L, _, _, .ref B, rfl, rfl, SqL.of g5, hat, ?_⟩
      refine ⟨_, rfl, noPart ⟨_, rfl, _, rfl, slA_all S5.ha fun p1 H6 K6 g6 => ?_⟩⟩
      have D6 := D5.keep K6
      refine ⟨_, rfl, _, rfl, d, c, .ref B, bs, rfl, D6, .inl ⟨B, rfl, nB, .inl (K6 _ _ hB (by simp))⟩, l0, l1, fun v H7 hv D7 K7 => ⟨by show 1 ≤ sizeLine; omega, fun p2 h7 => ?_⟩⟩
      have v7 := (My.D2.keep (inB v hv) (K6.mono (es := [d, c]) (by simp))).keep K7
      obtain ⟨a8, g8⟩ := new_at (o := .tup [v]) h7
      have S7 := (S5.keep K6).keepD K7 D6.notup
      have g6' := K7 _ _ g6 (D6.ntup g6)
      have b1 : (cutV (stV st r) none (some (1 + m))).length ≤ (stV st r).length := cutV_length _ _ _
      have b2 : (cutV (stV st r) (some (1 + m + 1)) none).length ≤ (stV st r).length := cutV_length _ _ _
      refine catA_all (a8 _ _ g6' (by simp)) g8 (by show _ + 1 ≤ 1000; omega) fun p3 H8 K8 g9 => ?_
      have K78 := a8.trans K8
      refine ⟨_, rfl, _, rfl, _, _, rfl, rfl, _, rfl, noPart (slA_all (S7.keep K78).ha fun p4 H9 K9 g10 => ?_)⟩
      refine catA_all (K9 _ _ g9 (by simp)) g10 (by rw [List.length_append]; show _ + 1 + _ ≤ 1000; omega) fun p5 H10 K10 g11 => ?_
      have K7z := (K78.trans K9).trans K10
      have Dz := D7.keep K7z
      exact q _ H10 (Deep_tup g11 (Dz.ntup g11) (Nat.le_trans put_len (by omega)) fun z hz => put_mem (p := My.D2 [d, c] H10) (state_D2 Dz (S7.keep K7z) ow) (v7.keep (K7z.mono (by simp))) hz) Dz (K5.trans (((K6.mono (by simp)).trans K7).trans (K7z.mono (by simp))))
    · have k3 : ¬ k < 3 := fun z => e (decide_eq_true z)
      have lr1 : (rs.map V.ref).length = st.ps.length := by rw [List.length_map]; exact SA.pr.len
      have l4 := ow.ok.len
      by_cases h3 : k = 3
      · subst h3
        refine ⟨_, rfl, rfl, _, rfl, iteT ?_⟩
        refine ⟨_, rfl, by show 0 ≤ sizeLine; decide, fun u hu => ?_⟩
        have Ke := Keep.upd_new (ds := []) hu (o := .tup [])
        refine ⟨_, _, Dp_ps (Ke _ _ S1.hr (by simp)) (S1.pr.keep Ke), .tup (SqT.of upd_same) .nil, shaped_ps _, shaped_nil, _, rfl, ?_⟩
        rw [eqv_nil]
        generalize upd H1 u (HO.tup []) = H2 at Ke
        have Sc := S1.keep Ke
        have Dc := D1.keep Ke
        have Kc : Keep [d, c] H H2 := K1.trans (Ke.mono (by simp))
        clear hu D1 S1 K1 Ke
        by_cases c0 : st.ps = []
        · rw [show st.ps.isEmpty = true from by rw [c0]; rfl]
          refine iteF ?_
          refine ⟨_, rfl, rfl, _, rfl, ?_⟩
          rw [int_ne (by omega)]
          refine iteF (iteF ?_)
          refine ⟨_, rfl, rfl, _, rfl, ?_⟩
          rw [int_ne (by omega)]
          refine iteF ?_
          refine ⟨_, rfl, rfl, _, rfl, ?_⟩
          rw [int_ne (by omega)]
          refine iteF ?_
          refine ⟨_, rfl, d, c, _, rfl, Dc, by decide, by decide, fun m H3 m0 m1 D3 K3 => ⟨_, _, rfl, rfl, _, rfl, by omega, by omega, fun L hL => ?_⟩⟩
          have S3 := Sc.keepD K3 Dc.notup
          have nL := D3.nnew hL
          refine lc_range (lo := 0) (n := (3 + m).toNat) (fun t H8 => Keep [] H3 H8 ∧ ∃ ts : List Addr, H8 L = some (.lst (ts.map V.ref)) ∧ ts.length = t ∧ ∀ x ∈ ts, ∃ i : Int, i ≤ 10 ∧ H8 x = some (.tup [.int i, .int 0, .int 1, .int 0, .int 0])) ⟨Keep.upd_new hL, [], upd_same, rfl, by simp⟩ ?_ ?_
          · rintro j H8 hj ⟨K8, ts, h8, tl8, tb⟩
            refine ⟨rfl, tYes_go (yes ?_)⟩
            refine ⟨_, rfl, _, _, rfl, rfl, by show 5 ≤ sizeLine; omega, fun t ht => ?_⟩
            obtain ⟨a8, g8⟩ := new_at (o := .tup [V.int (0 + (j : Int) + 1), .int 0, .int 1, .int 0, .int 0]) ht
            have h8' := a8 _ _ h8 (by simp)
            refine ⟨_, h8', by rw [List.length_map]; omega, (K8.trans a8).trans_new hL, ts ++ [t], by rw [upd_same, List.map_append]; rfl, by simp [tl8], fun x hx => ?_⟩
            rcases List.mem_append.mp hx with hx | hx
            · obtain ⟨i, i1, e⟩ := tb x hx
              have e' := a8 _ _ e (by simp)
              exact ⟨i, i1, by rw [upd_ne (fun z => by rw [z, h8'] at e'; cases e')]; exact e'⟩
            · rw [List.mem_singleton] at hx; subst hx
              exact ⟨0 + (j : Int) + 1, by omega, by rw [upd_ne (Ne.symm (ne_of_none h8 ht))]; exact g8⟩
          · rintro H8 ⟨K8, ts, h8, tl8, tb⟩
            refine ⟨L, _, rfl, .inl ⟨SqL.of h8, fun T' hT => ?_⟩⟩
            obtain ⟨a9, g9⟩ := new_at (o := .tup (ts.map V.ref)) hT
            have K9 := K8.trans a9
            refine ⟨_, rfl, noPart ⟨5, rfl, slA_all (S3.keep K9).ha fun p1 H10 K10 g10 => ⟨_, rfl, by show 1 ≤ sizeLine; omega, fun p2 h11 => ?_⟩⟩⟩
            obtain ⟨a11, g11⟩ := new_at (o := .tup [V.ref T']) h11
            refine catA_all (a11 _ _ g10 (by simp)) g11 (by have b1 : (cutV (stV st r) none (some 5)).length ≤ (stV st r).length := cutV_length _ _ _; show _ + 1 ≤ 1000; omega) fun p3 H12 K12 g12 => ?_
            have Kz := ((K9.trans K10).trans a11).trans K12
            have Dz := D3.keep Kz
            have gT := (K10.trans (a11.trans K12)) _ _ g9 (by simp)
            refine q _ H12 (last_D3 Dz (S3.keep Kz) ow g12 (Deep_tup gT (Dz.ntup gT) (by rw [List.length_map]; omega) fun x hx => ?_)) Dz ((Kc.trans K3).trans (Kz.mono (by simp)))
            obtain ⟨y, hy, rfl⟩ := List.mem_map.mp hx
            obtain ⟨i, i1, e⟩ := tb y hy
            have e' := (a9.trans (K10.trans (a11.trans K12))) _ _ e (by simp)
            exact Deep_tup e' (Dz.ntup e') (by show 5 ≤ 100; decide) (all5 (D0_int (by rw [eb]; omega)) (D0_int (by rw [eb]; decide)) (D0_int (by rw [eb]; decide)) (D0_int (by rw [eb]; decide)) (D0_int (by rw [eb]; decide)))
        · have lpos : 0 < st.ps.length := List.length_pos_iff.mpr c0
          rw [show st.ps.isEmpty = false from by cases h : st.ps with | nil => exact absurd h c0 | cons a b => rfl]
          refine iteT ?_
          refine ⟨_, rfl, _, rfl, r, _, rfl, .inr (SqT.of Sc.hr), d, c, _, rfl, Dc, by omega, by omega, fun m H3 m0 m1 D3 K3 => ?_⟩
          have S3 := Sc.keepD K3 Dc.notup
          obtain ⟨x, hx, hat⟩ := atI_of (xs := rs.map V.ref) m0 m1
          obtain ⟨y, hy, rfl⟩ := List.mem_map.mp (List.mem_of_getElem? hx)
          obtain ⟨p, hp, ey⟩ := S3.pr.mem hy
          refine ⟨_, rfl, _, rfl, _, rfl, r, _, m, .ref y, rfl, rfl, SqT.of S3.hr, hat, d, c, y, p, rfl, D3, ey, ow.ps p hp, fun v H4 hv D4 K4 => ?_⟩
          have S4 := S3.keepD K4 D3.notup
          refine ⟨_, rfl, noPart ⟨5, rfl, slA_all S4.ha fun p1 H5 K5 g5 => ?_⟩⟩
          have S5 := S4.keep K5
          refine ⟨_, rfl, noPart ⟨_, rfl, _, rfl, slA_all S5.hr fun p2 H6 K6 g6 => ⟨_, rfl, by show 1 ≤ sizeLine; omega, fun p3 h7 => ?_⟩⟩⟩
          obtain ⟨a7, g7⟩ := new_at (o := .tup [v]) h7
          have b1 : (cutV (rs.map V.ref) none (some m)).length ≤ (rs.map V.ref).length := cutV_length _ _ _
          have b2 : (cutV (rs.map V.ref) (some (m + 1)) none).length ≤ (rs.map V.ref).length := cutV_length _ _ _
          have b3 : (cutV (stV st r) none (some 5)).length ≤ (stV st r).length := cutV_length _ _ _
          refine catA_all (a7 _ _ g6 (by simp)) g7 (by show _ + 1 ≤ 1000; omega) fun p4 H8 K8 g8 => ?_
          have K58 := (K6.trans a7).trans K8
          refine ⟨_, rfl, _, rfl, _, _, rfl, rfl, _, rfl, noPart (slA_all (S5.keep K58).hr fun p5 H9 K9 g9 => ?_)⟩
          refine catA_all (K9 _ _ g8 (by simp)) g9 (by rw [List.length_append]; show _ + 1 + _ ≤ 1000; omega) fun p6 H10 K10 g10 => ⟨by show 1 ≤ sizeLine; omega, fun p7 h11 => ?_⟩
          obtain ⟨a11, g11⟩ := new_at (o := .tup [V.ref p6]) h11
          have K5b := ((K58.trans K9).trans K10).trans a11
          refine catA_all (K5b _ _ g5 (by simp)) g11 (by show _ + 1 ≤ 1000; omega) fun p8 H12 K12 g12 => ?_
          have Kz := (K5.trans K5b).trans K12
          have Dz := D4.keep Kz
          have g6z := (a11.trans K12) _ _ g10 (by simp)
          have hvz := hv.keep (Kz.mono (es := [d, c]) (by simp))
          have Sz := S4.keep Kz
          exact q _ H12 (last_D3 Dz Sz ow g12 (Deep_tup g6z (Dz.ntup g6z) (Nat.le_trans put_len (by omega)) fun z hz => put_mem (p := My.D1 [d, c] H12) (proms_D1 Dz Sz.pr ow.ps) hvz hz)) Dz (((Kc.trans K3).trans K4).trans (Kz.mono (by simp)))
      · refine ⟨_, rfl, rfl, _, rfl, ?_⟩
        rw [int_ne h3]
        refine iteF (iteF ?_)
        by_cases h4 : k = 4
        · subst h4
          refine ⟨_, rfl, rfl, _, rfl, iteT ?_⟩
          refine ⟨_, rfl, by show 0 ≤ sizeLine; decide, fun u hu => ?_⟩
          have Ke := Keep.upd_new (ds := []) hu (o := .tup [])
          refine ⟨_, _, Dp_ps (Ke _ _ S1.hr (by simp)) (S1.pr.keep Ke), .tup (SqT.of upd_same) .nil, shaped_ps _, shaped_nil, _, rfl, ?_⟩
          rw [eqv_nil]
          generalize upd H1 u (HO.tup []) = H2 at Ke
          have Sc := S1.keep Ke
          have Dc := D1.keep Ke
          have Kc : Keep [d, c] H H2 := K1.trans (Ke.mono (by simp))
          clear hu D1 S1 K1 Ke
          by_cases c0 : st.ps = []
          · rw [show st.ps.isEmpty = true from by rw [c0]; rfl]
            refine iteF ?_
            refine ⟨_, rfl, rfl, _, rfl, ?_⟩
            rw [int_ne (by omega)]
            refine iteF ?_
            refine ⟨_, rfl, rfl, _, rfl, ?_⟩
            rw [int_ne (by omega)]
            refine iteF ?_
            refine ⟨_, rfl, d, c, _, rfl, Dc, by decide, by decide, fun m H3 m0 m1 D3 K3 => ⟨_, _, rfl, rfl, _, rfl, by omega, by omega, fun L hL => ?_⟩⟩
            have S3 := Sc.keepD K3 Dc.notup
            have nL := D3.nnew hL
            refine lc_range (lo := 0) (n := (3 + m).toNat) (fun t H8 => Keep [] H3 H8 ∧ ∃ ts : List Addr, H8 L = some (.lst (ts.map V.ref)) ∧ ts.length = t ∧ ∀ x ∈ ts, ∃ i : Int, i ≤ 10 ∧ H8 x = some (.tup [.int i, .int 0, .int 1, .int 0, .int 0])) ⟨Keep.upd_new hL, [], upd_same, rfl, by simp⟩ ?_ ?_
            · rintro j H8 hj ⟨K8, ts, h8, tl8, tb⟩
              refine ⟨rfl, tYes_go (yes ?_)⟩
              refine ⟨_, rfl, _, _, rfl, rfl, by show 5 ≤ sizeLine; omega, fun t ht => ?_⟩
              obtain ⟨a8, g8⟩ := new_at (o := .tup [V.int (0 + (j : Int) + 1), .int 0, .int 1, .int 0, .int 0]) ht
              have h8' := a8 _ _ h8 (by simp)
              refine ⟨_, h8', by rw [List.length_map]; omega, (K8.trans a8).trans_new hL, ts ++ [t], by rw [upd_same, List.map_append]; rfl, by simp [tl8], fun x hx => ?_⟩
              rcases List.mem_append.mp hx with hx | hx
              · obtain ⟨i, i1, e⟩ := tb x hx
                have e' := a8 _ _ e (by simp)
                exact ⟨i, i1, by rw [upd_ne (fun z => by rw [z, h8'] at e'; cases e')]; exact e'⟩
              · rw [List.mem_singleton] at hx; subst hx
                exact ⟨0 + (j : Int) + 1, by omega, by rw [upd_ne (Ne.symm (ne_of_none h8 ht))]; exact g8⟩
            · rintro H8 ⟨K8, ts, h8, tl8, tb⟩
              refine ⟨L, _, rfl, .inl ⟨SqL.of h8, fun T' hT => ?_⟩⟩
              obtain ⟨a9, g9⟩ := new_at (o := .tup (ts.map V.ref)) hT
              have K9 := K8.trans a9
              refine ⟨_, rfl, noPart ⟨5, rfl, slA_all (S3.keep K9).ha fun p1 H10 K10 g10 => ⟨_, rfl, by show 1 ≤ sizeLine; omega, fun p2 h11 => ?_⟩⟩⟩
              obtain ⟨a11, g11⟩ := new_at (o := .tup [V.ref T']) h11
              refine catA_all (a11 _ _ g10 (by simp)) g11 (by have b1 : (cutV (stV st r) none (some 5)).length ≤ (stV st r).length := cutV_length _ _ _; show _ + 1 ≤ 1000; omega) fun p3 H12 K12 g12 => ?_
              have Kz := ((K9.trans K10).trans a11).trans K12
              have Dz := D3.keep Kz
              have gT := (K10.trans (a11.trans K12)) _ _ g9 (by simp)
              refine q _ H12 (last_D3 Dz (S3.keep Kz) ow g12 (Deep_tup gT (Dz.ntup gT) (by rw [List.length_map]; omega) fun x hx => ?_)) Dz ((Kc.trans K3).trans (Kz.mono (by simp)))
              obtain ⟨y, hy, rfl⟩ := List.mem_map.mp hx
              obtain ⟨i, i1, e⟩ := tb y hy
              have e' := (a9.trans (K10.trans (a11.trans K12))) _ _ e (by simp)
              exact Deep_tup e' (Dz.ntup e') (by show 5 ≤ 100; decide) (all5 (D0_int (by rw [eb]; omega)) (D0_int (by rw [eb]; decide)) (D0_int (by rw [eb]; decide)) (D0_int (by rw [eb]; decide)) (D0_int (by rw [eb]; decide)))
          · have lpos : 0 < st.ps.length := List.length_pos_iff.mpr c0
            rw [show st.ps.isEmpty = false from by cases h : st.ps with | nil => exact absurd h c0 | cons a b => rfl]
            refine iteT ?_
            obtain ⟨y0, ys, ers⟩ : ∃ y0 ys, rs = y0 :: ys := by
              cases h : rs with
              | nil => rw [h] at lr1; simp at lr1; omega
              | cons a b => exact ⟨a, b, rfl⟩
            have at0 : atI (rs.map V.ref) 0 = some (.ref y0) := by rw [ers]; show atI _ ((0 : Nat) : Int) = _; exact atI_nat rfl
            have in0 : y0 ∈ rs := by rw [ers]; exact List.mem_cons_self
            refine ⟨_, rfl, _, rfl, r, _, 0, .ref y0, rfl, rfl, SqT.of Sc.hr, at0, by show 1 ≤ sizeLine; omega, fun t1 h1 => ⟨_, rfl, by show 2 ≤ sizeLine; omega, fun A hA => ?_⟩⟩
            obtain ⟨a1, g1⟩ := new_at (o := .tup [V.ref y0]) h1
            obtain ⟨a2, g2⟩ := new_at (o := .lst [V.int 1, .int 4]) hA
            have D2 := Dc.keep (a1.trans a2)
            have S2 := Sc.keep (a1.trans a2)
            refine ⟨d, c, .ref A, _, rfl, D2, .inl ⟨A, rfl, (Dc.keep a1).nnew hA, .inl g2⟩, by show 0 < 2; decide, by show 2 < 1000000000; decide, fun v H3 hv D3 K3 => ?_⟩
            obtain ⟨n, rfl, n1, n4⟩ : ∃ n : Int, v = .int n ∧ 1 ≤ n ∧ n ≤ 4 := by
              simp only [List.mem_cons, List.not_mem_nil, or_false] at hv
              rcases hv with rfl | rfl
              · exact ⟨1, rfl, by decide, by decide⟩
              · exact ⟨4, rfl, by decide, by decide⟩
            have S3 := S2.keepD K3 D2.notup
            have gt1 := a2 _ _ g1 (by simp)
            have K03 : Keep [d, c] H H3 := (Kc.trans ((a1.trans a2).mono (by simp))).trans K3
            refine repA_all (xs := [V.ref y0]) (K3 _ _ gt1 (D2.ntup gt1)) (by simp) n1 n4 (by show 1 ≤ 10; decide) fun t2 zs H4 K4 g4 lz mz => ?_
            refine catA_all (S3.keep K4).hr g4 (by omega) fun t3 H5 K5 g5 => ?_
            have K35 := K4.trans K5
            have S5 := S3.keep K35
            refine ⟨_, rfl, _, rfl, 1, rfl, -1, rfl, r, _, rfl, rfl, SqT.of S5.hr, fun p6 zs2 h6 lz2 mz2 => ?_⟩
            obtain ⟨a6, g6⟩ := new_at (o := .tup zs2) h6
            refine ⟨_, rfl, r, _, rfl, .inr (SqT.of (S5.keep a6).hr), fun l7 h7 => ?_⟩
            obtain ⟨a7, g7⟩ := new_at (o := .lst (rs.map V.ref)) h7
            refine ⟨_, rfl, noPart ⟨1, rfl, slA_all ((S5.keep a6).keep a7).hr fun p8 H8 K8 g8 => ?_⟩⟩
            rw [ers, List.map_cons, cut_one] at g8
            unfold tC
            refine repA_all (k := 2) g8 (by simp) (by decide) (by decide) (by show 1 ≤ 10; decide) fun t9 zs3 H9 K9 g9 lz3 mz3 => ?_
            have K59 := ((a6.trans a7).trans K8).trans K9
            refine ⟨_, rfl, r, _, 0, .ref y0, rfl, rfl, SqT.of (S5.keep K59).hr, at0, by show 5 ≤ sizeLine; omega, fun M hM => ?_⟩
            obtain ⟨a10, g10⟩ := new_at (o := .lst [V.ref t3, .ref p6, .ref l7, .ref t9, .ref y0]) hM
            have nM := (D3.keep (K35.trans K59)).nnew hM
            have nl7 := (D3.keep (K35.trans a6)).nnew h7
            refine ⟨_, rfl, noPart ⟨5, rfl, slA_all (S5.keep (K59.trans a10)).ha fun p1 H11 K11 g11 => ?_⟩⟩
            have K5z := (K59.trans a10).trans K11
            have D11 := D3.keep (K35.trans K5z)
            have S11 := S5.keep K5z
            refine ⟨_, rfl, _, rfl, d, c, .ref M, _, rfl, D11, .inl ⟨M, rfl, nM, .inl (K11 _ _ g10 (by simp))⟩, by show 0 < 5; decide, by show 5 < 1000000000; decide, fun v H12 hv D12 K12 => ⟨by show 1 ≤ sizeLine; omega, fun p13 h13 => ?_⟩⟩
            have pD := proms_D1 D11 S11.pr ow.ps
            have y0D := pD (.ref y0) (List.mem_map.mpr ⟨y0, in0, rfl⟩)
            have i3 := K5z _ _ g5 (by simp)
            have i6 := (a7.trans (K8.trans (K9.trans (a10.trans K11)))) _ _ g6 (by simp)
            have i7 := (K8.trans (K9.trans (a10.trans K11))) _ _ g7 (by simp)
            have i9 := (a10.trans K11) _ _ g9 (by simp)
            have vD : My.D2 [d, c] H11 v := by
              simp only [List.mem_cons, List.not_mem_nil, or_false] at hv
              rcases hv with rfl | rfl | rfl | rfl | rfl
              · refine Deep_tup i3 (D11.ntup i3) (by rw [List.length_append]; omega) fun z hz => ?_
                rcases List.mem_append.mp hz with hz | hz
                · exact pD z hz
                · have := mz z hz
                  rw [List.mem_singleton] at this; subst this; exact y0D
              · exact Deep_tup i6 (D11.ntup i6) (by omega) fun z hz => pD z (mz2 z hz)
              · exact Deep_lst i7 nl7
              · refine Deep_tup i9 (D11.ntup i9) (by omega) fun z hz => ?_
                have := mz3 z hz
                rw [List.mem_singleton] at this; subst this; exact y0D
              · obtain ⟨p, hp, ey⟩ := S11.pr.mem in0
                exact Deep_tup ey (D11.ntup ey) (by show 5 ≤ 100; decide) (prV_D1 (ow.ps p hp))
            have S12 := S11.keepD K12 D11.notup
            have g12 := K12 _ _ g11 (D11.ntup g11)
            obtain ⟨a13, g13⟩ := new_at (o := .tup [v]) h13
            refine catA_all (a13 _ _ g12 (by simp)) g13 (by have b3 : (cutV (stV st r) none (some 5)).length ≤ (stV st r).length := cutV_length _ _ _; show _ + 1 ≤ 1000; omega) fun p14 H14 K14 g14 => ?_
            have Kz := a13.trans K14
            have Dz := D12.keep Kz
            exact q _ H14 (last_D3 Dz (S12.keep Kz) ow g14 ((vD.keep K12).keep (Kz.mono (by simp)))) Dz (((K03.trans ((K35.trans K5z).mono (by simp))).trans K12).trans (Kz.mono (by simp)))
        · refine ⟨_, rfl, rfl, _, rfl, ?_⟩
          rw [int_ne h4]
          refine iteF (iteF ?_)
          by_cases h5 : k = 5
          · subst h5
            refine ⟨_, rfl, rfl, _, rfl, iteT ?_⟩
            refine ⟨_, rfl, _, rfl, noPart ⟨5, rfl, slA_all S1.ha fun p1 H2 K2 g2 => ?_⟩⟩
            refine ⟨_, rfl, by show 1 ≤ sizeLine; omega, fun p2 h3 => ?_⟩
            obtain ⟨a3, g3⟩ := new_at (o := .tup [V.int 0]) h3
            refine catA_all (S1.keep (K2.trans a3)).ha g3 (by show 6 + 1 ≤ 1000; decide) fun p4 H4 K4 g4 => ?_
            have K14 := (K2.trans a3).trans K4
            refine ⟨_, rfl, a, _, rfl, .inr (SqT.of (S1.keep K14).ha), fun l5 h5 => ?_⟩
            obtain ⟨a5, g5⟩ := new_at (o := .lst (stV st r)) h5
            refine ⟨by show 1 ≤ sizeLine; omega, fun p6 h6 => ⟨_, rfl, 1, rfl, ?_⟩⟩
            obtain ⟨a6, g6⟩ := new_at (o := .tup [V.str "State"]) h6
            have K16 := (K14.trans a5).trans a6
            refine noPart (slA_all (S1.keep K16).ha fun p7 H7 K7 g7 => ?_)
            have b3 : (cutV (stV st r) (some 1) none).length ≤ (stV st r).length := cutV_length _ _ _
            refine catA_all (K7 _ _ g6 (by simp)) g7 (by show 1 + _ ≤ 1000; omega) fun p8 H8 K8 g8 => ?_
            have K18 := (K16.trans K7).trans K8
            refine ⟨by show 1 ≤ sizeLine; omega, fun p9 h9 => ⟨_, rfl, 1, rfl, ?_⟩⟩
            obtain ⟨a9, g9⟩ := new_at (o := .tup [V.int 5]) h9
            refine noPart (slA_all (S1.keep (K18.trans a9)).ha fun p10 H10 K10 g10 => ?_)
            refine catA_all (K10 _ _ g9 (by simp)) g10 (by show 1 + _ ≤ 1000; omega) fun p11 H11 K11 g11 => ?_
            have K1b := ((K18.trans a9).trans K10).trans K11
            refine ⟨by show 5 ≤ sizeLine; omega, fun M hM => ?_⟩
            obtain ⟨a12, g12⟩ := new_at (o := .lst [V.ref p1, .ref p4, .ref l5, .ref p8, .ref p11]) hM
            have Kz := K1b.trans a12
            have Dz := D1.keep Kz
            have Sz := S1.keep Kz
            have sD := state_D2 Dz Sz ow
            have nl5 := (D1.keep K14).nnew h5
            have z8 := (a9.trans K10).trans (K11.trans a12)
            have i1 := (a3.trans (K4.trans (a5.trans (a6.trans (K7.trans (K8.trans z8)))))) _ _ g2 (by simp)
            have i4 := (a5.trans (a6.trans (K7.trans (K8.trans z8)))) _ _ g4 (by simp)
            have i5 := (a6.trans (K7.trans (K8.trans z8))) _ _ g5 (by simp)
            have i8 := z8 _ _ g8 (by simp)
            have i11 := a12 _ _ g11 (by simp)
            have b5 : (cutV (stV st r) none (some 5)).length ≤ (stV st r).length := cutV_length _ _ _
            refine ⟨d, c, .ref M, _, rfl, Dz, .inl ⟨M, rfl, (D1.keep K1b).nnew hM, .inl g12⟩, by show 0 < 5; decide, by show 5 < 1000000000; decide, fun v H13 hv D13 K13 => q v H13 (My.D3.keep ?_ K13) D13 ((K1.trans (Kz.mono (by simp))).trans K13)⟩
            simp only [List.mem_cons, List.not_mem_nil, or_false] at hv
            rcases hv with rfl | rfl | rfl | rfl | rfl
            · exact Deep_tup i1 (Dz.ntup i1) (by omega) fun z hz => sD z (cut_mem hz)
            · refine Deep_tup i4 (Dz.ntup i4) (by rw [List.length_append]; show 6 + 1 ≤ 100; decide) fun z hz => ?_
              rcases List.mem_append.mp hz with hz | hz
              · exact sD z hz
              · rw [List.mem_singleton] at hz; subst hz; exact Deep_int (by rw [eb]; decide)
            · exact Deep_lst i5 nl5
            · refine Deep_tup i8 (Dz.ntup i8) (by rw [List.length_append]; show 1 + _ ≤ 100; omega) fun z hz => ?_
              rcases List.mem_append.mp hz with hz | hz
              · rw [List.mem_singleton] at hz; subst hz; exact Deep_str (by decide)
              · exact sD z (cut_mem hz)
            · refine Deep_tup i11 (Dz.ntup i11) (by rw [List.length_append]; show 1 + _ ≤ 100; omega) fun z hz => ?_
              rcases List.mem_append.mp hz with hz | hz
              · rw [List.mem_singleton] at hz; subst hz; exact Deep_int (by rw [eb]; decide)
              · exact sD z (cut_mem hz)
          · refine ⟨_, rfl, rfl, _, rfl, ?_⟩
            rw [int_ne h5]
            refine iteF ?_
            by_cases h6 : k = 6
            · subst h6
              refine ⟨_, rfl, rfl, _, rfl, iteT ?_⟩
              refine ⟨_, rfl, by show 0 ≤ sizeLine; omega, fun e1 h1 => ⟨Nat.zero_le _, fun e2 h2 => fun e3 h3' => ⟨by show 1 ≤ sizeLine; omega, fun e4 h4' => fun e5 h5' => ?_⟩⟩⟩
              obtain ⟨a1, g1⟩ := new_at (o := .tup []) h1
              obtain ⟨a2, g2⟩ := new_at (o := .lst []) h2
              obtain ⟨a3, g3⟩ := new_at (o := .dK []) h3'
              obtain ⟨a4, g4⟩ := new_at (o := .tup [V.str "state"]) h4'
              refine ⟨upd_same, [(.inr "state", .int 1)], rfl, by decide, ?_⟩
              rw [upd_upd]
              obtain ⟨a5, g5⟩ := new_at (o := .dK (mergeK [] [(.inr "state", .int 1)])) h5'
              refine ⟨by show 9 ≤ sizeLine; omega, fun M hM => ?_⟩
              obtain ⟨a6, g6⟩ := new_at (o := .lst [V.non, .bl true, .int 7, .str "state", .ref e1, .ref e2, .ref e3, .ref e4, .ref e5]) hM
              have z4 := a5.trans a6
              have z3 := a4.trans z4
              have z2 := a3.trans z3
              have z1 := a2.trans z2
              have Kz := a1.trans z1
              have Dz := D1.keep Kz
              have i1 := z1 _ _ g1 (by simp)
              have i2 := z2 _ _ g2 (by simp)
              have i3 := z3 _ _ g3 (by simp)
              have i4 := z4 _ _ g4 (by simp)
              have i5 := a6 _ _ g5 (by simp)
              have n2 := (D1.keep a1).nnew h2
              have n3 := (D1.keep (a1.trans a2)).nnew h3'
              have n5 := (D1.keep (a1.trans (a2.trans (a3.trans a4)))).nnew h5'
              have nM := (D1.keep (a1.trans (a2.trans (a3.trans (a4.trans a5))))).nnew hM
              refine ⟨d, c, .ref M, _, rfl, Dz, .inl ⟨M, rfl, nM, .inl g6⟩, by show 0 < 9; decide, by show 9 < 1000000000; decide, fun v H13 hv D13 K13 => q v H13 (My.D3.keep ?_ K13) D13 ((K1.trans (Kz.mono (by simp))).trans K13)⟩
              simp only [List.mem_cons, List.not_mem_nil, or_false] at hv
              rcases hv with rfl | rfl | rfl | rfl | rfl | rfl | rfl | rfl | rfl
              · exact Deep_non
              · exact Deep_bl
              · exact Deep_int (by rw [eb]; decide)
              · exact Deep_str (by decide)
              · exact Deep_tup i1 (Dz.ntup i1) (by show 0 ≤ 100; decide) (by simp)
              · exact Deep_lst i2 n2
              · exact Deep_dct i3 n3
              · refine Deep_tup i4 (Dz.ntup i4) (by show 1 ≤ 100; decide) fun z hz => ?_
                rw [List.mem_singleton] at hz; subst hz; exact Deep_str (by decide)
              · exact Deep_dct i5 n5
            · refine ⟨_, rfl, rfl, _, rfl, ?_⟩
              rw [int_ne h6]
              refine iteF ?_
              have Sc := S1
              have Dc := D1
              have Kc := K1
              refine ⟨_, rfl, d, c, _, rfl, Dc, by decide, by decide, fun m H3 m0 m1 D3 K3 => ⟨_, _, rfl, rfl, _, rfl, by omega, by omega, fun L hL => ?_⟩⟩
              have S3 := Sc.keepD K3 Dc.notup
              have nL := D3.nnew hL
              refine lc_range (lo := 0) (n := (3 + m).toNat) (fun t H8 => Keep [] H3 H8 ∧ ∃ ts : List Addr, H8 L = some (.lst (ts.map V.ref)) ∧ ts.length = t ∧ ∀ x ∈ ts, ∃ i : Int, i ≤ 10 ∧ H8 x = some (.tup [.int i, .int 0, .int 1, .int 0, .int 0])) ⟨Keep.upd_new hL, [], upd_same, rfl, by simp⟩ ?_ ?_
              · rintro j H8 hj ⟨K8, ts, h8, tl8, tb⟩
                refine ⟨rfl, tYes_go (yes ?_)⟩
                refine ⟨_, rfl, _, _, rfl, rfl, by show 5 ≤ sizeLine; omega, fun t ht => ?_⟩
                obtain ⟨a8, g8⟩ := new_at (o := .tup [V.int (0 + (j : Int) + 1), .int 0, .int 1, .int 0, .int 0]) ht
                have h8' := a8 _ _ h8 (by simp)
                refine ⟨_, h8', by rw [List.length_map]; omega, (K8.trans a8).trans_new hL, ts ++ [t], by rw [upd_same, List.map_append]; rfl, by simp [tl8], fun x hx => ?_⟩
                rcases List.mem_append.mp hx with hx | hx
                · obtain ⟨i, i1, e⟩ := tb x hx
                  have e' := a8 _ _ e (by simp)
                  exact ⟨i, i1, by rw [upd_ne (fun z => by rw [z, h8'] at e'; cases e')]; exact e'⟩
                · rw [List.mem_singleton] at hx; subst hx
                  exact ⟨0 + (j : Int) + 1, by omega, by rw [upd_ne (Ne.symm (ne_of_none h8 ht))]; exact g8⟩
              · rintro H8 ⟨K8, ts, h8, tl8, tb⟩
                refine ⟨L, _, rfl, .inl ⟨SqL.of h8, fun T' hT => ?_⟩⟩
                obtain ⟨a9, g9⟩ := new_at (o := .tup (ts.map V.ref)) hT
                have K9 := K8.trans a9
                refine ⟨_, rfl, noPart ⟨5, rfl, slA_all (S3.keep K9).ha fun p1 H10 K10 g10 => ⟨_, rfl, by show 1 ≤ sizeLine; omega, fun p2 h11 => ?_⟩⟩⟩
                obtain ⟨a11, g11⟩ := new_at (o := .tup [V.ref T']) h11
                refine catA_all (a11 _ _ g10 (by simp)) g11 (by have b1 : (cutV (stV st r) none (some 5)).length ≤ (stV st r).length := cutV_length _ _ _; show _ + 1 ≤ 1000; omega) fun p3 H12 K12 g12 => ?_
                have Kz := ((K9.trans K10).trans a11).trans K12
                have Dz := D3.keep Kz
                have gT := (K10.trans (a11.trans K12)) _ _ g9 (by simp)
                refine q _ H12 (last_D3 Dz (S3.keep Kz) ow g12 (Deep_tup gT (Dz.ntup gT) (by rw [List.length_map]; omega) fun x hx => ?_)) Dz ((Kc.trans K3).trans (Kz.mono (by simp)))
                obtain ⟨y, hy, rfl⟩ := List.mem_map.mp hx
                obtain ⟨i, i1, e⟩ := tb y hy
                have e' := (a9.trans (K10.trans (a11.trans K12))) _ _ e (by simp)
                exact Deep_tup e' (Dz.ntup e') (by show 5 ≤ 100; decide) (all5 (D0_int (by rw [eb]; omega)) (D0_int (by rw [eb]; decide)) (D0_int (by rw [eb]; decide)) (D0_int (by rw [eb]; decide)) (D0_int (by rw [eb]; decide)))
end
end My
set_option Elab.async false
set_option maxRecDepth 100000
set_option maxHeartbeats 1600000
namespace My
open PySem L2 TL StX
theorem sq_keep {K : PySem.W.Frag} {H H' : Hp} {a : Addr} {xs : List V} {ds : List Addr} (h : SqL K H a xs) (k : Keep ds H H') (n : ∀ o, H a = some o → a ∉ ds) : SqL K H' a xs := by
  rcases h with (h | ⟨o, h⟩) | h
  · exact .inl (.inl (k _ _ h (n _ h)))
  · exact .inl (.inr ⟨o, k _ _ h (n _ h)⟩)
  · exact .inr h
section
variable {ds : List Addr} {H : Hp} {v : V} {M : Addr} {ys zs : List V}
theorem parts_upd (hM : H M = some (.lst ys)) : partsOf (upd H M (.lst zs)) v = partsOf H v := by
  cases v with
  | ref a =>
    by_cases e : a = M
    · subst e; rw [parts_lst hM, parts_lst upd_same]
    · show (match upd H M (.lst zs) a with | some (.tup xs) => some xs | _ => none) = (match H a with | some (.tup xs) => some xs | _ => none)
      rw [upd_ne e]
  | _ => rfl
theorem Thing.upd {n : String} (hM : H M = some (.lst ys)) (h : Thing H v n) : Thing (upd H M (.lst zs)) v n := by
  cases h with
  | non => exact .non
  | bl b => exact .bl b
  | int i => exact .int i
  | str z h => exact .str z h
  | @lst a xs h =>
    by_cases e : a = M
    · subst e; exact .lst upd_same
    · exact .lst (by rw [upd_ne e]; exact h)
  | tup h => exact .tup (by rw [upd_ne (fun z => by rw [z, hM] at h; cases h)]; exact h)
  | dct h => exact .dct (by rw [upd_ne (fun z => by rw [z, hM] at h; cases h)]; exact h)
theorem D0.upd (hM : H M = some (.lst ys)) (h : D0 ds H v) : D0 ds (upd H M (.lst zs)) v :=
  ⟨let ⟨n, T⟩ := h.1; ⟨n, Thing.upd hM T⟩, ⟨h.2.1.1, fun xs e => h.2.1.2 xs (by rw [parts_upd hM] at e; exact e)⟩, h.2.2⟩
theorem Deep.upd {F : Hp → V → Prop} (hF : ∀ x, F H x → F (upd H M (.lst zs)) x) (hM : H M = some (.lst ys)) (h : Deep F ds H v) : Deep F ds (upd H M (.lst zs)) v :=
  ⟨D0.upd hM h.1, fun xs e x hx => hF x (h.2 xs (by rw [parts_upd hM] at e; exact e) x hx)⟩
theorem D3.upd (hM : H M = some (.lst ys)) (h : D3 ds H v) : D3 ds (upd H M (.lst zs)) v :=
  Deep.upd (fun _ => Deep.upd (fun _ => Deep.upd (fun _ => D0.upd hM) hM) hM) hM h
end
section
variable {P : Program} {w : World} {K : PySem.W.Frag} {mg : Str → Option Value} {base : Heap}
def dT (n : Int) : PyData := .tuple [.str "told", .int n]
def dN : PyData := .tuple [.str "none", .bool true]
theorem shaped_T (n : Int) : SeqAt.shaped (dT n) = true := by
  have e0 : (PyData.str "told").canLay0 = true := by rw [PyData.canLay0]; decide +kernel
  unfold SeqAt.shaped dT
  simp only [PyData.canLay0, PyData.depth, PyData.canLayAll0, PyData.depthAll, Bool.and_true, Bool.true_and]
  rw [PyData.canLay0] at e0
  rw [e0, Bool.true_and]
  exact decide_eq_true (by omega)
theorem shaped_N : SeqAt.shaped dN = true := by decide +kernel
theorem eqv_T (n : Int) : PyData.eqv (dT n) (dT n) = true := by
  unfold dT
  rw [PyData.eqv]
  simp only [PyData.eqvAll, PyData.eqv, beq_self_eq_true, Bool.and_self]
theorem eqv_N : PyData.eqv dN dN = true := by decide +kernel
theorem Dp_T {H : Hp} {a : Addr} {n : Int} (h : H a = some (.tup [.str "told", .int n])) : Dp K H (.ref a) (dT n) := .tup (SqT.of h) (.cons (.str _) (.cons (.int _) .nil))
theorem Dp_N {H : Hp} {a : Addr} (h : H a = some (.tup [.str "none", .bl true])) : Dp K H (.ref a) dN := .tup (SqT.of h) (.cons (.str _) (.cons (.bl _) .nil))
def sp_law (K : PySem.W.Frag) : Sp := fun vs H Q _ => ∃ (a : Addr) (ns : List Int), vs = [.ref a] ∧ SqL K H a (ns.map V.int) ∧ ns.length ≤ 63 ∧ ∀ H', Q (.bl true) H'
theorem g_law {C Y S M : Addr} (EE : ETx K mg C Y S M) (T : Txt K mg) {f : Addr} {fd : FuncData} (F : Fun K "law" "law" s_law f fd) : FnOk P w K mg base CX0 10 f fd ["script"] (sp_law K) := by
  have p__law_told : ∀ {P : Program} {w : World} {base : Heap}, Txt K mg → Pr P w K mg base "_law_told" s__law_told ["thing"] 9 sp_told := fun T => My.p__law_told EE T
  obtain ⟨f__law_odd, fd__law_odd, D__law_odd, G__law_odd⟩ := p__law_odd (P := P) (w := w) (base := base) T; obtain ⟨f__law_told, fd__law_told, D__law_told, G__law_told⟩ := p__law_told (P := P) (w := w) (base := base) T; obtain ⟨f_is_state, fd_is_state, D_is_state, G_is_state⟩ := p_is_state (P := P) (w := w) (base := base) T; obtain ⟨f__law_is_state, fd__law_is_state, D__law_is_state, G__law_is_state⟩ := p__law_is_state (P := P) (w := w) (base := base) T; obtain ⟨f__law_state, fd__law_state, D__law_state, G__law_state⟩ := p__law_state (P := P) (w := w) (base := base) T; obtain ⟨f__law_begin, fd__law_begin, D__law_begin, G__law_begin⟩ := p__law_begin (P := P) (w := w) (base := base) T
  refine F.ok sc_law (fun vs H Q E h => ?_) (fun cdv A outer s H vs Q E hr h => ?_)
  · obtain ⟨a, ns, rfl, _⟩ := h; rfl
  · obtain ⟨a, ns, rfl, hS, hl, q⟩ := h
    have hsl : sizeLine = 16777216 := sizeLine_eq
    refine ⟨_, (pss_cons (ps_set (i := 1) sc_law.nd rfl (Or.inr rfl) (pe_call G__law_begin (hr.mono (by decide)) rfl D__law_begin.m D__law_begin.F.kp D__law_begin.b .nil pass0 (pa_cons (pv 0) pa_nil)))
      (pss_cons (ps_for PassesOwn.never rfl (pi_range1 rfl T.z_range (pa_cons (pe_callB (call_max2 rfl) (by rfl) T.z_max (by decide +kernel) (pa_cons pe_int (pa_cons (pe_callB (call_min2 rfl) (by rfl) T.z_min (by decide +kernel) (pa_cons pe_int (pa_cons (pe_callB call_len_seq (by rfl) T.z_len (by decide +kernel) (pa_cons (pv 0) pa_nil)) pa_nil))) pa_nil))) pa_nil)) (pg_name (i := 2) sc_law.nd rfl (Or.inl rfl)) (pss_cons (ps_set (i := 3) sc_law.nd rfl (Or.inr rfl) (pe_call G__law_state (hr.mono (by decide)) rfl D__law_state.m D__law_state.F.kp D__law_state.b .nil pass0 (pa_cons (pv 1) pa_nil)))
      (pss_one (ps_for PassesOwn.never rfl (pi_list (pe_op op_cat (pe_lst (pa_cons (pv 3) pa_nil)) (pe_lc (own := [("k", 8)]) (g := gName 8) (tt := tYes) rfl sc_law.nd (pi_range1 rfl T.z_range (pa_cons pe_int pa_nil)) (blkOk_by (own := [("k", 8)]) (N := N_law) (sc := defScope s_law) (by decide +kernel)) (fun _ _ _ _ _ => (pg_name (i := 8) sc_law.nd rfl (Or.inl rfl))) (fun _ _ _ _ _ => pts_nil) (fun _ _ _ _ _ => (pe_call G__law_odd (hr.mono (by decide)) rfl D__law_odd.m D__law_odd.F.kp D__law_odd.b .nil pass0 (pa_cons (pv 1) (pa_cons (pv 3) pa_nil))))))) (pg_name (i := 4) sc_law.nd rfl (Or.inl rfl)) (pss_cons (ps_set (i := 5) sc_law.nd rfl (Or.inl rfl) (pe_call G__law_is_state (hr.mono (by decide)) rfl D__law_is_state.m D__law_is_state.F.kp D__law_is_state.b .nil pass0 (pa_cons (pv 4) pa_nil)))
      (pss_cons (ps_set (i := 6) sc_law.nd rfl (Or.inl rfl) (pe_call G_is_state (hr.mono (by decide)) rfl D_is_state.m D_is_state.F.kp D_is_state.b .nil pass0 (pa_cons (pv 4) pa_nil)))
      (pss_cons (ps_if (PW.pt (pw_or (pt_not (pt_val (pe_callB call_isi (by rfl) T.z_isinstance (by decide +kernel) (pa_cons (pv 6) (pa_cons (pe_bltn (by rfl) T.z_bool (by decide +kernel) (v := .ty "bool") rfl) pa_nil))))) (pw_or1 (pt_cmpR op_ne (pv 6) (pv 5) (nomark _))))) (pss_one (ps_ret pe_bl)) pss_nil)
      (pss_cons (ps_set (i := 7) sc_law.nd rfl (Or.inl rfl) (pe_tup (pa_cons pe_str (pa_cons pe_bl pa_nil))))
      (pss_cons (ps_if (pt_val (pv 5)) (pss_one (ps_set (i := 7) sc_law.nd rfl (Or.inl rfl) (pe_tup (pa_cons pe_str (pa_cons (pe_op op_add (pe_op op_add (pe_ix ix_tup (pv 4) pe_int (fun _ _ => rfl)) (pe_ix ix_tup (pv 4) pe_int (fun _ _ => rfl))) (pe_callB (cr_sum rfl) (by rfl) T.z_sum (by decide +kernel) (pa_cons (pe_lc (own := [("promise", 9)]) (g := gName 9) (tt := tYes) rfl sc_law.nd (pi_tup (pe_ix ix_tup (pv 4) pe_int (fun _ _ => rfl))) (blkOk_by (own := [("promise", 9)]) (N := N_law) (sc := defScope s_law) (by decide +kernel)) (fun _ _ _ _ _ => (pg_name (i := 9) sc_law.nd rfl (Or.inl rfl))) (fun _ _ _ _ _ => pts_nil) (fun _ _ _ _ _ => (pe_ix (ix_tupK (K := K) rfl) (pv 9) pe_int (fun _ _ => rfl)))) pa_nil))) pa_nil))))) pss_nil)
      (pss_one (ps_if (pt_cmpR (op_neD hr.units) (pe_call G__law_told (hr.mono (by decide)) rfl D__law_told.m D__law_told.F.kp D__law_told.b .nil pass0 (pa_cons (pv 4) pa_nil)) (pv 7) (nomark _)) (pss_one (ps_ret pe_bl)) pss_nil)))))))))))
      (pss_one (ps_ret pe_bl)))), ?_⟩
    refine ⟨_, rfl, a, ns, rfl, hS, hl, fun d c H1 hd hc D1 K1 => ?_⟩
    have hS1 := sq_keep hS K1 (by simp)
    refine ⟨_, rfl, a, _, rfl, .inl hS1, _, _, rfl, _, _, rfl, _, rfl, ?_, ?_, ?_⟩
    · rw [List.length_map]; split <;> split <;> omega
    · rw [List.length_map]; split <;> split <;> omega
    refine for_range (lo := 0) (fun i σ H4 => ∃ v2 v3 v4 v5 v6 v7 v8 v9 : Option V, σ = [some (.ref a), some (.ref d), v2, v3, v4, v5, v6, v7, v8, v9] ∧ DrawAt H4 d c) ⟨none, none, none, none, none, none, none, none, rfl, D1⟩ ?_ ?_
    · rintro i σ H4 hi ⟨v2, v3, v4, v5, v6, v7, v8, v9, rfl, D4⟩
      refine ⟨_, rfl, d, c, rfl, D4, fun sa r rs st H5 S5 ow D5 K5 => ?_⟩
      refine ⟨_, rfl, by show 1 ≤ sizeLine; omega, fun L0 h0 => ⟨3, rfl, by decide, by decide, fun M0 hM => ?_⟩⟩
      obtain ⟨a0, g0⟩ := new_at (o := .lst [V.ref sa]) h0
      have n0 := D5.nnew h0
      have D6 := D5.keep a0
      have S6 := S5.keep a0
      generalize upd H5 L0 (.lst [V.ref sa]) = H6 at a0 g0 D6 S6 hM
      have nM := D6.nnew hM
      have npd : d ∉ [M0] ∧ c ∉ [M0] := by
        simp only [List.mem_cons, List.not_mem_nil, or_false, not_or] at nM ⊢
        exact ⟨fun e => nM.1 e.symm, fun e => nM.2 e.symm⟩
      refine lc_range (lo := 0) (n := ((3 : Int)).toNat) (fun t H8 => DrawAt H8 d c ∧ Keep [d, c] H6 H8 ∧ ∃ vs, H8 M0 = some (.lst vs) ∧ vs.length = t ∧ ∀ v ∈ vs, D3 [d, c] H8 v) ⟨D6.keep (Keep.upd_new (ds := []) hM), Keep.upd_new hM, [], upd_same, rfl, by simp⟩ ?_ ?_
      · rintro k H8 hk ⟨D8, K8, vs, h8, vl, vb⟩
        have S8 := S6.keepD K8 D6.notup
        refine ⟨rfl, tYes_go (yes ?_)⟩
        refine ⟨_, rfl, _, rfl, d, c, sa, r, rs, st, rfl, D8, S8, ow, fun v H9 hv D9 K9 => ?_⟩
        have h9 := K9 _ _ h8 nM
        refine ⟨_, h9, by have : k < 3 := hk; omega, D9.keep (Keep.upd_in (ds := [M0]) (by simp)) npd.1 npd.2, fun b o e hb => ?_, vs ++ [v], upd_same, by simp [vl], fun x hx => ?_⟩
        · rw [upd_ne (ne_of_none e hM)]; exact (K8.trans K9) b o e hb
        · rcases List.mem_append.mp hx with hx | hx
          · exact D3.upd h9 ((vb x hx).keep K9)
          · rw [List.mem_singleton] at hx; subst hx; exact D3.upd h9 hv
      · rintro H8 ⟨D8, K8, vs, h8, vl, vb⟩
        have vl3 : vs.length = 3 := vl
        have S8 := S6.keepD K8 D6.notup
        refine ⟨L0, M0, _, _, rfl, rfl, K8 _ _ g0 n0, h8, by show 1 + vs.length ≤ sizeLine; omega, fun La hLa => ?_⟩
        obtain ⟨aL, gL⟩ := new_at (o := .lst ([V.ref sa] ++ vs)) hLa
        generalize upd H8 La (.lst ([V.ref sa] ++ vs)) = HL at aL gL
        have DL := D8.keep aL
        have SL := S8.keep aL
        have allD : ∀ x ∈ [V.ref sa] ++ vs, D3 [d, c] HL x := by
          intro x hx
          rcases List.mem_append.mp hx with hx | hx
          · rw [List.mem_singleton] at hx; subst hx
            exact Deep_tup SL.ha (DL.ntup SL.ha) (by show 6 ≤ 100; decide) (state_D2 DL SL ow)
          · exact (vb x hx).keep (k0 aL)
        refine ⟨La, rfl, ⟨_, SqL.of gL⟩, for_list (K := K) (a := La) (xs := [V.ref sa] ++ vs) (fun j σ H13 => Keep [] HL H13 ∧ ∃ v4 v5 v6 v7 v8 v9, σ = [some (.ref a), some (.ref d), some (.int (0 + i)), some (.ref sa), v4, v5, v6, v7, v8, v9]) ⟨Keep.refl, _, _, _, _, _, _, rfl⟩ (fun j σ H13 _ ⟨k, _⟩ => SqL.of (k _ _ gL (by simp))) ?_ ?_⟩
        · rintro j x σ H13 hx ⟨K13, v4, v5, v6, v7, v8, v9, rfl⟩
          have Dx := (allD x (List.mem_of_getElem? hx)).keep (k0 K13)
          refine ⟨_, rfl, x, [d, c], rfl, Dx, fun H14 K14 => ⟨_, rfl, x, [d, c], rfl, Dx.keep (k0 K14), fun H15 K15 => ?_⟩⟩
          rw [isSt_keep Dx (k0 K14)]
          refine ⟨_, rfl, _, _, _, _, true, rfl, .ty _, .base (.bl _), kit_ty (by decide +kernel), _, rfl, iteF ?_⟩
          refine ⟨_, rfl, _, rfl, rfl, _, rfl, ?_⟩
          rw [show (!decide (V.bl (isSt H13 x) = V.bl (isSt H13 x))) = false from by simp]
          refine iteF ?_
          refine ⟨by show 2 ≤ sizeLine; omega, fun t1 h1 => ⟨_, rfl, _, rfl, ?_⟩⟩
          obtain ⟨a1, g1⟩ := new_at (o := .tup [V.str "none", .bl true]) h1
          have K1c := (K14.trans K15).trans a1
          generalize upd H15 t1 (.tup [V.str "none", .bl true]) = Hc at a1 g1 K1c
          cases hst : isSt H13 x with
          | false =>
            refine iteF ?_
            refine ⟨_, rfl, x, [d, c], rfl, Dx.keep (k0 K1c), fun tt H20 K20 g20 => ?_⟩
            rw [isSt_keep Dx (k0 K1c), hst, if_neg (by simp)] at g20
            refine ⟨_, rfl, _, _, Dp_N g20, Dp_N (K20 _ _ g1 (by simp)), shaped_N, shaped_N, _, rfl, ?_⟩
            rw [eqv_N]
            exact iteF ⟨K13.trans (K1c.trans K20), _, _, _, _, _, _, rfl⟩
          | true =>
            refine iteT ?_
            obtain ⟨b, rr, m, p, t, xx, yy, qs, rfl, hb, hrr, l4', hall, ew⟩ := st_tup hst
            have hbc := K1c _ _ hb (by simp)
            have hrc := K1c _ _ hrr (by simp)
            refine ⟨_, rfl, b, _, 3, .int xx, rfl, rfl, SqT.of hbc, rfl, _, rfl, b, _, 4, .int yy, rfl, rfl, SqT.of hbc, rfl, _, _, rfl, rfl, ?_⟩
            refine ⟨_, rfl, b, _, 5, .ref rr, rfl, rfl, SqT.of hbc, rfl, rr, rfl, ⟨_, SqT.of hrc⟩, fun L hL => ?_⟩
            refine lc_tup (K := K) (a := rr) (xs := qs) (fun i H7 => Keep [] Hc H7 ∧ H7 L = some (.lst (((qs.take i).map (thirdOf H13)).map V.int))) ⟨Keep.upd_new hL, upd_same⟩ (fun i H7 _ ⟨k, _⟩ => SqT.of (k _ _ hrc (by simp))) ?_ ?_
            · rintro i z H7 hz ⟨K7, h7⟩
              have hm := List.mem_of_getElem? hz
              obtain ⟨cc, m', y', k, l, u, rfl, hcc, _, et⟩ := pr_tup (List.all_eq_true.mp hall z hm)
              refine ⟨rfl, tYes_go (yes ?_)⟩
              have hc7 := (K1c.trans K7) _ _ hcc (by simp)
              refine ⟨_, rfl, cc, _, 2, .int k, rfl, rfl, SqT.of hc7, rfl, _, h7, ?_, K7.trans_new hL, ?_⟩
              · rw [List.length_map, List.length_map, List.length_take]; omega
              · rw [upd_same, take_succ_of hz, List.map_append, List.map_append, List.map_cons, et]; rfl
            · rintro H7 ⟨K7, h7⟩
              rw [List.take_length] at h7
              refine ⟨L, _, rfl, SqL.of h7, _, _, rfl, rfl, by show 2 ≤ sizeLine; omega, fun t2 h2 => ?_⟩
              obtain ⟨a2, g2⟩ := new_at (o := .tup [V.str "told", .int (xx + yy + (qs.map (thirdOf H13)).sum)]) h2
              have K2c := (K1c.trans K7).trans a2
              refine ⟨_, rfl, .ref b, [d, c], rfl, Dx.keep (k0 K2c), fun tt H20 K20 g20 => ?_⟩
              rw [isSt_keep Dx (k0 K2c), hst, if_pos rfl, worth_keep Dx (k0 K2c), ew] at g20
              refine ⟨_, rfl, _, _, Dp_T g20, Dp_T (K20 _ _ g2 (by simp)), shaped_T _, shaped_T _, _, rfl, ?_⟩
              rw [eqv_T]
              exact iteF ⟨K13.trans (K2c.trans K20), _, _, _, _, _, _, rfl⟩
        · rintro σ H13 ⟨K13, v4, v5, v6, v7, v8, v9, rfl⟩
          exact ⟨_, _, _, _, _, _, _, _, rfl, DL.keep K13⟩
    · rintro σ H4 ⟨v2, v3, v4, v5, v6, v7, v8, v9, rfl, D4⟩
      exact q H4
end
end My
set_option Elab.async false
set_option maxRecDepth 100000
set_option maxHeartbeats 4000000
namespace My
open PySem L2
section
variable {P : Program} {w : World} {K : PySem.W.Frag} {mg : Str → Option Value}
theorem fin {fa C Y S M : Addr} (T : Txt K mg) (EE : ETx K mg C Y S M) (hmg : mg "law" = some (.ref fa)) : ∃ fd : FuncData, (∀ (s : Shared) (u : Value), BindsTo s fd ⟨[u], []⟩ [("script", u)]) ∧
    ∀ base : Heap, K.In base → base.Ns mainGlobals mg → FnOk P w K mg base CX0 10 fa fd ["script"] (sp_law K) := by
  obtain ⟨f, fd, D⟩ := T.d_law
  have e := hmg.symm.trans D.m
  cases e
  refine ⟨fd, fun s u => ?_, fun base _ _ => g_law EE T D.F⟩
  obtain ⟨oc, od, kV, doc, pm, an, cdv, ct, osl, rfl, lk, hcd⟩ := D.F.ex
  exact .of_eq rfl
open PySem.W in
theorem kit_no {t : Value} {D : Addr} (ne : (t == Value.ref D) = false) (c : (clsIn K D).isSome = true) (y : typeIn K (.ref D) = some (.type "type")) (s : subIn K t (.ref D) = some false) : kitOne K t (.ref D) = some false := by
  unfold kitOne
  rw [ne, if_neg (by decide)]
  show (if ((clsIn K D).isSome && typeIn K (.ref D) == some (.type "type")) = true then subIn K t (.ref D) else none) = some false
  rw [c, y, if_pos (by rfl)]
  exact s
open PySem.W in
/-- what the top has left of the errors' classes -/
theorem ex_mk {h : Heap} (X : K.In h) (G : h.Ns mainGlobals mg) {C Y S M : Addr}
    (nC : nsIn K mainGlobals "NoState" = some (some (.ref C))) (nY : nsIn K mainGlobals "YardError" = some (some (.ref Y))) (nS : nsIn K mainGlobals "NoSeal" = some (some (.ref S))) (nM : nsIn K mainGlobals "NoMove" = some (some (.ref M))) (nV : nsIn K mainGlobals "ValueError" = some none)
    (x1 : excIn K C [.type "ValueError", .type "Exception", .type "BaseException", .type "object"] "ValueError.__new__" = true) (x2 : keepIn K (.ref C) = true) (x3 : subIn K (.ref C) (.type "BaseException") = some true) (x4 : typeIn K (.ref C) = some (.type "type"))
    (f1 : findIn K (.ref C) "__getattribute__" = some (some (.builtin "BaseException.__getattribute__"))) (f2 : findIn K (.ref C) "__getattr__" = some none) (f3 : hasDictIn K C = true) (f4 : findIn K (.ref C) "__class__" = some (some (.builtin "object.__class__")))
    (f5 : specialIn K (.builtin "object.__class__") "__get__" = some (some (.builtin "getset_descriptor.__get__"))) (f6 : takesIn K (.builtin "object.__class__") = some true) (f7 : mroIn K C (.type "object") = some true)
    (y1 : subIn K (.ref Y) (.type "BaseException") = some true) (y2 : hasDictIn K Y = true) (y3 : typeIn K (.ref Y) = some (.type "type")) (y4 : subIn K (.ref C) (.ref Y) = some true)
    (s1 : subIn K (.ref C) (.ref S) = some false) (s2 : typeIn K (.ref S) = some (.type "type")) (s3 : (clsIn K S).isSome = true) (s4 : (Value.ref C == Value.ref S) = false)
    (m1 : subIn K (.ref C) (.ref M) = some false) (m2 : typeIn K (.ref M) = some (.type "type")) (m3 : (clsIn K M).isSome = true) (m4 : (Value.ref C == Value.ref M) = false)
    (v1 : subIn K (.ref C) (.type "ValueError") = some true) : ETx K mg C Y S M where
  gC := mg_of X G nC
  gY := mg_of X G nY
  gS := mg_of X G nS
  gM := mg_of X G nM
  zV := mg_none_of X G nV
  x := x1
  kp := x2
  b := x3
  t := x4
  e := ⟨f1, f2, x3, f3, f4, f5, f6, f7⟩
  ex := exm_ref y1 y2 y3 y4
  i1 := by
    unfold kitOne
    rw [if_pos (beq_self_eq_true _)]
  i2 := by
    unfold kitOne
    rw [if_neg (show ¬ ((Value.ref C == Value.type "ValueError") = true) from Bool.false_ne_true)]
    show (if kitMeta "ValueError" = true then subIn K (.ref C) (.type "ValueError") else none) = some true
    rw [if_pos (by decide +kernel)]
    exact v1
  i3 := by
    unfold kitAny
    rw [kit_no m4 m3 m2 m1]
    unfold kitAny
    rw [kit_no s4 s3 s2 s1]
    rfl
end
/-- the road from the law's function to the row -/
theorem to_row {r : PySem.W.OpenLaw} {pr : Program} {lo : List Str} {X1 : (Str → Option Value) → Heap → Prop} {Y1 : World → Heap → Prop} {dr : DefRec} {KK : Params → PySem.W.Frag}
    (m : r.most = some 63) (nd : dr.params.defaults = []) (inK : ∀ (u : World) (g : Heap), Y1 u g → (KK u.params).In g)
    (go : ∀ (u : World) (names : Str → Option Value) (at_ : Addr) (g : Heap), (KK u.params).In g → g.Ns mainGlobals names → names dr.name = some (.ref at_) →
      ∃ fd : FuncData, (∀ (s : Shared) (z : Value), BindsTo s fd ⟨[z], []⟩ [("script", z)]) ∧ ∀ b : Heap, (KK u.params).In b → b.Ns mainGlobals names → FnOk r.prog u (KK u.params) names b CX0 10 at_ fd ["script"] (sp_law (KK u.params))) :
    PySem.W.WalkO pr lo X1 Y1 r.row.toRowW dr [] fun h vs => PySem.call h vs := by
  refine L2.walk_of (sp := fun u => sp_law (KK u.params)) (CX := fun _ => CX0) (x := "script") (k := 10) (n := 63) m (by decide) nd ?_ inK go ?_ ?_
  · exact ⟨rfl, by decide, by decide⟩
  · intro _ _ a ns hl _ hS
    exact ⟨a, ns, rfl, hS, hl, fun _ => rfl⟩
  · intro _ _ _ _ _ z
    exact z
theorem all_mk {K : PySem.W.Frag} {h : Heap} {mg : Str → Option Value} (X : K.In h) (G : h.Ns mainGlobals mg)
{f0 f1 f2 f3 f4 f5 f6 f7 f8 f9 f10 f11 f12 f13 f14 f15 f16 f17 f18 f19 f20 f21 f22 f23 : Addr} {od0 od1 od2 od3 od4 od5 od6 od7 od8 od9 od10 od11 od12 od13 od14 od15 od16 od17 od18 od19 od20 od21 od22 od23 an0 an1 an2 an3 an4 an5 an6 an7 an8 an9 an10 an11 an12 an13 an14 an15 an16 an17 an18 an19 an20 an21 an22 an23 : Option Addr} {sl0 sl1 sl2 sl3 sl4 sl5 sl6 sl7 sl8 sl9 sl10 sl11 sl12 sl13 sl14 sl15 sl16 sl17 sl18 sl19 sl20 sl21 sl22 sl23 : Array (Option Value)} {oc0 oc1 oc2 oc3 oc4 oc5 oc6 oc7 oc8 oc9 oc10 oc11 oc12 oc13 oc14 oc15 oc16 oc17 oc18 oc19 oc20 oc21 oc22 oc23 kV0 kV1 kV2 kV3 kV4 kV5 kV6 kV7 kV8 kV9 kV10 kV11 kV12 kV13 kV14 kV15 kV16 kV17 kV18 kV19 kV20 kV21 kV22 kV23 dc0 dc1 dc2 dc3 dc4 dc5 dc6 dc7 dc8 dc9 dc10 dc11 dc12 dc13 dc14 dc15 dc16 dc17 dc18 dc19 dc20 dc21 dc22 dc23 pm0 pm1 pm2 pm3 pm4 pm5 pm6 pm7 pm8 pm9 pm10 pm11 pm12 pm13 pm14 pm15 pm16 pm17 pm18 pm19 pm20 pm21 pm22 pm23 cd0 cd1 cd2 cd3 cd4 cd5 cd6 cd7 cd8 cd9 cd10 cd11 cd12 cd13 cd14 cd15 cd16 cd17 cd18 cd19 cd20 cd21 cd22 cd23 ct0 ct1 ct2 ct3 ct4 ct5 ct6 ct7 ct8 ct9 ct10 ct11 ct12 ct13 ct14 ct15 ct16 ct17 ct18 ct19 ct20 ct21 ct22 ct23 : Value}
{t0 t1 t2 t3 : Tok}
(a0 : PySem.W.nsIn K mainGlobals "is_number" = some (some (.ref f0))) (l0 : K.lookup f0 = some ⟨oc0, od0, .func (PySem.W.fnOf "is_number" "is_number" (defArgs s_is_number) (defBody s_is_number) (defScope s_is_number) .none kV0 dc0 pm0 an0 cd0 ct0), sl0⟩) (c0 : PySem.W.codeIn K cd0 "is_number" = true) (k0 : PySem.W.keepIn K (.ref f0) = true)
(a1 : PySem.W.nsIn K mainGlobals "is_count" = some (some (.ref f1))) (l1 : K.lookup f1 = some ⟨oc1, od1, .func (PySem.W.fnOf "is_count" "is_count" (defArgs s_is_count) (defBody s_is_count) (defScope s_is_count) .none kV1 dc1 pm1 an1 cd1 ct1), sl1⟩) (c1 : PySem.W.codeIn K cd1 "is_count" = true) (k1 : PySem.W.keepIn K (.ref f1) = true)
(a2 : PySem.W.nsIn K mainGlobals "is_amount" = some (some (.ref f2))) (l2 : K.lookup f2 = some ⟨oc2, od2, .func (PySem.W.fnOf "is_amount" "is_amount" (defArgs s_is_amount) (defBody s_is_amount) (defScope s_is_amount) .none kV2 dc2 pm2 an2 cd2 ct2), sl2⟩) (c2 : PySem.W.codeIn K cd2 "is_amount" = true) (k2 : PySem.W.keepIn K (.ref f2) = true)
(a3 : PySem.W.nsIn K mainGlobals "is_whole" = some (some (.ref f3))) (l3 : K.lookup f3 = some ⟨oc3, od3, .func (PySem.W.fnOf "is_whole" "is_whole" (defArgs s_is_whole) (defBody s_is_whole) (defScope s_is_whole) .none kV3 dc3 pm3 an3 cd3 ct3), sl3⟩) (c3 : PySem.W.codeIn K cd3 "is_whole" = true) (k3 : PySem.W.keepIn K (.ref f3) = true)
(a4 : PySem.W.nsIn K mainGlobals "is_time" = some (some (.ref f4))) (l4 : K.lookup f4 = some ⟨oc4, od4, .func (PySem.W.fnOf "is_time" "is_time" (defArgs s_is_time) (defBody s_is_time) (defScope s_is_time) .none kV4 dc4 pm4 an4 cd4 ct4), sl4⟩) (c4 : PySem.W.codeIn K cd4 "is_time" = true) (k4 : PySem.W.keepIn K (.ref f4) = true)
(a5 : PySem.W.nsIn K mainGlobals "is_digest" = some (some (.ref f5))) (l5 : K.lookup f5 = some ⟨oc5, od5, .func (PySem.W.fnOf "is_digest" "is_digest" (defArgs s_is_digest) (defBody s_is_digest) (defScope s_is_digest) .none kV5 dc5 pm5 an5 cd5 ct5), sl5⟩) (c5 : PySem.W.codeIn K cd5 "is_digest" = true) (k5 : PySem.W.keepIn K (.ref f5) = true)
(a6 : PySem.W.nsIn K mainGlobals "is_party" = some (some (.ref f6))) (l6 : K.lookup f6 = some ⟨oc6, od6, .func (PySem.W.fnOf "is_party" "is_party" (defArgs s_is_party) (defBody s_is_party) (defScope s_is_party) .none kV6 dc6 pm6 an6 cd6 ct6), sl6⟩) (c6 : PySem.W.codeIn K cd6 "is_party" = true) (k6 : PySem.W.keepIn K (.ref f6) = true)
(a7 : PySem.W.nsIn K mainGlobals "is_promise" = some (some (.ref f7))) (l7 : K.lookup f7 = some ⟨oc7, od7, .func (PySem.W.fnOf "is_promise" "is_promise" (defArgs s_is_promise) (defBody s_is_promise) (defScope s_is_promise) .none kV7 dc7 pm7 an7 cd7 ct7), sl7⟩) (c7 : PySem.W.codeIn K cd7 "is_promise" = true) (k7 : PySem.W.keepIn K (.ref f7) = true)
(a8 : PySem.W.nsIn K mainGlobals "is_state" = some (some (.ref f8))) (l8 : K.lookup f8 = some ⟨oc8, od8, .func (PySem.W.fnOf "is_state" "is_state" (defArgs s_is_state) (defBody s_is_state) (defScope s_is_state) .none kV8 dc8 pm8 an8 cd8 ct8), sl8⟩) (c8 : PySem.W.codeIn K cd8 "is_state" = true) (k8 : PySem.W.keepIn K (.ref f8) = true)
(a9 : PySem.W.nsIn K mainGlobals "_are_promises" = some (some (.ref f9))) (l9 : K.lookup f9 = some ⟨oc9, od9, .func (PySem.W.fnOf "_are_promises" "_are_promises" (defArgs s__are_promises) (defBody s__are_promises) (defScope s__are_promises) .none kV9 dc9 pm9 an9 cd9 ct9), sl9⟩) (c9 : PySem.W.codeIn K cd9 "_are_promises" = true) (k9 : PySem.W.keepIn K (.ref f9) = true)
(a10 : PySem.W.nsIn K mainGlobals "worth" = some (some (.ref f10))) (l10 : K.lookup f10 = some ⟨oc10, od10, .func (PySem.W.fnOf "worth" "worth" (defArgs s_worth) (defBody s_worth) (defScope s_worth) .none kV10 dc10 pm10 an10 cd10 ct10), sl10⟩) (c10 : PySem.W.codeIn K cd10 "worth" = true) (k10 : PySem.W.keepIn K (.ref f10) = true)
(a11 : PySem.W.nsIn K mainGlobals "_look_at" = some (some (.ref f11))) (l11 : K.lookup f11 = some ⟨oc11, od11, .func (PySem.W.fnOf "_look_at" "_look_at" (defArgs s__look_at) (defBody s__look_at) (defScope s__look_at) .none kV11 dc11 pm11 an11 cd11 ct11), sl11⟩) (c11 : PySem.W.codeIn K cd11 "_look_at" = true) (k11 : PySem.W.keepIn K (.ref f11) = true)
(a12 : PySem.W.nsIn K mainGlobals "_law_begin" = some (some (.ref f12))) (l12 : K.lookup f12 = some ⟨oc12, od12, .func (PySem.W.fnOf "_law_begin" "_law_begin" (defArgs s__law_begin) (defBody s__law_begin) (defScope s__law_begin) .none kV12 dc12 pm12 an12 cd12 ct12), sl12⟩) (c12 : PySem.W.codeIn K cd12 "_law_begin" = true) (k12 : PySem.W.keepIn K (.ref f12) = true)
(a13 : PySem.W.nsIn K mainGlobals "_law_take" = some (some (.ref f13))) (l13 : K.lookup f13 = some ⟨oc13, od13, .func (PySem.W.fnOf "_law_take" "_law_take" (defArgs s__law_take) (defBody s__law_take) (defScope s__law_take) .none kV13 dc13 pm13 an13 cd13 ct13), sl13⟩) (c13 : PySem.W.codeIn K cd13 "_law_take" = true) (k13 : PySem.W.keepIn K (.ref f13) = true)
(a14 : PySem.W.nsIn K mainGlobals "_law_pick" = some (some (.ref f14))) (l14 : K.lookup f14 = some ⟨oc14, od14, .func (PySem.W.fnOf "_law_pick" "_law_pick" (defArgs s__law_pick) (defBody s__law_pick) (defScope s__law_pick) .none kV14 dc14 pm14 an14 cd14 ct14), sl14⟩) (c14 : PySem.W.codeIn K cd14 "_law_pick" = true) (k14 : PySem.W.keepIn K (.ref f14) = true)
(a15 : PySem.W.nsIn K mainGlobals "_law_promises" = some (some (.ref f15))) (l15 : K.lookup f15 = some ⟨oc15, od15, .func (PySem.W.fnOf "_law_promises" "_law_promises" (defArgs s__law_promises) (defBody s__law_promises) (defScope s__law_promises) .none kV15 dc15 pm15 an15 cd15 ct15), sl15⟩) (c15 : PySem.W.codeIn K cd15 "_law_promises" = true) (k15 : PySem.W.keepIn K (.ref f15) = true)
(a16 : PySem.W.nsIn K mainGlobals "_law_state" = some (some (.ref f16))) (l16 : K.lookup f16 = some ⟨oc16, od16, .func (PySem.W.fnOf "_law_state" "_law_state" (defArgs s__law_state) (defBody s__law_state) (defScope s__law_state) .none kV16 dc16 pm16 an16 cd16 ct16), sl16⟩) (c16 : PySem.W.codeIn K cd16 "_law_state" = true) (k16 : PySem.W.keepIn K (.ref f16) = true)
(a17 : PySem.W.nsIn K mainGlobals "_law_is" = some (some (.ref f17))) (l17 : K.lookup f17 = some ⟨oc17, od17, .func (PySem.W.fnOf "_law_is" "_law_is" (defArgs s__law_is) (defBody s__law_is) (defScope s__law_is) .none kV17 dc17 pm17 an17 cd17 ct17), sl17⟩) (c17 : PySem.W.codeIn K cd17 "_law_is" = true) (k17 : PySem.W.keepIn K (.ref f17) = true)
(a18 : PySem.W.nsIn K mainGlobals "_law_is_promise" = some (some (.ref f18))) (l18 : K.lookup f18 = some ⟨oc18, od18, .func (PySem.W.fnOf "_law_is_promise" "_law_is_promise" (defArgs s__law_is_promise) (defBody s__law_is_promise) (defScope s__law_is_promise) .none kV18 dc18 pm18 an18 cd18 ct18), sl18⟩) (c18 : PySem.W.codeIn K cd18 "_law_is_promise" = true) (k18 : PySem.W.keepIn K (.ref f18) = true)
(a19 : PySem.W.nsIn K mainGlobals "_law_is_state" = some (some (.ref f19))) (l19 : K.lookup f19 = some ⟨oc19, od19, .func (PySem.W.fnOf "_law_is_state" "_law_is_state" (defArgs s__law_is_state) (defBody s__law_is_state) (defScope s__law_is_state) .none kV19 dc19 pm19 an19 cd19 ct19), sl19⟩) (c19 : PySem.W.codeIn K cd19 "_law_is_state" = true) (k19 : PySem.W.keepIn K (.ref f19) = true)
(a20 : PySem.W.nsIn K mainGlobals "_law_odd_promise" = some (some (.ref f20))) (l20 : K.lookup f20 = some ⟨oc20, od20, .func (PySem.W.fnOf "_law_odd_promise" "_law_odd_promise" (defArgs s__law_odd_promise) (defBody s__law_odd_promise) (defScope s__law_odd_promise) .none kV20 dc20 pm20 an20 cd20 ct20), sl20⟩) (c20 : PySem.W.codeIn K cd20 "_law_odd_promise" = true) (k20 : PySem.W.keepIn K (.ref f20) = true)
(a21 : PySem.W.nsIn K mainGlobals "_law_odd" = some (some (.ref f21))) (l21 : K.lookup f21 = some ⟨oc21, od21, .func (PySem.W.fnOf "_law_odd" "_law_odd" (defArgs s__law_odd) (defBody s__law_odd) (defScope s__law_odd) .none kV21 dc21 pm21 an21 cd21 ct21), sl21⟩) (c21 : PySem.W.codeIn K cd21 "_law_odd" = true) (k21 : PySem.W.keepIn K (.ref f21) = true)
(a22 : PySem.W.nsIn K mainGlobals "_law_told" = some (some (.ref f22))) (l22 : K.lookup f22 = some ⟨oc22, od22, .func (PySem.W.fnOf "_law_told" "_law_told" (defArgs s__law_told) (defBody s__law_told) (defScope s__law_told) .none kV22 dc22 pm22 an22 cd22 ct22), sl22⟩) (c22 : PySem.W.codeIn K cd22 "_law_told" = true) (k22 : PySem.W.keepIn K (.ref f22) = true)
(a23 : PySem.W.nsIn K mainGlobals "law" = some (some (.ref f23))) (l23 : K.lookup f23 = some ⟨oc23, od23, .func (PySem.W.fnOf "law" "law" (defArgs s_law) (defBody s_law) (defScope s_law) .none kV23 dc23 pm23 an23 cd23 ct23), sl23⟩) (c23 : PySem.W.codeIn K cd23 "law" = true) (k23 : PySem.W.keepIn K (.ref f23) = true)
(z_abs : PySem.W.nsIn K mainGlobals "abs" = some none)
(z_range : PySem.W.nsIn K mainGlobals "range" = some none)
(z_max : PySem.W.nsIn K mainGlobals "max" = some none)
(z_len : PySem.W.nsIn K mainGlobals "len" = some none)
(z_tuple : PySem.W.nsIn K mainGlobals "tuple" = some none)
(z_min : PySem.W.nsIn K mainGlobals "min" = some none)
(z_isinstance : PySem.W.nsIn K mainGlobals "isinstance" = some none)
(z_str : PySem.W.nsIn K mainGlobals "str" = some none)
(z_int : PySem.W.nsIn K mainGlobals "int" = some none)
(z_bool : PySem.W.nsIn K mainGlobals "bool" = some none)
(z_sorted : PySem.W.nsIn K mainGlobals "sorted" = some none)
(z_set : PySem.W.nsIn K mainGlobals "set" = some none)
(z_all : PySem.W.nsIn K mainGlobals "all" = some none)
(z_list : PySem.W.nsIn K mainGlobals "list" = some none)
(z_sum : PySem.W.nsIn K mainGlobals "sum" = some none)
(gc0 : PySem.W.nsIn K mainGlobals "MOST_PROMISES" = some (some (Value.int 4 t0)))
(gc1 : PySem.W.nsIn K mainGlobals "MOST" = some (some (Value.int 1000000000 t1)))
(gc2 : PySem.W.nsIn K mainGlobals "MOST_DIGEST" = some (some (Value.int 1000000000000000000000000000000 t2)))
(gc3 : PySem.W.nsIn K mainGlobals "MOST_OF_ONE" = some (some (Value.int 10000000000 t3)))
: Txt K mg := by
  have F0 := fun_mk (st := s_is_number) l0 c0 k0
  have b0 := F0.binds (ps := ["thing"]) fun _ _ _ _ _ _ us hl => match us, hl with | [_], _ => rfl
  have F1 := fun_mk (st := s_is_count) l1 c1 k1
  have b1 := F1.binds (ps := ["thing"]) fun _ _ _ _ _ _ us hl => match us, hl with | [_], _ => rfl
  have F2 := fun_mk (st := s_is_amount) l2 c2 k2
  have b2 := F2.binds (ps := ["thing"]) fun _ _ _ _ _ _ us hl => match us, hl with | [_], _ => rfl
  have F3 := fun_mk (st := s_is_whole) l3 c3 k3
  have b3 := F3.binds (ps := ["thing"]) fun _ _ _ _ _ _ us hl => match us, hl with | [_], _ => rfl
  have F4 := fun_mk (st := s_is_time) l4 c4 k4
  have b4 := F4.binds (ps := ["thing"]) fun _ _ _ _ _ _ us hl => match us, hl with | [_], _ => rfl
  have F5 := fun_mk (st := s_is_digest) l5 c5 k5
  have b5 := F5.binds (ps := ["thing"]) fun _ _ _ _ _ _ us hl => match us, hl with | [_], _ => rfl
  have F6 := fun_mk (st := s_is_party) l6 c6 k6
  have b6 := F6.binds (ps := ["thing"]) fun _ _ _ _ _ _ us hl => match us, hl with | [_], _ => rfl
  have F7 := fun_mk (st := s_is_promise) l7 c7 k7
  have b7 := F7.binds (ps := ["thing"]) fun _ _ _ _ _ _ us hl => match us, hl with | [_], _ => rfl
  have F8 := fun_mk (st := s_is_state) l8 c8 k8
  have b8 := F8.binds (ps := ["thing"]) fun _ _ _ _ _ _ us hl => match us, hl with | [_], _ => rfl
  have F9 := fun_mk (st := s__are_promises) l9 c9 k9
  have b9 := F9.binds (ps := ["thing"]) fun _ _ _ _ _ _ us hl => match us, hl with | [_], _ => rfl
  have F10 := fun_mk (st := s_worth) l10 c10 k10
  have b10 := F10.binds (ps := ["state"]) fun _ _ _ _ _ _ us hl => match us, hl with | [_], _ => rfl
  have F11 := fun_mk (st := s__look_at) l11 c11 k11
  have b11 := F11.binds (ps := ["state"]) fun _ _ _ _ _ _ us hl => match us, hl with | [_], _ => rfl
  have F12 := fun_mk (st := s__law_begin) l12 c12 k12
  have b12 := F12.binds (ps := ["script"]) fun _ _ _ _ _ _ us hl => match us, hl with | [_], _ => rfl
  have F13 := fun_mk (st := s__law_take) l13 c13 k13
  have b13 := F13.binds (ps := ["draw", "size"]) fun _ _ _ _ _ _ us hl => match us, hl with | [_, _], _ => rfl
  have F14 := fun_mk (st := s__law_pick) l14 c14 k14
  have b14 := F14.binds (ps := ["draw", "some"]) fun _ _ _ _ _ _ us hl => match us, hl with | [_, _], _ => rfl
  have F15 := fun_mk (st := s__law_promises) l15 c15 k15
  have b15 := F15.binds (ps := ["draw", "most"]) fun _ _ _ _ _ _ us hl => match us, hl with | [_, _], _ => rfl
  have F16 := fun_mk (st := s__law_state) l16 c16 k16
  have b16 := F16.binds (ps := ["draw"]) fun _ _ _ _ _ _ us hl => match us, hl with | [_], _ => rfl
  have F17 := fun_mk (st := s__law_is) l17 c17 k17
  have b17 := F17.binds (ps := ["thing", "low", "high"]) fun _ _ _ _ _ _ us hl => match us, hl with | [_, _, _], _ => rfl
  have F18 := fun_mk (st := s__law_is_promise) l18 c18 k18
  have b18 := F18.binds (ps := ["thing"]) fun _ _ _ _ _ _ us hl => match us, hl with | [_], _ => rfl
  have F19 := fun_mk (st := s__law_is_state) l19 c19 k19
  have b19 := F19.binds (ps := ["thing"]) fun _ _ _ _ _ _ us hl => match us, hl with | [_], _ => rfl
  have F20 := fun_mk (st := s__law_odd_promise) l20 c20 k20
  have b20 := F20.binds (ps := ["draw", "promise"]) fun _ _ _ _ _ _ us hl => match us, hl with | [_, _], _ => rfl
  have F21 := fun_mk (st := s__law_odd) l21 c21 k21
  have b21 := F21.binds (ps := ["draw", "state"]) fun _ _ _ _ _ _ us hl => match us, hl with | [_, _], _ => rfl
  have F22 := fun_mk (st := s__law_told) l22 c22 k22
  have b22 := F22.binds (ps := ["thing"]) fun _ _ _ _ _ _ us hl => match us, hl with | [_], _ => rfl
  have F23 := fun_mk (st := s_law) l23 c23 k23
  have b23 := F23.binds (ps := ["script"]) fun _ _ _ _ _ _ us hl => match us, hl with | [_], _ => rfl
  exact ⟨⟨f0, _, F0, PySem.W.mg_of X G a0, b0⟩,
    ⟨f1, _, F1, PySem.W.mg_of X G a1, b1⟩,
    ⟨f2, _, F2, PySem.W.mg_of X G a2, b2⟩,
    ⟨f3, _, F3, PySem.W.mg_of X G a3, b3⟩,
    ⟨f4, _, F4, PySem.W.mg_of X G a4, b4⟩,
    ⟨f5, _, F5, PySem.W.mg_of X G a5, b5⟩,
    ⟨f6, _, F6, PySem.W.mg_of X G a6, b6⟩,
    ⟨f7, _, F7, PySem.W.mg_of X G a7, b7⟩,
    ⟨f8, _, F8, PySem.W.mg_of X G a8, b8⟩,
    ⟨f9, _, F9, PySem.W.mg_of X G a9, b9⟩,
    ⟨f10, _, F10, PySem.W.mg_of X G a10, b10⟩,
    ⟨f11, _, F11, PySem.W.mg_of X G a11, b11⟩,
    ⟨f12, _, F12, PySem.W.mg_of X G a12, b12⟩,
    ⟨f13, _, F13, PySem.W.mg_of X G a13, b13⟩,
    ⟨f14, _, F14, PySem.W.mg_of X G a14, b14⟩,
    ⟨f15, _, F15, PySem.W.mg_of X G a15, b15⟩,
    ⟨f16, _, F16, PySem.W.mg_of X G a16, b16⟩,
    ⟨f17, _, F17, PySem.W.mg_of X G a17, b17⟩,
    ⟨f18, _, F18, PySem.W.mg_of X G a18, b18⟩,
    ⟨f19, _, F19, PySem.W.mg_of X G a19, b19⟩,
    ⟨f20, _, F20, PySem.W.mg_of X G a20, b20⟩,
    ⟨f21, _, F21, PySem.W.mg_of X G a21, b21⟩,
    ⟨f22, _, F22, PySem.W.mg_of X G a22, b22⟩,
    ⟨f23, _, F23, PySem.W.mg_of X G a23, b23⟩,
    PySem.W.mg_none_of X G z_abs,
    PySem.W.mg_none_of X G z_range,
    PySem.W.mg_none_of X G z_max,
    PySem.W.mg_none_of X G z_len,
    PySem.W.mg_none_of X G z_tuple,
    PySem.W.mg_none_of X G z_min,
    PySem.W.mg_none_of X G z_isinstance,
    PySem.W.mg_none_of X G z_str,
    PySem.W.mg_none_of X G z_int,
    PySem.W.mg_none_of X G z_bool,
    PySem.W.mg_none_of X G z_sorted,
    PySem.W.mg_none_of X G z_set,
    PySem.W.mg_none_of X G z_all,
    PySem.W.mg_none_of X G z_list,
    PySem.W.mg_none_of X G z_sum,
    ⟨t0, PySem.W.mg_of X G gc0⟩,
    ⟨t1, PySem.W.mg_of X G gc1⟩,
    ⟨t2, PySem.W.mg_of X G gc2⟩,
    ⟨t3, PySem.W.mg_of X G gc3⟩⟩
end My
open PySem PySem.W PyProof.Rows
set_option maxRecDepth 100000 in
set_option maxHeartbeats 0 in
theorem PySem.Challenge.cw_clearyard_k37_states_known_holds : PySem.Challenge.rw_clearyard_k37_states_known.Holds := by
  w_on; o_law; k_head; (case hw => w_witness2)
  k_fill
  refine My.to_row (r := PySem.Challenge.rw_clearyard_k37_states_known) rfl rfl (fun w h Y => PySem.W.kIn_of Y) ?F
  case F =>
    intro w mg fa h KX G hmg
    refine' My.fin ?T ?EX hmg
    case EX =>
      refine' My.ex_mk KX G ?nC ?nY ?nS ?nM ?nV ?x1 ?x2 ?x3 ?x4 ?f1 ?f2 ?f3 ?f4 ?f5 ?f6 ?f7 ?y1 ?y2 ?y3 ?y4 ?s1 ?s2 ?s3 ?s4 ?m1 ?m2 ?m3 ?m4 ?v1
      (case nC => k_is); (case nY => k_is); (case nS => k_is); (case nM => k_is); (case nV => k_is)
      (case x1 => k_exc); (case x2 => k_is); (case x3 => k_is); (case x4 => k_is)
      (case f1 => k_is); (case f2 => k_is); (case f3 => k_is); (case f4 => k_is); (case f5 => k_is); (case f6 => k_is); (case f7 => k_is)
      (case y1 => k_is); (case y2 => k_is); (case y3 => k_is); (case y4 => k_is)
      (case s1 => k_is); (case s2 => k_is); (case s3 => first | k_is | rfl | decide +kernel); (case s4 => first | rfl | decide +kernel | k_is)
      (case m1 => k_is); (case m2 => k_is); (case m3 => first | k_is | rfl | decide +kernel); (case m4 => first | rfl | decide +kernel | k_is)
      (case v1 => k_is)
    case T =>
    refine' My.all_mk KX G ?a0 ?l0 ?c0 ?k0 ?a1 ?l1 ?c1 ?k1 ?a2 ?l2 ?c2 ?k2 ?a3 ?l3 ?c3 ?k3 ?a4 ?l4 ?c4 ?k4 ?a5 ?l5 ?c5 ?k5 ?a6 ?l6 ?c6 ?k6 ?a7 ?l7 ?c7 ?k7 ?a8 ?l8 ?c8 ?k8 ?a9 ?l9 ?c9 ?k9 ?a10 ?l10 ?c10 ?k10 ?a11 ?l11 ?c11 ?k11 ?a12 ?l12 ?c12 ?k12 ?a13 ?l13 ?c13 ?k13 ?a14 ?l14 ?c14 ?k14 ?a15 ?l15 ?c15 ?k15 ?a16 ?l16 ?c16 ?k16 ?a17 ?l17 ?c17 ?k17 ?a18 ?l18 ?c18 ?k18 ?a19 ?l19 ?c19 ?k19 ?a20 ?l20 ?c20 ?k20 ?a21 ?l21 ?c21 ?k21 ?a22 ?l22 ?c22 ?k22 ?a23 ?l23 ?c23 ?k23 ?z_abs ?z_range ?z_max ?z_len ?z_tuple ?z_min ?z_isinstance ?z_str ?z_int ?z_bool ?z_sorted ?z_set ?z_all ?z_list ?z_sum ?gc0 ?gc1 ?gc2 ?gc3
    (case a0 => k_is); (case l0 => k_is); (case c0 => k_is); (case k0 => k_is); (case a1 => k_is); (case l1 => k_is)
    (case c1 => k_is); (case k1 => k_is); (case a2 => k_is); (case l2 => k_is); (case c2 => k_is); (case k2 => k_is)
    (case a3 => k_is); (case l3 => k_is); (case c3 => k_is); (case k3 => k_is); (case a4 => k_is); (case l4 => k_is)
    (case c4 => k_is); (case k4 => k_is); (case a5 => k_is); (case l5 => k_is); (case c5 => k_is); (case k5 => k_is)
    (case a6 => k_is); (case l6 => k_is); (case c6 => k_is); (case k6 => k_is); (case a7 => k_is); (case l7 => k_is)
    (case c7 => k_is); (case k7 => k_is); (case a8 => k_is); (case l8 => k_is); (case c8 => k_is); (case k8 => k_is)
    (case a9 => k_is); (case l9 => k_is); (case c9 => k_is); (case k9 => k_is); (case a10 => k_is); (case l10 => k_is)
    (case c10 => k_is); (case k10 => k_is); (case a11 => k_is); (case l11 => k_is); (case c11 => k_is); (case k11 => k_is)
    (case a12 => k_is); (case l12 => k_is); (case c12 => k_is); (case k12 => k_is); (case a13 => k_is); (case l13 => k_is)
    (case c13 => k_is); (case k13 => k_is); (case a14 => k_is); (case l14 => k_is); (case c14 => k_is); (case k14 => k_is)
    (case a15 => k_is); (case l15 => k_is); (case c15 => k_is); (case k15 => k_is); (case a16 => k_is); (case l16 => k_is)
    (case c16 => k_is); (case k16 => k_is); (case a17 => k_is); (case l17 => k_is); (case c17 => k_is); (case k17 => k_is)
    (case a18 => k_is); (case l18 => k_is); (case c18 => k_is); (case k18 => k_is); (case a19 => k_is); (case l19 => k_is)
    (case c19 => k_is); (case k19 => k_is); (case a20 => k_is); (case l20 => k_is); (case c20 => k_is); (case k20 => k_is)
    (case a21 => k_is); (case l21 => k_is); (case c21 => k_is); (case k21 => k_is); (case a22 => k_is); (case l22 => k_is)
    (case c22 => k_is); (case k22 => k_is); (case a23 => k_is); (case l23 => k_is); (case c23 => k_is); (case k23 => k_is)
    (case z_abs => k_is); (case z_range => k_is); (case z_max => k_is); (case z_len => k_is); (case z_tuple => k_is); (case z_min => k_is)
    (case z_isinstance => k_is); (case z_str => k_is); (case z_int => k_is); (case z_bool => k_is); (case z_sorted => k_is); (case z_set => k_is)
    (case z_all => k_is); (case z_list => k_is); (case z_sum => k_is); (case gc0 => k_is); (case gc1 => k_is); (case gc2 => k_is)
    (case gc3 => k_is)
