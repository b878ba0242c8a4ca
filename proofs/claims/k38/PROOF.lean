import PyProof.Rows.All
import Wide.All
import OpenK.AllK
import Wide.FinOn
import HandS.ForMost
import HandS.Wide
import HandS.IsInst
import HandS.Conv
import HandS.Zip
import HandS.Deep
import HandS.Star
import HandS.SetKeys
import HandS.More
import HandS.SetFor
import HandS.TupAny
import HandS.Walk
import PyProof.NeKinds
import PyProof.NeData
import KE.KEqDict
import HandS.Strs
import PyProof.SliceList
import PyProof.ReprLen
import PyProof.ReprRoads
import PySem.Challenge.RW_clearyard_k38_texts_of_states
set_option Elab.async false
set_option maxRecDepth 100000
set_option maxHeartbeats 4000000
namespace My
open PySem L2
def top (i : Nat) : Stmt := PySem.Challenge.pw_clearyard_k38_texts_of_states.main.body.getD i (.Pass ⟨0, 0, 0, 0⟩)
abbrev s_is_number : Stmt := top 8
abbrev N_is_number : List Str := ["thing"]
theorem sc_is_number : FnScope N_is_number ["thing"] (defScope s_is_number) := ⟨rfl, rfl, rfl, by decide +kernel, rfl, by decide +kernel, by decide +kernel⟩
abbrev s_is_count : Stmt := top 9
abbrev N_is_count : List Str := ["thing"]
theorem sc_is_count : FnScope N_is_count ["thing"] (defScope s_is_count) := ⟨rfl, rfl, rfl, by decide +kernel, rfl, by decide +kernel, by decide +kernel⟩
abbrev s_is_amount : Stmt := top 10
abbrev N_is_amount : List Str := ["thing"]
theorem sc_is_amount : FnScope N_is_amount ["thing"] (defScope s_is_amount) := ⟨rfl, rfl, rfl, by decide +kernel, rfl, by decide +kernel, by decide +kernel⟩
abbrev s_is_whole : Stmt := top 11
abbrev N_is_whole : List Str := ["thing"]
theorem sc_is_whole : FnScope N_is_whole ["thing"] (defScope s_is_whole) := ⟨rfl, rfl, rfl, by decide +kernel, rfl, by decide +kernel, by decide +kernel⟩
abbrev s_is_time : Stmt := top 12
abbrev N_is_time : List Str := ["thing"]
theorem sc_is_time : FnScope N_is_time ["thing"] (defScope s_is_time) := ⟨rfl, rfl, rfl, by decide +kernel, rfl, by decide +kernel, by decide +kernel⟩
abbrev s_is_digest : Stmt := top 13
abbrev N_is_digest : List Str := ["thing"]
theorem sc_is_digest : FnScope N_is_digest ["thing"] (defScope s_is_digest) := ⟨rfl, rfl, rfl, by decide +kernel, rfl, by decide +kernel, by decide +kernel⟩
abbrev s_read_number : Stmt := top 14
abbrev N_read_number : List Str := ["word", "sign"]
theorem sc_read_number : FnScope N_read_number ["word"] (defScope s_read_number) := ⟨rfl, rfl, rfl, by decide +kernel, rfl, by decide +kernel, by decide +kernel⟩
abbrev s_is_party : Stmt := top 18
abbrev N_is_party : List Str := ["thing"]
theorem sc_is_party : FnScope N_is_party ["thing"] (defScope s_is_party) := ⟨rfl, rfl, rfl, by decide +kernel, rfl, by decide +kernel, by decide +kernel⟩
abbrev s_is_promise : Stmt := top 19
abbrev N_is_promise : List Str := ["thing", "mark", "by", "amount", "lock", "until"]
theorem sc_is_promise : FnScope N_is_promise ["thing"] (defScope s_is_promise) := ⟨rfl, rfl, rfl, by decide +kernel, rfl, by decide +kernel, by decide +kernel⟩
abbrev s_is_state : Stmt := top 20
abbrev N_is_state : List Str := ["thing", "word", "pool", "turn", "x", "y", "promises", "has"]
theorem sc_is_state : FnScope N_is_state ["thing"] (defScope s_is_state) := ⟨rfl, rfl, rfl, by decide +kernel, rfl, by decide +kernel, by decide +kernel⟩
abbrev s__are_promises : Stmt := top 21
abbrev N__are_promises : List Str := ["thing", "marks", "promise"]
theorem sc__are_promises : FnScope N__are_promises ["thing"] (defScope s__are_promises) := ⟨rfl, rfl, rfl, by decide +kernel, rfl, by decide +kernel, by decide +kernel⟩
abbrev s_state_text : Stmt := top 22
abbrev N_state_text : List Str := ["state", "text", "promise"]
theorem sc_state_text : FnScope N_state_text ["state"] (defScope s_state_text) := ⟨rfl, rfl, rfl, by decide +kernel, rfl, by decide +kernel, by decide +kernel⟩
abbrev s_read_state : Stmt := top 23
abbrev N_read_state : List Str := ["text", "words", "promises", "state", "at", "word"]
theorem sc_read_state : FnScope N_read_state ["text"] (defScope s_read_state) := ⟨rfl, rfl, rfl, by decide +kernel, rfl, by decide +kernel, by decide +kernel⟩
abbrev s__look_at : Stmt := top 24
abbrev N__look_at : List Str := ["state"]
theorem sc__look_at : FnScope N__look_at ["state"] (defScope s__look_at) := ⟨rfl, rfl, rfl, by decide +kernel, rfl, by decide +kernel, by decide +kernel⟩
abbrev s__row : Stmt := top 25
abbrev N__row : List Str := ["word", "numbers", "number"]
theorem sc__row : FnScope N__row ["word", "numbers"] (defScope s__row) := ⟨rfl, rfl, rfl, by decide +kernel, rfl, by decide +kernel, by decide +kernel⟩
abbrev s__numbers : Stmt := top 26
abbrev N__numbers : List Str := ["words", "word"]
theorem sc__numbers : FnScope N__numbers ["words"] (defScope s__numbers) := ⟨rfl, rfl, rfl, by decide +kernel, rfl, by decide +kernel, by decide +kernel⟩
abbrev s__law_begin : Stmt := top 28
abbrev N__law_begin : List Str := ["script", "cells", "cell"]
theorem sc__law_begin : FnScope N__law_begin ["script"] (defScope s__law_begin) := ⟨rfl, rfl, rfl, by decide +kernel, rfl, by decide +kernel, by decide +kernel⟩
abbrev s__law_take : Stmt := top 29
abbrev N__law_take : List Str := ["draw", "size", "cells", "at", "cell"]
theorem sc__law_take : FnScope N__law_take ["draw", "size"] (defScope s__law_take) := ⟨rfl, rfl, rfl, by decide +kernel, rfl, by decide +kernel, by decide +kernel⟩
abbrev s__law_pick : Stmt := top 30
abbrev N__law_pick : List Str := ["draw", "some"]
theorem sc__law_pick : FnScope N__law_pick ["draw", "some"] (defScope s__law_pick) := ⟨rfl, rfl, rfl, by decide +kernel, rfl, by decide +kernel, by decide +kernel⟩
abbrev s__law_promises : Stmt := top 32
abbrev N__law_promises : List Str := ["draw", "most", "found", "last", "k", "held", "bolt"]
theorem sc__law_promises : FnScope N__law_promises ["draw", "most"] (defScope s__law_promises) := ⟨rfl, rfl, rfl, by decide +kernel, rfl, by decide +kernel, by decide +kernel⟩
abbrev s__law_state : Stmt := top 33
abbrev N__law_state : List Str := ["draw", "sums", "first", "k"]
theorem sc__law_state : FnScope N__law_state ["draw"] (defScope s__law_state) := ⟨rfl, rfl, rfl, by decide +kernel, rfl, by decide +kernel, by decide +kernel⟩
abbrev s__law_text : Stmt := top 34
abbrev N__law_text : List Str := ["state", "rows", "promise", "row", "part"]
theorem sc__law_text : FnScope N__law_text ["state"] (defScope s__law_text) := ⟨rfl, rfl, rfl, by decide +kernel, rfl, by decide +kernel, by decide +kernel⟩
abbrev s__law_other : Stmt := top 35
abbrev N__law_other : List Str := ["draw", "state", "at", "part", "mark", "side", "held", "bolt", "due", "last"]
theorem sc__law_other : FnScope N__law_other ["draw", "state"] (defScope s__law_other) := ⟨rfl, rfl, rfl, by decide +kernel, rfl, by decide +kernel, by decide +kernel⟩
abbrev s_law : Stmt := top 36
abbrev N_law : List Str := ["script", "draw", "turn", "state", "text", "other", "found"]
theorem sc_law : FnScope N_law ["script"] (defScope s_law) := ⟨rfl, rfl, rfl, by decide +kernel, rfl, by decide +kernel, by decide +kernel⟩
/-- a def of the text as the top has left it -/
structure DefAt (K : PySem.W.Frag) (mg : Str → Option Value) (x : Str) (st : Stmt) (ps : List Str) (f : Addr) (fd : FuncData) : Prop where
  F : Fun K x x st f fd
  m : mg x = some (.ref f)
  b : Binds K fd ps []
def Pr (P : Program) (w : World) (K : PySem.W.Frag) (mg : Str → Option Value) (base : Heap) (x : Str) (st : Stmt) (ps : List Str) (k : Nat) (sp : Sp) : Prop :=
  ∃ (f : Addr) (fd : FuncData), DefAt K mg x st ps f fd ∧ FnOk P w K mg base CX0 k f fd ps sp
structure Txt (K : PySem.W.Frag) (mg : Str → Option Value) : Prop where
  d_is_number : ∃ f fd, DefAt K mg "is_number" s_is_number ["thing"] f fd
  d_is_count : ∃ f fd, DefAt K mg "is_count" s_is_count ["thing"] f fd
  d_is_amount : ∃ f fd, DefAt K mg "is_amount" s_is_amount ["thing"] f fd
  d_is_whole : ∃ f fd, DefAt K mg "is_whole" s_is_whole ["thing"] f fd
  d_is_time : ∃ f fd, DefAt K mg "is_time" s_is_time ["thing"] f fd
  d_is_digest : ∃ f fd, DefAt K mg "is_digest" s_is_digest ["thing"] f fd
  d_read_number : ∃ f fd, DefAt K mg "read_number" s_read_number ["word"] f fd
  d_is_party : ∃ f fd, DefAt K mg "is_party" s_is_party ["thing"] f fd
  d_is_promise : ∃ f fd, DefAt K mg "is_promise" s_is_promise ["thing"] f fd
  d_is_state : ∃ f fd, DefAt K mg "is_state" s_is_state ["thing"] f fd
  d__are_promises : ∃ f fd, DefAt K mg "_are_promises" s__are_promises ["thing"] f fd
  d_state_text : ∃ f fd, DefAt K mg "state_text" s_state_text ["state"] f fd
  d_read_state : ∃ f fd, DefAt K mg "read_state" s_read_state ["text"] f fd
  d__look_at : ∃ f fd, DefAt K mg "_look_at" s__look_at ["state"] f fd
  d__row : ∃ f fd, DefAt K mg "_row" s__row ["word", "numbers"] f fd
  d__numbers : ∃ f fd, DefAt K mg "_numbers" s__numbers ["words"] f fd
  d__law_begin : ∃ f fd, DefAt K mg "_law_begin" s__law_begin ["script"] f fd
  d__law_take : ∃ f fd, DefAt K mg "_law_take" s__law_take ["draw", "size"] f fd
  d__law_pick : ∃ f fd, DefAt K mg "_law_pick" s__law_pick ["draw", "some"] f fd
  d__law_promises : ∃ f fd, DefAt K mg "_law_promises" s__law_promises ["draw", "most"] f fd
  d__law_state : ∃ f fd, DefAt K mg "_law_state" s__law_state ["draw"] f fd
  d__law_text : ∃ f fd, DefAt K mg "_law_text" s__law_text ["state"] f fd
  d__law_other : ∃ f fd, DefAt K mg "_law_other" s__law_other ["draw", "state"] f fd
  d_law : ∃ f fd, DefAt K mg "law" s_law ["script"] f fd
  z_abs : mg "abs" = none
  z_range : mg "range" = none
  z_max : mg "max" = none
  z_len : mg "len" = none
  z_tuple : mg "tuple" = none
  z_min : mg "min" = none
  z_all : mg "all" = none
  z_sorted : mg "sorted" = none
  z_isinstance : mg "isinstance" = none
  z_set : mg "set" = none
  z_int : mg "int" = none
  z_bool : mg "bool" = none
  z_str : mg "str" = none
  z_repr : mg "repr" = none
  g_MOST_PROMISES : ∃ t, mg "MOST_PROMISES" = some (Value.int 4 t)
  g_MOST : ∃ t, mg "MOST" = some (Value.int 1000000000 t)
  g_MOST_DIGEST : ∃ t, mg "MOST_DIGEST" = some (Value.int 1000000000000000000000000000000 t)
  g_MOST_OF_ONE : ∃ t, mg "MOST_OF_ONE" = some (Value.int 10000000000 t)
  g_MOST_FIGURES : ∃ t, mg "MOST_FIGURES" = some (Value.int 900 t)
  g_FIGURES : ∃ t, mg "FIGURES" = some (Value.str "0123456789" t)
end My
set_option Elab.async false
set_option maxRecDepth 100000
set_option maxHeartbeats 4000000
namespace My
open PySem L2
/-! the heap -/
/-- all that stands stays, but for what stands at one of ds -/
def Keep (ds : List Addr) (H H' : Hp) : Prop := ∀ b o, H b = some o → b ∉ ds → H' b = some o
theorem Keep.refl {ds H} : Keep ds H H := fun _ _ h _ => h
theorem Keep.trans {ds H H1 H2} (a : Keep ds H H1) (b : Keep ds H1 H2) : Keep ds H H2 := fun x o h n => b x o (a x o h n) n
theorem Keep.mono {ds es H H1} (a : Keep ds H H1) (s : ∀ x ∈ ds, x ∈ es) : Keep es H H1 := fun x o h n => a x o h fun q => n (s x q)
theorem Keep.upd_new {ds H p o} (h : H p = none) : Keep ds H (upd H p o) := fun b u e _ => by rw [upd_ne (ne_of_none e h)]; exact e
theorem Keep.upd_in {ds : List Addr} {H p o} (h : p ∈ ds) : Keep ds H (upd H p o) := fun b u e n => by
  rw [upd_ne (fun q => n (by rw [q]; exact h))]; exact e
theorem Keep.of_same {ds H H1} (h : Same H H1) : Keep ds H H1 := fun b o e _ => h b o e
theorem Keep.same {H H1} (h : Keep [] H H1) : Same H H1 := fun b o e => h b o e (by simp)

theorem mod_small {a b : Int} (h0 : 0 < b) (h1 : b < 2 ^ 64) : -(2 ^ 64) < a % b ∧ a % b < 2 ^ 64 := by
  have e1 := Int.emod_nonneg a (show b ≠ 0 by omega)
  have e2 := Int.emod_lt_of_pos a h0
  omega
/-! the rules that name the written part, for a comprehension's block -/
section
variable {X : Cx} {K : PySem.W.Frag}
theorem op_notIn_seqK (e : X.K = K) : OpR X (compareOp .NotIn) (rIn K true) := e ▸ op_notIn_seq
theorem op_in_seqK (e : X.K = K) : OpR X (compareOp .In) (rIn K false) := e ▸ op_in_seq
theorem ix_listK (e : X.K = K) : IxR X (rIxL K) := e ▸ ix_list
theorem ix_tupK (e : X.K = K) : IxR X (rIxT K) := e ▸ ix_tup
theorem ix_seqK (e : X.K = K) : IxR X (rIx K) := e ▸ ix_seq
theorem call_isiK2 (e : X.K = K) : CallR X (.builtin "isinstance") (rIsi K) := e ▸ call_isi
end
/-! dicts by texts -/
theorem valV_hd {k : Str} {v : V} {r : List (Key × V)} : valV ((Sum.inr k, v) :: r) (Sum.inr k) = some v := by
  unfold valV; simp
theorem valV_tl {k j : Str} {v : V} {r : List (Key × V)} (h : ¬ j = k) : valV ((Sum.inr j, v) :: r) (Sum.inr k : Key) = valV r (Sum.inr k) := by
  unfold valV
  rw [List.find?_cons_of_neg]
  simpa using h

theorem DGetS {H : Hp} {a : Addr} {kvs : List (Key × V)} {k : Str} {v : V} (e : H a = some (.dK kvs)) (h : valV kvs (Sum.inr k) = some v) : DGet H a (.str k) (some v) := h ▸ DGet.k (k := Sum.inr k) e
theorem DPutS {H : Hp} {a : Addr} {kvs : List (Key × V)} {k : Str} {v : V} (e : H a = some (.dK kvs)) (hl : kvs.length < sizeLine) : DPut H a (.str k) v (upd H a (.dK (putK kvs (Sum.inr k) v))) := DPut.k (k := Sum.inr k) e hl
theorem atI_of {α : Type} {xs : List α} {i : Int} (h0 : 0 ≤ i) (h1 : i < xs.length) : ∃ v, xs[i.toNat]? = some v ∧ atI xs i = some v := by
  have h : i.toNat < xs.length := by omega
  refine ⟨xs[i.toNat], List.getElem?_eq_getElem h, ?_⟩
  have e : ((i.toNat : Nat) : Int) = i := by omega
  have := atI_nat (xs := xs) (j := i.toNat) (List.getElem?_eq_getElem h)
  rwa [e] at this
theorem atI_int {ns : List Int} {i : Int} (h0 : 0 ≤ i) (h1 : i < ns.length) : ∃ z, atI (ns.map V.int) i = some (.int z) := by
  obtain ⟨v, e, h⟩ := atI_of (xs := ns.map V.int) h0 (by rw [List.length_map]; exact h1)
  rw [List.getElem?_map] at e
  cases q : ns[i.toNat]? with
  | none => rw [q] at e; cases e
  | some z => rw [q] at e; cases e; exact ⟨z, h⟩
theorem ixN_of {n : Nat} {k : Int} (h0 : 0 ≤ k) (h1 : k < n) : ixN n k = some k.toNat := by
  unfold ixN
  rw [if_pos h0, if_pos h1]
/-- the state of the draws stands at d, its numbers at c -/
def DrawAt (H : Hp) (d c : Addr) : Prop := ∃ (ns : List Int) (i m : Int), H d = some (.lst [.ref c, .int i, .int m]) ∧ H c = some (.lst (ns.map V.int)) ∧ 0 < ns.length ∧ ns.length ≤ 63 ∧ -(2 ^ 64) < m ∧ m < 2 ^ 64 ∧ c ≠ d
theorem DrawAt.keep {H H' d c} {ds : List Addr} (D : DrawAt H d c) (k : Keep ds H H') (hd : d ∉ ds := by first | exact List.not_mem_nil | simp_all) (hc : c ∉ ds := by first | exact List.not_mem_nil | simp_all) : DrawAt H' d c := by
  obtain ⟨ns, a, b, h1, h2, h3⟩ := D
  exact ⟨ns, a, b, k _ _ h1 hd, k _ _ h2 hc, h3⟩
theorem DrawAt.new {H d c} {p : Addr} (D : DrawAt H d c) (h : H p = none) : d ≠ p ∧ c ≠ p := by
  obtain ⟨ns, a, b, h1, h2, h3⟩ := D
  exact ⟨ne_of_none h1 h, ne_of_none h2 h⟩
section
variable {P : Program} {w : World} {K : PySem.W.Frag} {mg : Str → Option Value} {base : Heap}
def sp_take : Sp := fun vs H Q _ => ∃ d c n, vs = [.ref d, .int n] ∧ DrawAt H d c ∧ 0 < n ∧ n < 2 ^ 128 ∧ ∀ r H', 0 ≤ r → r < n → DrawAt H' d c → Keep [d, c] H H' → Q (.int r) H'
theorem p__law_take (T : Txt K mg) : Pr P w K mg base "_law_take" s__law_take ["draw", "size"] 1 sp_take := by
  obtain ⟨f, fd, D⟩ := T.d__law_take
  refine ⟨f, fd, D, D.F.ok sc__law_take (fun vs H Q E h => ?_) (fun cdv A outer s H vs Q E hr h => ?_)⟩
  · obtain ⟨d, c, n, rfl, _⟩ := h; rfl
  · obtain ⟨d, c, n, rfl, ⟨ns, i, m, h1, h2, l0, l1, m0, m1, ncd⟩, n0, n1, q⟩ := h
    have hu := hu_of hr
    have hsl : sizeLine = 16777216 := sizeLine_eq
    refine ⟨_, (pss_cons (ps_set (i := 2) sc__law_take.nd rfl (Or.inl rfl) (pe_ix ix_list (pv 0) pe_int (fun _ _ => rfl)))
      (pss_cons (ps_set (i := 3) sc__law_take.nd rfl (Or.inl rfl) (pe_op op_mod (pe_ix ix_list (pv 0) pe_int (fun _ _ => rfl)) (pe_callB call_len_seq (by rfl) T.z_len (by decide +kernel) (pa_cons (pv 2) pa_nil))))
      (pss_cons (ps_set (i := 4) sc__law_take.nd rfl (Or.inl rfl) (pe_ix ix_list (pv 2) (pv 3) (fun _ _ => rfl)))
      (pss_cons (ps_if (pt_cmpR op_ge (pv 4) (pe_op op_pow pe_int pe_int) (nomark _)) (pss_cons (ps_asg (pe_op op_fdivW (pv 4) (pv 1)) (pg_sub (pv 2) (pv 3) set_list))
      (pss_one (ps_ret (pe_op op_mod (pv 4) (pv 1))))) pss_nil)
      (pss_cons (ps_asg (pe_op op_add (pe_ix ix_list (pv 0) pe_int (fun _ _ => rfl)) pe_int) (pg_sub (pv 0) pe_int set_list))
      (pss_cons (ps_asg (pe_op op_mod (pe_op op_add (pe_op op_add (pe_op op_mul (pe_ix ix_list (pv 0) pe_int (fun _ _ => rfl)) pe_int) (pv 4)) pe_int) pe_int) (pg_sub (pv 0) pe_int set_list))
      (pss_one (ps_ret (pe_op op_mod (pe_op op_fdivW (pe_op op_mod (pe_op op_mul (pe_ix ix_list (pv 0) pe_int (fun _ _ => rfl)) (pe_ix ix_list (pv 0) pe_int (fun _ _ => rfl))) pe_int) pe_int) (pv 1)))))))))), ?_⟩
    refine ⟨_, rfl, d, _, 0, V.ref c, rfl, rfl, SqL.of h1, rfl, ?_⟩
    refine ⟨_, rfl, d, _, 1, V.int i, rfl, rfl, SqL.of h1, rfl, ?_⟩
    have lp : (0 : Int) < ((ns.map V.int).length : Nat) := by rw [List.length_map]; omega
    refine ⟨_, rfl, c, _, rfl, .inl (SqL.of h2), _, _, rfl, rfl, lp, ?_⟩
    have a0 := Int.emod_nonneg i (show ((ns.map V.int).length : Nat) ≠ (0 : Int) by omega)
    have a1 := Int.emod_lt_of_pos i lp
    have a2 : i % (((ns.map V.int).length : Nat) : Int) < ns.length := by rw [List.length_map] at a1 ⊢; exact a1
    obtain ⟨z, hz⟩ := atI_int (ns := ns) a0 a2
    refine ⟨_, rfl, _, rfl, c, _, _, .int z, rfl, rfl, SqL.of h2, hz, ?_⟩
    refine ⟨_, rfl, _, _, rfl, rfl, ⟨by decide, by decide, by decide⟩, _, _, rfl, rfl, _, rfl, ?_⟩
    refine ite2 (fun _ => ?_) (fun _ => ?_)
    · refine ⟨_, rfl, _, rfl, _, _, rfl, rfl, wide_div (b := 128) n0 (by omega) (by decide) (by decide), ?_⟩
      refine ⟨_, rfl, _, rfl, c, _, _, _, rfl, rfl, h2, ixN_of a0 a1, ?_⟩
      have e : (ns.map V.int).set (i % (((ns.map V.int).length : Nat) : Int)).toNat (V.int (z / n)) = (ns.set (i % (((ns.map V.int).length : Nat) : Int)).toNat (z / n)).map V.int := List.map_set.symm
      rw [show ((fun i j : Int => V.int (i / j)) z n) = V.int (z / n) from rfl, e]
      refine ⟨_, rfl, _, rfl, _, _, rfl, rfl, n0, q _ _ (Int.emod_nonneg _ (by omega)) (Int.emod_lt_of_pos _ n0) ⟨_, i, m, by rw [upd_ne ncd.symm]; exact h1, upd_same, by rw [List.length_set]; exact l0, by rw [List.length_set]; exact l1, m0, m1, ncd⟩ (Keep.upd_in (by simp))⟩
    · refine ⟨_, rfl, d, _, 1, V.int i, rfl, rfl, SqL.of h1, rfl, ?_⟩
      refine ⟨_, _, rfl, rfl, _, rfl, d, _, 1, 1, rfl, rfl, h1, rfl, ?_⟩
      have g1 : (upd H d (.lst [.ref c, .int (i + 1), .int m])) d = some (.lst [.ref c, .int (i + 1), .int m]) := upd_same
      have g2 : (upd H d (.lst [.ref c, .int (i + 1), .int m])) c = some (.lst (ns.map V.int)) := by rw [upd_ne ncd]; exact h2
      have g3 : Keep [d, c] H (upd H d (.lst [.ref c, .int (i + 1), .int m])) := Keep.upd_in (by simp)
      show _
      refine ⟨_, rfl, d, [.ref c, .int (i + 1), .int m], 2, V.int m, rfl, rfl, SqL.of g1, rfl, _, _, rfl, rfl, Or.inl ⟨m0, m1⟩, _, rfl, _, _, rfl, rfl, _, _, rfl, rfl, _, _, rfl, rfl, (by show (0 : Int) < _; decide), ?_⟩
      refine ⟨_, rfl, d, [.ref c, .int (i + 1), .int m], 2, 2, rfl, rfl, g1, rfl, ?_⟩
      have mm := mod_small (a := m * 48271 + z + 12345) (b := 2147483647) (by decide) (by decide)
      have f1 : (upd (upd H d (.lst [.ref c, .int (i + 1), .int m])) d (.lst [.ref c, .int (i + 1), .int ((m * 48271 + z + 12345) % 2147483647)])) d = some (.lst [.ref c, .int (i + 1), .int ((m * 48271 + z + 12345) % 2147483647)]) := upd_same
      have f2 : (upd (upd H d (.lst [.ref c, .int (i + 1), .int m])) d (.lst [.ref c, .int (i + 1), .int ((m * 48271 + z + 12345) % 2147483647)])) c = some (.lst (ns.map V.int)) := by rw [upd_ne ncd]; exact g2
      have f3 : Keep [d, c] H (upd (upd H d (.lst [.ref c, .int (i + 1), .int m])) d (.lst [.ref c, .int (i + 1), .int ((m * 48271 + z + 12345) % 2147483647)])) := g3.trans (Keep.upd_in (by simp))
      refine ⟨_, rfl, d, [.ref c, .int (i + 1), .int ((m * 48271 + z + 12345) % 2147483647)], 2, _, rfl, rfl, SqL.of f1, rfl, _, rfl, d, [.ref c, .int (i + 1), .int ((m * 48271 + z + 12345) % 2147483647)], 2, _, rfl, rfl, SqL.of f1, rfl, ?_⟩
      refine ⟨_, _, rfl, rfl, Or.inl mm, _, _, rfl, rfl, (by show (0 : Int) < _; decide), ?_⟩
      refine ⟨_, _, rfl, rfl, wide_div (b := 64) (by decide) (by decide) (by decide) (by decide), _, rfl, _, _, rfl, rfl, n0, ?_⟩
      exact q _ _ (Int.emod_nonneg _ (by omega)) (Int.emod_lt_of_pos _ n0) ⟨ns, _, _, f1, f2, l0, l1, mm.1, mm.2, ncd⟩ f3
end
end My
set_option Elab.async false
set_option maxRecDepth 100000
set_option maxHeartbeats 800000
namespace My
open PySem L2 TL
section
variable {P : Program} {w : World} {K : PySem.W.Frag} {mg : Str → Option Value} {base : Heap}
/-- a list == [] -/
def rEqNil : R2 := fun x y H Q => ∃ a b xs, x = .ref a ∧ y = .ref b ∧ H a = some (.lst xs) ∧ H b = some (.lst []) ∧ Q (.bl xs.isEmpty) H
theorem op_eqNil {X : Cx} (hu : X.A.units + 64 < cLine) : OpR X (compareOp .Eq) rEqNil := by
  intro pins s σ H x y v u Q I rx ry h
  obtain ⟨a, b, xs, rfl, rfl, ha, hb, q⟩ := h
  cases (show v = Value.ref a from rx)
  cases (show u = Value.ref b from ry)
  obtain ⟨_, its, k, rv, h1⟩ := (show ObjOk X.prog X.w H s.heap a (.lst xs) from I.hok a _ ha)
  obtain ⟨_, its2, k2, rv2, h2⟩ := (show ObjOk X.prog X.w H s.heap b (.lst []) from I.hok b _ hb)
  cases rv2
  cases xs with
  | nil =>
    cases rv
    exact SeqAt.RcAt.lists (e := fun _ => true) ⟨_, h1, rfl, _, rfl⟩ ⟨_, h2, rfl, _, rfl⟩ rfl (by omega) (fun j h => absurd h (by simp)) _ _ _ _ ⟨.bl true, H, I, rfl, q⟩
  | cons z r =>
    cases rv with
    | cons r1 r2 =>
      exact SeqAt.RcAt.lists_lengths ⟨_, h1, rfl, _, rfl⟩ ⟨_, h2, rfl, _, rfl⟩ (by simp) (by omega) _ _ _ _ ⟨.bl false, H, I, rfl, q⟩
theorem yes {A B : Prop} (h : A) : if true = true then A else B := by rw [if_pos rfl]; exact h
theorem tYes_go {F : Bool → Hp → Prop} {σ : L2.St} {H : Hp} (h : F true H) : tYes σ H F := h
theorem take_succ_of {α : Type} {l : List α} {i : Nat} {x : α} (h : l[i]? = some x) : l.take (i + 1) = l.take i ++ [x] := by
  rw [List.take_add_one, h]; rfl
theorem Keep.none_of {ds : List Addr} {H H' : Hp} {p : Addr} (k : Keep ds H H') (h : H' p = none) (hp : p ∉ ds) : H p = none := by
  cases e : H p with
  | none => rfl
  | some o => rw [k p o e hp] at h; cases h
theorem Keep.trans_new {H H1 : Hp} {L : Addr} {o : HO} (k : Keep [] H H1) (h : H L = none) : Keep [] H (upd H1 L o) := fun b u e n => by
  rw [upd_ne (ne_of_none e h)]; exact k b u e n
def sp_begin (K : PySem.W.Frag) : Sp := fun vs H Q _ => ∃ (a : Addr) (ns : List Int), vs = [.ref a] ∧ SqL K H a (ns.map V.int) ∧ ns.length ≤ 63 ∧ ∀ d c H', H d = none → H c = none → DrawAt H' d c → Keep [] H H' → Q (.ref d) H'
theorem p__law_begin (T : Txt K mg) : Pr P w K mg base "_law_begin" s__law_begin ["script"] 1 (sp_begin K) := by
  obtain ⟨f, fd, D⟩ := T.d__law_begin
  refine ⟨f, fd, D, D.F.ok sc__law_begin (fun vs H Q E h => ?_) (fun cdv A outer s H vs Q E hr h => ?_)⟩
  · obtain ⟨d, n, rfl, _⟩ := h; rfl
  · obtain ⟨a, ns, rfl, hS, hl, q⟩ := h
    have hsl : sizeLine = 16777216 := sizeLine_eq
    refine ⟨_, (pss_cons (ps_setLc (i := 1) (own := [("cell", 2)]) (g := gName 2) (tt := tYes) rfl sc__law_begin.nd rfl rfl (sw_true rfl rfl rfl (by decide +kernel)) (pi_list (pe_slice sl_list (pv 0) po_none (po_some pe_int))) (blkOk_by (own := [("cell", 2)]) (N := N__law_begin) (sc := defScope s__law_begin) (by decide +kernel)) (fun _ _ _ _ _ => (pg_name (i := 2) sc__law_begin.nd rfl (Or.inl rfl))) (fun _ _ _ _ _ => pts_nil) (fun _ _ _ _ _ => (pe_callB call_abs (by rfl) T.z_abs (by decide +kernel) (pa_cons (pv 2) pa_nil))))
      (pss_cons (ps_if (pt_cmpR (op_eqNil hr.units) (pv 1) (pe_lst pa_nil) (nomark _)) (pss_one (ps_set (i := 1) sc__law_begin.nd rfl (Or.inl rfl) (pe_lst (pa_cons pe_int pa_nil)))) pss_nil)
      (pss_one (ps_ret (pe_lst (pa_cons (pv 1) (pa_cons pe_int (pa_cons pe_int pa_nil)))))))), ?_⟩
    have ec : cutV (ns.map V.int) none (some 63) = ns.map V.int := by
      unfold cutV
      rw [HT.sIx_none, show (some (63 : Int)) = some ((63 : Nat) : Int) from rfl, HT.sIx_nat, List.drop_zero, Nat.sub_zero, List.take_of_length_le (by rw [List.length_map]; omega)]
    refine ⟨_, rfl, _, rfl, a, _, rfl, hS, fun p hp => ?_⟩
    rw [ec]
    have K1 := Keep.upd_new (ds := []) hp (o := .lst (ns.map V.int))
    have h1 : (upd H p (.lst (ns.map V.int))) p = some (.lst (ns.map V.int)) := upd_same
    generalize upd H p (.lst (ns.map V.int)) = H1 at K1 h1
    refine ⟨p, rfl, ⟨_, SqL.of h1⟩, fun L hL => ?_⟩
    have hL0 := K1.none_of hL (by simp)
    refine lc_list (K := K) (a := p) (xs := ns.map V.int) (fun i H2 => Keep [] H1 H2 ∧ H2 L = some (.lst (((ns.take i).map fun j => if j < 0 then -j else j).map V.int))) ⟨Keep.upd_new hL, upd_same⟩ (fun i H2 _ ⟨k, _⟩ => SqL.of (k _ _ h1 (by simp))) ?_ ?_
    · rintro i x H2 hx ⟨K2, h2⟩
      have il := (List.getElem?_eq_some_iff.mp hx).1
      rw [List.length_map] at il
      obtain ⟨z, hz⟩ : ∃ z, ns[i]? = some z := ⟨_, List.getElem?_eq_getElem il⟩
      rw [List.getElem?_map, hz] at hx
      obtain rfl : V.int z = x := Option.some.inj hx
      refine ⟨rfl, tYes_go (yes ?_)⟩
      refine ⟨_, rfl, z, rfl, _, h2, by rw [List.length_map, List.length_map, List.length_take]; omega, K2.trans_new hL, ?_⟩
      rw [upd_same, take_succ_of hz, List.map_append, List.map_append]; rfl
    · rintro H2 ⟨K2, h2⟩
      rw [List.length_map, List.take_length] at h2
      have K02 := K1.trans K2
      have lm : (ns.map fun j : Int => if j < 0 then -j else j).length = ns.length := List.length_map ..
      generalize (ns.map fun j : Int => if j < 0 then -j else j) = ms at h2 lm
      refine ⟨_, rfl, Nat.zero_le _, fun M hM => ⟨L, M, _, rfl, rfl, Keep.upd_new (ds := []) hM _ _ h2 (by simp), upd_same, _, rfl, ?_⟩⟩
      have h3 := Keep.upd_new (ds := []) hM (o := .lst []) _ _ h2 (by simp)
      have K3 := K02.trans (Keep.upd_new hM (o := .lst []))
      generalize upd H2 M (.lst []) = H3 at h3 K3
      cases ms with
      | nil =>
        refine iteT ?_
        refine ⟨by show 1 ≤ sizeLine; omega, fun N hN => ?_⟩
        refine ⟨_, rfl, by show 3 ≤ sizeLine; omega, fun d hd => ?_⟩
        have nd : N ≠ d := ne_of_none upd_same hd
        exact q d N _ (K3.none_of (by rw [upd_ne nd.symm] at hd; exact hd) (by simp)) (K3.none_of hN (by simp)) ⟨[7], 0, 1, upd_same, by rw [upd_ne nd]; exact upd_same, by decide, by decide, by decide, by decide, nd⟩ ((K3.trans (Keep.upd_new hN)).trans (Keep.upd_new hd))
      | cons z zs =>
        refine iteF ?_
        refine ⟨_, rfl, by show 3 ≤ sizeLine; omega, fun d hd => ?_⟩
        have nd : L ≠ d := ne_of_none h3 hd
        exact q d L _ (K3.none_of hd (by simp)) hL0 ⟨z :: zs, 0, 1, upd_same, by rw [upd_ne nd]; exact h3, by simp, by omega, by decide, by decide, nd⟩ (K3.trans (Keep.upd_new hd))
/-- what may be picked from -/
def PickV (H : Hp) (d c : Addr) (x : V) (xs : List V) : Prop := (∃ a, x = .ref a ∧ a ∉ [d, c] ∧ (H a = some (.lst xs) ∨ H a = some (.tup xs))) ∨ ∃ z : Str, x = .str z ∧ z.length ≤ sizeLine ∧ xs = (tl z).map fun c => V.str ⟨#[c]⟩
theorem PickV.keep {H H' : Hp} {d c : Addr} {x : V} {xs : List V} (h : PickV H d c x xs) (k : Keep [d, c] H H') : PickV H' d c x xs := by
  rcases h with ⟨a, rfl, na, h⟩ | h
  · exact .inl ⟨a, rfl, na, h.imp (fun h => k _ _ h na) fun h => k _ _ h na⟩
  · exact .inr h
def sp_pick : Sp := fun vs H Q _ => ∃ d c x xs, vs = [.ref d, x] ∧ DrawAt H d c ∧ PickV H d c x xs ∧ 0 < xs.length ∧ xs.length < 1000000000 ∧ ∀ v H', v ∈ xs → DrawAt H' d c → Keep [d, c] H H' → Q v H'
theorem p__law_pick (T : Txt K mg) : Pr P w K mg base "_law_pick" s__law_pick ["draw", "some"] 2 sp_pick := by
  obtain ⟨f, fd, D⟩ := T.d__law_pick
  obtain ⟨f__law_take, fd__law_take, D__law_take, G__law_take⟩ := p__law_take (P := P) (w := w) (base := base) T
  refine ⟨f, fd, D, D.F.ok sc__law_pick (fun vs H Q E h => ?_) (fun cdv A outer s H vs Q E hr h => ?_)⟩
  · obtain ⟨d, c, n, xs, rfl, _⟩ := h; rfl
  · obtain ⟨d, c, x, xs, rfl, D0, PV, n0, n1, q⟩ := h
    have hu := hu_of hr
    refine ⟨_, (pss_one (ps_ret (pe_ix ix_seq (pv 1) (pe_call G__law_take (hr.mono (by decide)) rfl D__law_take.m D__law_take.F.kp D__law_take.b .nil pass0 (pa_cons (pv 0) (pa_cons (pe_callB call_len (by rfl) T.z_len (by decide +kernel) (pa_cons (pv 1) pa_nil)) pa_nil))) (fun _ _ => rfl)))), ?_⟩
    have hl : ∀ H1, PickV H1 d c x xs → LenV K x H1 xs.length := fun H1 h => by
      rcases h with ⟨a, rfl, _, h | h⟩ | ⟨z, rfl, hz, rfl⟩
      · exact .inl ⟨xs, SqL.of h, rfl⟩
      · exact .inr ⟨xs, SqT.of h, rfl⟩
      · refine ⟨hz, ?_⟩
        rw [List.length_map]; exact (len_tl z).symm
    refine ⟨_, rfl, _, rfl, _, rfl, x, xs.length, rfl, hl H PV, d, c, _, rfl, D0, by omega, by omega, fun r H1 r0 r1 D1 K1 => ?_⟩
    have PV1 := PV.keep K1
    obtain ⟨v, e1, e2⟩ := atI_of (xs := xs) r0 r1
    have hm : v ∈ xs := List.mem_of_getElem? e1
    rcases id PV1 with ⟨a, rfl, _, h | h⟩ | ⟨z, rfl, hz, rfl⟩
    · exact .inl ⟨a, xs, r, v, rfl, rfl, SqL.of h, e2, q v H1 hm D1 K1⟩
    · exact .inr (.inl ⟨a, xs, r, v, rfl, rfl, SqT.of h, e2, q v H1 hm D1 K1⟩)
    · obtain ⟨c', hc, rfl⟩ := List.mem_map.mp hm
      refine .inr (.inr ⟨z, r, c', rfl, rfl, hz, ?_, q _ H1 hm D1 K1⟩)
      obtain ⟨c3, e3, e4⟩ := atI_of (xs := tl z) r0 (by rw [List.length_map] at r1; exact r1)
      rw [List.getElem?_map, e3] at e1
      cases e1
      exact e4
end
end My
set_option Elab.async false
set_option maxRecDepth 100000
set_option maxHeartbeats 800000
namespace My
open PySem L2 TL
/-! states and their texts: no heap here -/
structure PRO where
  m : Int
  b : Int
  a : Int
  l : Int
  u : Int
structure SO where
  p : Int
  t : Int
  x : Int
  y : Int
  ps : List PRO
def BIG : Int := 10 ^ 40
def pn (p : PRO) : List Int := [p.m, p.b, p.a, p.l, p.u]
def sn (s : SO) : List Int := [s.p, s.t, s.x, s.y]
structure OkP (p : PRO) : Prop where
  m1 : 1 ≤ p.m
  m2 : p.m < BIG
  b : p.b = 0 ∨ p.b = 1
  a1 : 1 ≤ p.a
  a2 : p.a ≤ 1000000000
  l0 : 0 ≤ p.l
  l1 : p.l ≤ 1000000000000000000000000000000
  u0 : 0 ≤ p.u
  u1 : p.u < BIG
structure OkS (s : SO) : Prop where
  p1 : 1 ≤ s.p
  p2 : s.p < BIG
  t0 : 0 ≤ s.t
  t1 : s.t < BIG
  x0 : 0 ≤ s.x
  x1 : s.x ≤ 10000000000
  y0 : 0 ≤ s.y
  y1 : s.y ≤ 10000000000
  len : s.ps.length ≤ 4
  up : (s.ps.map (·.m)).Pairwise (· < ·)
  ok : ∀ p ∈ s.ps, OkP p
def NumOk (i : Int) : Prop := 0 ≤ i ∧ i < BIG
theorem BIG_eq : BIG = 10000000000000000000000000000000000000000 := by decide +kernel
theorem OkP.nums {p : PRO} (h : OkP p) : ∀ i ∈ pn p, NumOk i := by
  have e := BIG_eq
  obtain ⟨m1, m2, b, a1, a2, l0, l1, u0, u1⟩ := h
  unfold NumOk
  intro i hi
  simp only [pn, List.mem_cons, List.not_mem_nil, or_false] at hi
  rcases hi with rfl | rfl | rfl | rfl | rfl
  · omega
  · rcases b with h | h <;> omega
  · omega
  · omega
  · omega
theorem OkS.nums {s : SO} (h : OkS s) : ∀ i ∈ sn s, NumOk i := by
  have e := BIG_eq
  obtain ⟨p1, p2, t0, t1, x0, x1, y0, y1, _, _, _⟩ := h
  unfold NumOk
  intro i hi
  simp only [sn, List.mem_cons, List.not_mem_nil, or_false] at hi
  rcases hi with rfl | rfl | rfl | rfl <;> omega
/-- str of a number -/
def tx (i : Int) : Str := Str.ofString (toString i)
theorem tl_tx {i : Int} (h : 0 ≤ i) : tl (tx i) = numL i.toNat := by
  have e : i = ((i.toNat : Nat) : Int) := by omega
  unfold tx
  rw [e, tl_num]; rfl
theorem tx_inj {i j : Int} (hi : 0 ≤ i) (hj : 0 ≤ j) (e : tx i = tx j) : i = j := by
  have e2 := congrArg tl e
  rw [tl_tx hi, tl_tx hj] at e2
  have := numL_inj e2
  omega
theorem tx_len {i : Int} (h : NumOk i) : (tl (tx i)).length ≤ 40 := by
  have e := BIG_eq
  rw [tl_tx h.1]
  refine numL_len (by decide) ?_
  have := h.2
  have e2 : (10 : Nat) ^ 40 = 10000000000000000000000000000000000000000 := by decide +kernel
  rw [e2]; omega
theorem tx_free {i : Int} (h : 0 ≤ i) : 32 ∉ tl (tx i) := by
  rw [tl_tx h]; exact numL_free (by decide)
theorem tx_ne {i : Int} (h : 0 ≤ i) : tl (tx i) ≠ [] := by
  rw [tl_tx h]; exact numL_ne _
theorem txs_inj : ∀ {l m : List Int}, (∀ i ∈ l, 0 ≤ i) → (∀ i ∈ m, 0 ≤ i) → l.map tx = m.map tx → l = m
  | [], [], _, _, _ => rfl
  | [], _ :: _, _, _, h => by cases h
  | _ :: _, [], _, _, h => by cases h
  | a :: l, b :: m, h1, h2, h => by
    rw [List.map_cons, List.map_cons, List.cons.injEq] at h
    rw [tx_inj (h1 a (by simp)) (h2 b (by simp)) h.1, txs_inj (fun i hi => h1 i (List.mem_cons_of_mem _ hi)) (fun i hi => h2 i (List.mem_cons_of_mem _ hi)) h.2]
/-- a word and numbers, with a blank between -/
def rowT (h : Str) (ns : List Int) : Str := PySem.Txt.join " " (h :: ns.map tx)
def textS (s : SO) : Str := s.ps.foldl (fun t p => t ++ rowT " /" (pn p)) (rowT "state" (sn s))
def wordsP (ps : List PRO) : List Str := ps.flatMap fun p => ("/" : Str) :: (pn p).map tx
def wordsS (s : SO) : List Str := (("state" : Str) :: (sn s).map tx) ++ wordsP s.ps
theorem joinL_cons {S h : List Nat} {r : List (List Nat)} (hr : r ≠ []) : joinL S (h :: r) = h ++ (S ++ joinL S r) := by
  cases r with
  | nil => exact absurd rfl hr
  | cons q r => rfl
theorem joinL_app {S : List Nat} : ∀ {xs ys : List (List Nat)}, xs ≠ [] → ys ≠ [] → joinL S (xs ++ ys) = joinL S xs ++ (S ++ joinL S ys)
  | [], _, h, _ => absurd rfl h
  | [x], ys, _, hy => by rw [List.singleton_append, joinL_cons hy]; rfl
  | x :: y :: r, ys, _, hy => by
    rw [List.cons_append, joinL_cons (r := y :: r ++ ys) (by simp), joinL_app (xs := y :: r) (by simp) hy, joinL_cons (h := x) (r := y :: r) (by simp)]
    simp only [List.append_assoc]
theorem tl_rowT (h : Str) (ns : List Int) : tl (rowT h ns) = joinL [32] (tl h :: (ns.map tx).map tl) := by
  unfold rowT
  rw [join_eq, tl_join]; rfl
theorem row_slash {ns : List Int} : tl (rowT " /" ns) = [32] ++ joinL [32] (([47] : List Nat) :: (ns.map tx).map tl) := by
  rw [tl_rowT]
  have e : tl (" /" : Str) = 32 :: [47] := by decide +kernel
  rw [e]
  cases hm : (ns.map tx).map tl with
  | nil => rfl
  | cons q r => rfl
theorem fold_words : ∀ (ps : List PRO) (ws : List Str), ws ≠ [] → tl (ps.foldl (fun t p => t ++ rowT " /" (pn p)) (PySem.Txt.join " " ws)) = joinL [32] ((ws ++ wordsP ps).map tl)
  | [], ws, _ => by
    rw [show wordsP [] = [] from rfl, List.append_nil]
    show tl (PySem.Txt.join " " ws) = _
    rw [join_eq, tl_join]; rfl
  | p :: ps, ws, h => by
    have e : PySem.Txt.join " " ws ++ rowT " /" (pn p) = PySem.Txt.join " " (ws ++ (("/" : Str) :: (pn p).map tx)) := by
      refine ext_tl ?_
      rw [tl_append, row_slash, join_eq, join_eq, tl_join, tl_join, List.map_append, joinL_app (by simpa using h) (by simp)]
      rfl
    rw [List.foldl_cons, e, fold_words ps _ (by simp)]
    unfold wordsP
    rw [List.flatMap_cons, List.append_assoc]
theorem text_words (s : SO) : textS s = PySem.Txt.join " " (wordsS s) := by
  refine ext_tl ?_
  have := fold_words s.ps (("state" : Str) :: (sn s).map tx) (by simp)
  rw [join_eq " " (wordsS s), tl_join]
  exact this
theorem words_free {s : SO} (h : OkS s) : ∀ w ∈ wordsS s, 32 ∉ tl w := by
  intro w hw
  unfold wordsS at hw
  have st : 32 ∉ tl ("state" : Str) := by decide +kernel
  have sl : 32 ∉ tl ("/" : Str) := by decide +kernel
  rcases List.mem_append.mp hw with hw | hw
  · rcases List.mem_cons.mp hw with rfl | hw
    · exact st
    · obtain ⟨i, hi, rfl⟩ := List.mem_map.mp hw
      exact tx_free (h.nums i hi).1
  · obtain ⟨p, hp, hw⟩ := List.mem_flatMap.mp hw
    rcases List.mem_cons.mp hw with rfl | hw
    · exact sl
    · obtain ⟨i, hi, rfl⟩ := List.mem_map.mp hw
      exact tx_free ((h.ok p hp).nums i hi).1
theorem split_text {s : SO} (h : OkS s) : PySem.Txt.split (textS s) " " = wordsS s := by
  rw [text_words]
  exact split_join (s := 32) (S := []) (by decide +kernel) (by decide +kernel) (by unfold wordsS; simp) (words_free h)
theorem pn_inj {p q : PRO} (e : pn p = pn q) : p = q := by
  cases p; cases q
  simp only [pn, List.cons.injEq] at e
  obtain ⟨rfl, rfl, rfl, rfl, rfl, _⟩ := e; rfl
theorem wordsP_inj : ∀ {ps qs : List PRO}, (∀ p ∈ ps, OkP p) → (∀ p ∈ qs, OkP p) → wordsP ps = wordsP qs → ps = qs
  | [], [], _, _, _ => rfl
  | [], _ :: _, _, _, h => by unfold wordsP at h; simp at h
  | _ :: _, [], _, _, h => by unfold wordsP at h; simp at h
  | p :: ps, q :: qs, h1, h2, h => by
    unfold wordsP at h
    rw [List.flatMap_cons, List.flatMap_cons] at h
    have hl : ((("/" : Str) :: (pn p).map tx)).length = ((("/" : Str) :: (pn q).map tx)).length := rfl
    obtain ⟨e1, e2⟩ := List.append_inj h hl
    rw [List.cons.injEq] at e1
    have := txs_inj (fun i hi => ((h1 p (by simp)).nums i hi).1) (fun i hi => ((h2 q (by simp)).nums i hi).1) e1.2
    rw [pn_inj this, wordsP_inj (fun x hx => h1 x (List.mem_cons_of_mem _ hx)) (fun x hx => h2 x (List.mem_cons_of_mem _ hx)) e2]
/-- unlike states have unlike texts -/
theorem text_inj {s t : SO} (hs : OkS s) (ht : OkS t) (e : textS s = textS t) : s = t := by
  have e2 := split_text hs
  rw [e, split_text ht] at e2
  unfold wordsS at e2
  obtain ⟨e3, e4⟩ := List.append_inj e2 rfl
  rw [List.cons.injEq] at e3
  have e5 := txs_inj (fun i hi => (ht.nums i hi).1) (fun i hi => (hs.nums i hi).1) e3.2
  have e6 := wordsP_inj ht.ok hs.ok e4
  cases s; cases t
  simp only [sn, List.cons.injEq] at e5
  obtain ⟨rfl, rfl, rfl, rfl, _⟩ := e5
  cases e6; rfl
/-- the law's own text -/
def lawT (s : SO) : Str := PySem.Txt.join " / " (rowT "state" (sn s) :: s.ps.map fun p => PySem.Txt.join " " ((pn p).map tx))
theorem law_text (s : SO) : lawT s = textS s := by
  have key : ∀ (ps : List PRO) (z : Str), tl (PySem.Txt.join " / " (z :: ps.map fun p => PySem.Txt.join " " ((pn p).map tx))) = tl (ps.foldl (fun t p => t ++ rowT " /" (pn p)) z) := by
    intro ps
    induction ps with
    | nil => intro z; rw [join_eq, tl_join]; rfl
    | cons p ps ih =>
      intro z
      rw [List.foldl_cons, ← ih, join_eq, join_eq, tl_join, tl_join]
      have e : tl (" / " : Str) = [32, 47, 32] := by decide +kernel
      have e2 : tl (rowT " /" (pn p)) = [32, 47, 32] ++ tl (PySem.Txt.join " " ((pn p).map tx)) := by
        rw [row_slash, join_eq, tl_join]; rfl
      simp only [List.map_cons, e]
      cases hm : (ps.map fun p => PySem.Txt.join " " ((pn p).map tx)).map tl with
      | nil =>
        show tl z ++ ([32, 47, 32] ++ tl _) = tl (z ++ _)
        rw [tl_append, e2]
      | cons q r =>
        show tl z ++ ([32, 47, 32] ++ (tl _ ++ ([32, 47, 32] ++ joinL [32, 47, 32] (q :: r)))) = tl (z ++ _) ++ ([32, 47, 32] ++ joinL [32, 47, 32] (q :: r))
        rw [tl_append, e2]; simp only [List.append_assoc]
  exact ext_tl (key _ _)
/-- lengths -/
theorem words_len (s : SO) : (wordsS s).length = 5 + 6 * s.ps.length := by
  have : ∀ ps : List PRO, (wordsP ps).length = 6 * ps.length := by
    intro ps
    induction ps with
    | nil => rfl
    | cons p ps ih =>
      unfold wordsP at ih ⊢
      rw [List.flatMap_cons, List.length_append, ih, List.length_cons (as := ps)]
      show 6 + _ = _
      omega
  unfold wordsS
  rw [List.length_append, this]
  show 5 + _ = _; rfl
theorem row_len {h : Str} {ns : List Int} (hn : ∀ i ∈ ns, NumOk i) : (tl (rowT h ns)).length ≤ (tl h).length + 41 * ns.length := by
  rw [tl_rowT]
  have : ∀ (ns : List Int) (z : List Nat), (∀ i ∈ ns, NumOk i) → (joinL [32] (z :: (ns.map tx).map tl)).length ≤ z.length + 41 * ns.length := by
    intro ns
    induction ns with
    | nil => intro z _; show z.length ≤ _; omega
    | cons i r ih =>
      intro z hz
      have h1 := ih (tl (tx i)) fun j hj => hz j (List.mem_cons_of_mem _ hj)
      have h2 := tx_len (hz i (by simp))
      rw [List.map_cons, List.map_cons, joinL_cons (by simp), List.length_append, List.length_append, List.length_cons (as := r)]
      show z.length + (1 + _) ≤ _
      omega
  exact this ns _ hn
theorem text_len {s : SO} (h : OkS s) : (tl (textS s)).length ≤ 2000 := by
  have key : ∀ (ps : List PRO) (z : Str), (∀ p ∈ ps, OkP p) → (tl (ps.foldl (fun t p => t ++ rowT " /" (pn p)) z)).length ≤ (tl z).length + 220 * ps.length := by
    intro ps
    induction ps with
    | nil => intro z _; show (tl z).length ≤ _; omega
    | cons p ps ih =>
      intro z hp
      have h1 := ih (z ++ rowT " /" (pn p)) fun q hq => hp q (List.mem_cons_of_mem _ hq)
      have h2 := row_len (h := " /") (hp p (by simp)).nums
      have e : (tl (" /" : Str)).length = 2 := by decide +kernel
      have e5 : (pn p).length = 5 := rfl
      rw [List.foldl_cons, List.length_cons]
      rw [tl_append, List.length_append] at h1
      omega
  have h1 := key s.ps (rowT "state" (sn s)) h.ok
  have h2 := row_len (h := "state") h.nums
  have e : (tl ("state" : Str)).length = 5 := by decide +kernel
  have e4 : (sn s).length = 4 := rfl
  have := h.len
  unfold textS
  omega
theorem wordsP_slash : ∀ (ps : List PRO) (j : Nat) (w : Str), (wordsP ps)[6 * j]? = some w → w = "/"
  | [], j, w, h => by unfold wordsP at h; simp at h
  | p :: ps, 0, w, h => by unfold wordsP at h; simp [List.flatMap_cons] at h; exact h.symm
  | p :: ps, j + 1, w, h => by
    refine wordsP_slash ps j w ?_
    unfold wordsP at h ⊢
    rw [List.flatMap_cons, List.getElem?_append_right (by show 6 ≤ _; omega)] at h
    have e : 6 * (j + 1) - ((("/" : Str) :: (pn p).map tx)).length = 6 * j := by show 6 * (j + 1) - 6 = _; omega
    rw [e] at h; exact h
theorem wordsP_take : ∀ (ps : List PRO) (j : Nat) (p : PRO), ps[j]? = some p → ((wordsP ps).drop (6 * j + 1)).take 5 = (pn p).map tx
  | [], j, p, h => by simp at h
  | p :: ps, 0, q, h => by
    simp at h; subst h
    unfold wordsP
    rw [List.flatMap_cons]; rfl
  | p :: ps, j + 1, q, h => by
    have ih := wordsP_take ps j q (by simpa using h)
    unfold wordsP at ih ⊢
    rw [List.flatMap_cons, List.drop_append]
    have e1 : ((("/" : Str) :: (pn p).map tx)).drop (6 * (j + 1) + 1) = [] := List.drop_eq_nil_of_le (by show 6 ≤ _; omega)
    have e2 : 6 * (j + 1) + 1 - ((("/" : Str) :: (pn p).map tx)).length = 6 * j + 1 := by show 6 * (j + 1) + 1 - 6 = _; omega
    rw [e1, e2, List.nil_append]; exact ih
end My
set_option Elab.async false
set_option maxRecDepth 100000
set_option maxHeartbeats 4000000
namespace My
open PySem PySem.Spec PyProof.Rows PySem.SeqAt
section
variable {prog : Program} {w : World} {A : Around} {E : Value → Shared → Prop} {s : Shared}
/-- str.__ne__ of a text and a dict: it declines -/
theorem str_ne_dict (b : Str) (u : Tok) (l : Addr) (c : Value) (es : Array DictEntry) (n : Nat) (dd : Option Addr) (sl : Array (Option Value)) :
    Meets (Builtin.«str.__ne__» ⟨[.str b u, .ref l], []⟩)
      (fun _ R s => s.heap.get? l = some ⟨c, dd, .dict es n, sl⟩ ∧ R (.ok (.ret .notImplemented)) s) :=
  .of_wp fun prog w A R s h => by
    obtain ⟨hp, g, d, tk, os⟩ := s
    obtain ⟨hl, h⟩ := h
    wp_walk using AutoSeq1.wpAny_loadPart' hl, wpAny_load hl
    exact ⟨_, rfl, h⟩
theorem ne_dict_str {a : Addr} {o : Obj} {es : Array DictEntry} {ep : Nat} {b : Str} {u : Tok} {Q : Value → Shared → Prop} (ha : s.heap.get? a = some o) (hc : o.cls = .type "dict") (hd : o.data = .dict es ep)
    (hu : A.units < cLine) (h : Q (.bool true) s) : wpAny (model prog w) A (compareOp .NotEq (.ref a) (.str b u)) Q E s := by
  have tI : s.TypeIs (.ref a) "dict" := ⟨o, ha, hc⟩
  obtain ⟨cls, dd, data, sl⟩ := id o
  refine rc_ne_decline_or (k := false) tI (typeIs_str s b u) (by decide) PySem.F.sub_str_dict PySem.F.slot_dict_ne PySem.F.slot_str_ne_refl (fun Q' hq => ?_) (fun Q' hq => ?_) (fun Q' hq => wpAny_of_eq (rfl : isSame (.ref a) (.str b u) = pure false) hq) (.inr hu) h
  · refine wpAny_call_entry PySem.F.slot_dict_ne tI PySem.F.entry_dict_ne ?_ (PySem.F.args_dict_ne_2 _ _)
    show wpAny _ _ (Builtin.Dict.dictSlotArgs "__ne__" ⟨[.ref a, .str b u], []⟩ >>= _) _ _ s
    unfold Builtin.Dict.dictSlotArgs
    refine wpAny_bind (wpAny_bind (wpAny_notOrdered_dict tI ?_))
    refine wpAny_pure (wpAny_bind (wpAny_isInstance (T := "str") (typeIs_str s b u) PySem.F.sub_str_dict ?_))
    rw [if_pos (by rfl)]
    exact wpAny_bind (wpAny_rule (wpAny_pure ⟨_, rfl, hq⟩))
  · obtain ⟨cls, dd, data, sl⟩ := o
    cases hc; cases hd
    exact call_meets PySem.F.slot_str_ne_refl (typeIs_str s b u) PySem.F.entry_str_ne (PySem.F.args_str_ne_2 _ _) (str_ne_dict b u a _ es ep dd sl) ⟨ha, hq⟩
end
open L2 TL
/-- a value of a kind that a law hands in, by its type's name -/
inductive Thing (H : Hp) : V → String → Prop where
  | non : Thing H .non "NoneType"
  | bl (b : Bool) : Thing H (.bl b) "bool"
  | int (i : Int) : Thing H (.int i) "int"
  | str (z : Str) (h : z.length ≤ sizeLine) : Thing H (.str z) "str"
  | lst {a : Addr} {xs : List V} (h : H a = some (.lst xs)) : Thing H (.ref a) "list"
  | tup {a : Addr} {xs : List V} (h : H a = some (.tup xs)) : Thing H (.ref a) "tuple"
  | dct {a : Addr} {kvs : List (Key × V)} (h : H a = some (.dK kvs)) : Thing H (.ref a) "dict"
theorem Thing.ty {K : PySem.W.Frag} {H : Hp} {v : V} {n : String} (h : Thing H v n) : TyX K H v (.type n) := by
  cases h with
  | non => exact .base .non
  | bl b => exact .base (.bl b)
  | int i => exact .base (.int i)
  | str z h => exact .base (.str z)
  | lst h => exact .base (.lst h)
  | tup h => exact .base (.tup h)
  | dct h => exact .base (.dK h)
theorem Thing.keep {H H' : Hp} {d : Addr} {v : V} {n : String} (h : Thing H v n) (k : Keep [d] H H') (hv : v ≠ .ref d) : Thing H' v n := by
  have na : ∀ a, v = .ref a → a ∉ [d] := fun a e => by simp only [List.mem_singleton]; rintro rfl; exact hv e
  cases h with
  | non => exact .non
  | bl b => exact .bl b
  | int i => exact .int i
  | str z h => exact .str z h
  | lst h => exact .lst (k _ _ h (na _ rfl))
  | tup h => exact .tup (k _ _ h (na _ rfl))
  | dct h => exact .dct (k _ _ h (na _ rfl))
def rNeStr : R2 := fun x y H Q => ∃ n z, Thing H x n ∧ y = .str z ∧ Q (.bl (!decide (x = .str z))) H
theorem op_neStr {X : Cx} (hu : X.A.units + 64 < cLine) : OpR X (compareOp .NotEq) rNeStr := by
  intro pins s σ H x y v u Q I rx ry h
  obtain ⟨n, z, T, rfl, q⟩ := h
  obtain ⟨t, rfl⟩ := ry
  have fin : ∀ k : Bool, (!decide (x = V.str z)) = k → EP X pins σ Q (.bool k) s := fun k e => ⟨.bl k, H, I, rfl, e ▸ q⟩
  cases T with
  | non => cases (show v = Value.none from rx); exact RcNeAt.none_str z t _ _ _ _ (fin _ (by simp))
  | bl b => cases (show v = Value.bool b from rx); exact RcNeAt.bool_str b z t _ _ _ _ (fin _ (by simp))
  | int i => obtain ⟨t', rfl⟩ := (show ∃ t, v = Value.int i t from rx); exact RcNeAt.int_str i t' z t _ _ _ _ (fin _ (by simp))
  | str y hy =>
    obtain ⟨t', rfl⟩ := (show ∃ t, v = Value.str y t from rx)
    refine RcNeAt.str_str y t' z t _ _ _ _ (fin _ ?_)
    by_cases e : y = z
    · subst e; simp
    · simp [e]
  | @lst a xs h =>
    cases (show v = Value.ref a from rx)
    obtain ⟨_, its, k, _, h1⟩ := (show ObjOk X.prog X.w H s.heap a (.lst xs) from I.hok a _ h)
    exact RcNeAt.list_str z t ⟨_, h1, rfl, _, rfl⟩ (by omega) _ _ _ _ (fin _ (by simp))
  | @tup a xs h =>
    cases (show v = Value.ref a from rx)
    obtain ⟨_, its, _, o, h1, h2, k, h3⟩ := (show ObjOk X.prog X.w H s.heap a (.tup xs) from I.hok a _ h)
    exact RcNeAt.tuple_str z t ⟨_, h1, h2, _, h3⟩ (by omega) _ _ _ _ (fin _ (by simp))
  | @dct a kvs h =>
    cases (show v = Value.ref a from rx)
    obtain ⟨_, _, vs, _, o, es, ep, h1, h2, h3, _⟩ := (show ObjOk X.prog X.w H s.heap a (.dK kvs) from I.hok a _ h)
    exact ne_dict_str h1 h2.1 h3 (by omega) (fin _ (by simp))

def intV : V → Bool
  | .int _ => true
  | _ => false
def geV (lo : Int) : V → Bool
  | .int i => decide (lo ≤ i)
  | _ => false
def rngV (lo hi : Int) : V → Bool
  | .int i => decide (lo ≤ i) && decide (i ≤ hi)
  | _ => false
theorem intV_eq {v : V} (h : intV v = true) : ∃ i, v = .int i := by
  cases v <;> first | exact ⟨_, rfl⟩ | cases h

section
variable {P : Program} {w : World} {K : PySem.W.Frag} {mg : Str → Option Value} {base : Heap}
theorem isi_int {H : Hp} {v : V} {n : String} (h : Thing H v n) : ∃ b, PySem.W.kitOne K (.type n) (.type "int") = some b ∧ ((∃ i, v = .int i ∧ b = true) ∨ (∃ c, v = .bl c ∧ b = true) ∨ (intV v = false ∧ b = false)) := by
  cases h with
  | non => exact ⟨false, kit_ty (by decide +kernel), .inr (.inr ⟨rfl, rfl⟩)⟩
  | bl b => exact ⟨true, kit_ty (by decide +kernel), .inr (.inl ⟨b, rfl, rfl⟩)⟩
  | int i => exact ⟨true, kit_ty (by decide +kernel), .inl ⟨i, rfl, rfl⟩⟩
  | str z h => exact ⟨false, kit_ty (by decide +kernel), .inr (.inr ⟨rfl, rfl⟩)⟩
  | lst h => exact ⟨false, kit_ty (by decide +kernel), .inr (.inr ⟨rfl, rfl⟩)⟩
  | tup h => exact ⟨false, kit_ty (by decide +kernel), .inr (.inr ⟨rfl, rfl⟩)⟩
  | dct h => exact ⟨false, kit_ty (by decide +kernel), .inr (.inr ⟨rfl, rfl⟩)⟩
def sp_V (f : V → Bool) : Sp := fun vs H Q _ => ∃ v n, vs = [v] ∧ Thing H v n ∧ ∀ H', Keep [] H H' → Q (.bl (f v)) H'
theorem p_is_number (T : Txt K mg) : Pr P w K mg base "is_number" s_is_number ["thing"] 1 (sp_V intV) := by
  obtain ⟨f, fd, D⟩ := T.d_is_number
  refine ⟨f, fd, D, D.F.ok sc_is_number (fun vs H Q E h => ?_) (fun cdv A outer s H vs Q E hr h => ?_)⟩
  · obtain ⟨v, n, rfl, _⟩ := h; rfl
  · obtain ⟨v, n, rfl, Tv, q⟩ := h
    refine ⟨_, (pss_one (ps_ret (pe_and (pe_callB call_isi (by rfl) T.z_isinstance (by decide +kernel) (pa_cons (pv 0) (pa_cons (pe_bltn (by rfl) T.z_int (by decide +kernel) (v := .ty "int") rfl) pa_nil))) (pe_one (pe_not (pe_callB call_isi (by rfl) T.z_isinstance (by decide +kernel) (pa_cons (pv 0) (pa_cons (pe_bltn (by rfl) T.z_bool (by decide +kernel) (v := .ty "bool") rfl) pa_nil)))))))), ?_⟩
    obtain ⟨b, eb, hb⟩ := isi_int (K := K) Tv
    refine ⟨_, rfl, v, _, _, _, b, rfl, .ty _, Tv.ty, eb, b, rfl, ?_⟩
    rcases hb with ⟨i, rfl, rfl⟩ | ⟨c, rfl, rfl⟩ | ⟨e, rfl⟩
    · refine iteT ⟨_, rfl, _, _, _, _, false, rfl, .ty _, .base (.int i), kit_ty (by decide +kernel), _, rfl, ?_⟩
      exact q _ Keep.refl
    · refine iteT ⟨_, rfl, _, _, _, _, true, rfl, .ty _, .base (.bl c), kit_ty (by decide +kernel), _, rfl, ?_⟩
      exact q _ Keep.refl
    · refine iteF ?_
      rw [e] at q; exact q _ Keep.refl
theorem p_is_count (T : Txt K mg) : Pr P w K mg base "is_count" s_is_count ["thing"] 2 (sp_V (geV 1)) := by
  obtain ⟨f, fd, D⟩ := T.d_is_count
  obtain ⟨f_is_number, fd_is_number, D_is_number, G_is_number⟩ := p_is_number (P := P) (w := w) (base := base) T
  refine ⟨f, fd, D, D.F.ok sc_is_count (fun vs H Q E h => ?_) (fun cdv A outer s H vs Q E hr h => ?_)⟩
  · obtain ⟨v, n, rfl, _⟩ := h; rfl
  · obtain ⟨v, n, rfl, Tv, q⟩ := h
    refine ⟨_, (pss_one (ps_ret (pe_and (pe_call G_is_number (hr.mono (by decide)) rfl D_is_number.m D_is_number.F.kp D_is_number.b .nil pass0 (pa_cons (pv 0) pa_nil)) (pe_one (pe_cmpR op_ge (pv 0) pe_int (nomark _)))))), ?_⟩
    refine ⟨_, rfl, v, n, rfl, Tv, fun H1 K1 => ⟨_, rfl, ite2 (fun e => ?_) (fun e => ?_)⟩⟩
    · obtain ⟨i, rfl⟩ := intV_eq e
      exact ⟨_, rfl, _, _, rfl, rfl, q _ K1⟩
    · have : geV 1 v = false := by cases v <;> first | rfl | exact absurd rfl e
      rw [this] at q; exact q _ K1
theorem p_is_amount (T : Txt K mg) : Pr P w K mg base "is_amount" s_is_amount ["thing"] 3 (sp_V (rngV 1 1000000000)) := by
  obtain ⟨f, fd, D⟩ := T.d_is_amount
  obtain ⟨f_is_count, fd_is_count, D_is_count, G_is_count⟩ := p_is_count (P := P) (w := w) (base := base) T; obtain ⟨t_MOST, g_MOST⟩ := T.g_MOST
  refine ⟨f, fd, D, D.F.ok sc_is_amount (fun vs H Q E h => ?_) (fun cdv A outer s H vs Q E hr h => ?_)⟩
  · obtain ⟨v, n, rfl, _⟩ := h; rfl
  · obtain ⟨v, n, rfl, Tv, q⟩ := h
    refine ⟨_, (pss_one (ps_ret (pe_and (pe_call G_is_count (hr.mono (by decide)) rfl D_is_count.m D_is_count.F.kp D_is_count.b .nil pass0 (pa_cons (pv 0) pa_nil)) (pe_one (pe_cmpR op_le (pv 0) (pe_glob (v := .int 1000000000) rfl g_MOST ⟨_, rfl⟩) (nomark _)))))), ?_⟩
    refine ⟨_, rfl, v, n, rfl, Tv, fun H1 K1 => ⟨_, rfl, ite2 (fun e => ?_) (fun e => ?_)⟩⟩
    · obtain ⟨i, rfl⟩ : ∃ i, v = .int i := by cases v <;> first | exact ⟨_, rfl⟩ | cases e
      have e' : decide ((1 : Int) ≤ i) = true := e
      refine ⟨_, rfl, _, _, rfl, rfl, ?_⟩
      have : rngV 1 1000000000 (.int i) = decide (i ≤ 1000000000) := by show (decide ((1 : Int) ≤ i) && _) = _; rw [e']; rfl
      rw [this] at q; exact q _ K1
    · have : rngV 1 1000000000 v = false := by
        cases v <;> first | rfl | (show (decide _ && _) = false; rw [Bool.and_eq_false_iff]; exact .inl (Bool.eq_false_iff.mpr e))
      rw [this] at q; exact q _ K1
theorem p_is_whole (T : Txt K mg) : Pr P w K mg base "is_whole" s_is_whole ["thing"] 2 (sp_V (geV 0)) := by
  obtain ⟨f, fd, D⟩ := T.d_is_whole
  obtain ⟨f_is_number, fd_is_number, D_is_number, G_is_number⟩ := p_is_number (P := P) (w := w) (base := base) T
  refine ⟨f, fd, D, D.F.ok sc_is_whole (fun vs H Q E h => ?_) (fun cdv A outer s H vs Q E hr h => ?_)⟩
  · obtain ⟨v, n, rfl, _⟩ := h; rfl
  · obtain ⟨v, n, rfl, Tv, q⟩ := h
    refine ⟨_, (pss_one (ps_ret (pe_and (pe_call G_is_number (hr.mono (by decide)) rfl D_is_number.m D_is_number.F.kp D_is_number.b .nil pass0 (pa_cons (pv 0) pa_nil)) (pe_one (pe_cmpR op_ge (pv 0) pe_int (nomark _)))))), ?_⟩
    refine ⟨_, rfl, v, n, rfl, Tv, fun H1 K1 => ⟨_, rfl, ite2 (fun e => ?_) (fun e => ?_)⟩⟩
    · obtain ⟨i, rfl⟩ := intV_eq e
      exact ⟨_, rfl, _, _, rfl, rfl, q _ K1⟩
    · have : geV 0 v = false := by cases v <;> first | rfl | exact absurd rfl e
      rw [this] at q; exact q _ K1
theorem p_is_time (T : Txt K mg) : Pr P w K mg base "is_time" s_is_time ["thing"] 3 (sp_V (geV 0)) := by
  obtain ⟨f, fd, D⟩ := T.d_is_time
  obtain ⟨f_is_whole, fd_is_whole, D_is_whole, G_is_whole⟩ := p_is_whole (P := P) (w := w) (base := base) T
  refine ⟨f, fd, D, D.F.ok sc_is_time (fun vs H Q E h => ?_) (fun cdv A outer s H vs Q E hr h => ?_)⟩
  · obtain ⟨v, n, rfl, _⟩ := h; rfl
  · obtain ⟨v, n, rfl, Tv, q⟩ := h
    exact ⟨_, (pss_one (ps_ret (pe_call G_is_whole (hr.mono (by decide)) rfl D_is_whole.m D_is_whole.F.kp D_is_whole.b .nil pass0 (pa_cons (pv 0) pa_nil)))), _, rfl, v, n, rfl, Tv, q⟩
theorem p_is_digest (T : Txt K mg) : Pr P w K mg base "is_digest" s_is_digest ["thing"] 3 (sp_V (rngV 0 1000000000000000000000000000000)) := by
  obtain ⟨f, fd, D⟩ := T.d_is_digest
  obtain ⟨f_is_whole, fd_is_whole, D_is_whole, G_is_whole⟩ := p_is_whole (P := P) (w := w) (base := base) T; obtain ⟨t_MOST_DIGEST, g_MOST_DIGEST⟩ := T.g_MOST_DIGEST
  refine ⟨f, fd, D, D.F.ok sc_is_digest (fun vs H Q E h => ?_) (fun cdv A outer s H vs Q E hr h => ?_)⟩
  · obtain ⟨v, n, rfl, _⟩ := h; rfl
  · obtain ⟨v, n, rfl, Tv, q⟩ := h
    refine ⟨_, (pss_one (ps_ret (pe_and (pe_call G_is_whole (hr.mono (by decide)) rfl D_is_whole.m D_is_whole.F.kp D_is_whole.b .nil pass0 (pa_cons (pv 0) pa_nil)) (pe_one (pe_cmpR op_le (pv 0) (pe_glob (v := .int 1000000000000000000000000000000) rfl g_MOST_DIGEST ⟨_, rfl⟩) (nomark _)))))), ?_⟩
    refine ⟨_, rfl, v, n, rfl, Tv, fun H1 K1 => ⟨_, rfl, ite2 (fun e => ?_) (fun e => ?_)⟩⟩
    · obtain ⟨i, rfl⟩ : ∃ i, v = .int i := by cases v <;> first | exact ⟨_, rfl⟩ | cases e
      have e' : decide ((0 : Int) ≤ i) = true := e
      refine ⟨_, rfl, _, _, rfl, rfl, ?_⟩
      have : rngV 0 1000000000000000000000000000000 (.int i) = decide (i ≤ 1000000000000000000000000000000) := by show (decide ((0 : Int) ≤ i) && _) = _; rw [e']; rfl
      rw [this] at q; exact q _ K1
    · have : rngV 0 1000000000000000000000000000000 v = false := by
        cases v <;> first | rfl | (show (decide _ && _) = false; rw [Bool.and_eq_false_iff]; exact .inl (Bool.eq_false_iff.mpr e))
      rw [this] at q; exact q _ K1
def sp_party : Sp := fun vs H Q _ => ∃ i : Int, vs = [.int i] ∧ (i = 0 ∨ i = 1) ∧ ∀ H', Keep [] H H' → Q (.bl true) H'
theorem p_is_party (T : Txt K mg) : Pr P w K mg base "is_party" s_is_party ["thing"] 2 sp_party := by
  obtain ⟨f, fd, D⟩ := T.d_is_party
  obtain ⟨f_is_number, fd_is_number, D_is_number, G_is_number⟩ := p_is_number (P := P) (w := w) (base := base) T
  refine ⟨f, fd, D, D.F.ok sc_is_party (fun vs H Q E h => ?_) (fun cdv A outer s H vs Q E hr h => ?_)⟩
  · obtain ⟨v, rfl, _⟩ := h; rfl
  · obtain ⟨i, rfl, hi, q⟩ := h
    refine ⟨_, (pss_one (ps_ret (pe_and (pe_call G_is_number (hr.mono (by decide)) rfl D_is_number.m D_is_number.F.kp D_is_number.b .nil pass0 (pa_cons (pv 0) pa_nil)) (pe_one (pe_cmpR op_in_seq (pv 0) (pe_tup (pa_cons pe_int (pa_cons pe_int pa_nil))) (by rfl)))))), ?_⟩
    refine ⟨_, rfl, _, _, rfl, .int i, fun H1 K1 => ⟨_, rfl, iteT ?_⟩⟩
    refine ⟨_, rfl, by show 2 ≤ sizeLine; decide, fun p hp => ⟨p, _, rfl, .inr (SqT.of upd_same), rfl, rfl, ?_⟩⟩
    have e : inV (V.int i) [V.int 0, V.int 1] = true := by
      rcases hi with rfl | rfl <;> rfl
    rw [e]
    exact q _ (K1.trans (Keep.upd_new hp))
end
end My
set_option Elab.async false
set_option maxRecDepth 100000
namespace My
open PySem PySem.Spec PyProof.Rows L2
section
variable {P : Program} {w : World} {A : Around} {E : Value → Shared → Prop} {s : Shared}
/-- a new set -/
abbrev nuSet (w : World) : Obj := { cls := .type "set", dict := none, data := .set #[] 0 (.fresh 0 0 (!w.params.followText "set-order")) }
/-- what set(..) of whole numbers has made -/
def MadeI (w : World) (ns : List Int) (s s2 : Shared) : Prop := ∃ h' tk c, s2 = { s with heap := h', toks := tk } ∧ SetR w h' s.heap.objs.size (fun j => decide (j ∈ ns)) c ∧ c ≤ ns.length ∧ ∀ b o, s.heap.get? b = some o → h'.get? b = some o
set_option maxHeartbeats 3200000 in
theorem set_of_list {l : Addr} {its : Array Value} (ns : List Int) {Q : Value → Shared → Prop} (nh : A.handled = none) (li : s.heap.IsList l its) (ia : IntsAre its.toList ns) (few : ns.length + 1 < scanBound)
    (fin : ∀ s2, MadeI w ns s s2 → Q (.ref s.heap.objs.size) s2) : wpAny (model P w) A (call (.type "set") [.ref l]) Q E s := by
  have sz : its.size = ns.length := (Array.length_toList (xs := its)).symm.trans (IntsAre.length ia)
  have C := F.called_set
  obtain ⟨_, _, _⟩ := C.mro
  have m1 := C.made; have m2 := C.sub; have m3 := C.notType; have m4 := C.canCreate; have m5 := F.typeCall_set_1 (.ref l)
  refine wpAny_call (codeAny_of_tree ?_)
  show wpAny _ _ (callAny (.type "set") _) _ _ _
  refine wpAny_pure ⟨Code.quiet_builtin _ (by decide +kernel), codeAny_builtin F.entry_type_call ?_⟩
  rw [Around.under_plain (weight_type_call_type "set" [.ref l] []) rfl]
  repeat (any_goals (first | assumption | wp_step))
  refine codeAny_mono (code_set_led1 (.ref l) (E := E) (Q₁ := fun z t => z = .ref s.heap.objs.size ∧ t = { s with heap := s.heap.push (nuSet w) }) ⟨rfl, rfl⟩) fun r t hr => ?_
  rcases r with e | (_ | _ | z | _)
  all_goals first | exact hr | exact hr.elim | skip
  obtain ⟨rfl, rfl⟩ := hr
  have g0 : (s.heap.push (nuSet w)).get? s.heap.objs.size = some (nuSet w) := Heap.get?_push_size _ rfl
  have g1 : Shared.TypeIs { s with heap := s.heap.push (nuSet w) } (.ref s.heap.objs.size) "set" := ⟨_, g0, rfl⟩
  have i1 := C.init.lookup; have i2 := C.init.bind (.ref s.heap.objs.size)
  repeat (any_goals (first | assumption | wp_step))
  refine codeAny_mono (codeAny_call_builtin (R := wants (fun r t => r = .none ∧ MadeI w ns s t) E) C.init.plain F.entry_set_init (check_set_init_1 g1 ?_)) fun r t hr => ?_
  · obtain ⟨ob, g2, gc, k, gd⟩ := li
    obtain ⟨_, od, _, os⟩ := ob
    simp only at gc gd
    subst gc; subst gd
    have g3 := Heap.get?_push_of_some (nuSet w) g2
    have d1 := F.sub_list_set; have d2 := F.sub_list_frozenset
    have d3 : (Value.type "list" == Value.type "dict") = false := by decide
    have g4 : (s.heap.push (nuSet w)).IsList l its := ⟨_, g3, rfl, k, rfl⟩
    unfold Builtin.«set.__init__» noKeywords Builtin.Frozenset.updateFrom
    generalize hI : pyIter = IT
    wp_walk
    subst hI
    refine wpAny_pyIter_list g4 (wpAny_bind (wpAny_runValue ?_))
    have lt : l < s.heap.objs.size := Heap.lt_size g2
    have n1 : (s.heap.push (nuSet w)).objs.size = s.heap.objs.size + 1 := Heap.size_push ..
    have n2 : l ≠ (s.heap.push (nuSet w)).objs.size := by rw [n1]; exact Nat.ne_of_lt (Nat.lt_succ_of_lt lt)
    have n3 : s.heap.objs.size ∉ [(s.heap.push (nuSet w)).objs.size, l] := by
      rw [n1]; simp only [List.mem_cons, List.not_mem_nil, or_false, not_or]; exact ⟨Nat.ne_of_lt (Nat.lt_succ_self _), Nat.ne_of_gt lt⟩
    have at_ : ∀ (i : Nat) (v : Value), its[i]? = some v → ∃ z u, ns[i]? = some z ∧ v = .int z u := fun i v hv => by
      have b : i < ns.length := sz ▸ (Array.getElem?_eq_some_iff.mp hv).1
      obtain ⟨u, e⟩ := PyProof.Rows.IntsAre.int_at ia i v (by rw [Array.getElem?_toList]; exact hv)
      have q : ns[i]? = some ns[i] := List.getElem?_eq_getElem b
      exact ⟨ns[i], u, q, by rw [e, List.getD_eq_getElem?_getD, q]; rfl⟩
    have nh3 : A.in1.in1.in1.handled = none := by simp [nh]
    refine set_update_ints (Walks.list nh3 _ l n2 its).toS s.heap.objs.size n3 ns sz few at_ (its.size - 0) 0 _ (by omega) (Nat.zero_le _) ⟨⟨_, Heap.get?_push_size _ rfl, rfl, rfl⟩, g4.push _⟩ ⟨0, Nat.le_refl 0, setR_new_at (Heap.get?_push_of_some _ g0)⟩ ?_
    rintro ⟨h2, q2, r2, tk2, o2⟩ c mv cl R
    obtain rfl : q2 = s.gens := mv.gens
    obtain rfl : r2 = s.drawn := mv.drawn
    obtain rfl : o2 = s.os := mv.os
    show wpAny _ _ _ _ _ _
    refine wpAny_pure ?_
    show wpAny _ _ (ret Value.none) _ _ _
    refine wpAny_pure ⟨rfl, h2, tk2, c, rfl, R, sz ▸ cl, fun b o e => ?_⟩
    have lb : b < s.heap.objs.size := Heap.lt_size e
    refine mv.heap b o ?_ (Heap.get?_push_of_some _ (Heap.get?_push_of_some _ e))
    rw [n1]; simp only [List.mem_cons, List.not_mem_nil, or_false, not_or]; exact ⟨Nat.ne_of_lt lb, Nat.ne_of_lt (Nat.lt_succ_of_lt lb)⟩
  · rcases r with e | (_ | _ | z | _)
    all_goals first | exact hr | exact hr.elim | skip
    obtain ⟨rfl, M⟩ := hr
    repeat (any_goals (first | assumption | wp_step))
    exact fin _ M
end
section
variable {X : Cx}
/-- set(xs) of whole numbers -/
def rSetI (K : PySem.W.Frag) (w : World) : List V → Hp → VK → Prop := fun vs H Q => ∃ (l : Addr) (ns : List Int), vs = [.ref l] ∧ SqL K H l (ns.map V.int) ∧ ns.length ≤ 1000 ∧ ∀ a n, H a = none → n ≤ ns.length → Q (.ref a) (upd H a (SetO w a (fun j => decide (j ∈ ns)) n))
theorem call_setI (hc : X.calm = true) : CallR X (.type "set") (rSetI X.K X.w) := by
  intro pins s σ H vs us Q I r h
  obtain ⟨l, ns, rfl, hl, few, q⟩ := h
  obtain rfl := Vals.ref1 r
  obtain ⟨its, rv, pl, _⟩ := I.list hl
  refine set_of_list ns (I.ok.hd hc) pl.isList (by simpa using rv.ints) (by unfold scanBound; omega) ?_
  rintro _ ⟨h2, tk, c, rfl, R, cl, k⟩
  exact ⟨.ref s.heap.objs.size, upd H s.heap.objs.size (SetO X.w s.heap.objs.size (fun j => decide (j ∈ ns)) c), I.laid (t' := tk) k (Nat.le_refl _) (setO_new R), rfl, q _ _ (I.hok.fresh (Nat.le_refl _)) cl⟩
/-- a set's name stands for its numbers: sorted(set(ns)) -/
theorem sorted_setI {w : World} {H : Hp} {a : Addr} {ns : List Int} {n : Nat} {Q : VK} (hn : n < 64) (q : ∀ (ms : List Int) (p : Addr), ms.Pairwise (· < ·) → (∀ k, k ∈ ms ↔ k ∈ ns) → H p = none → Q (.ref p) (upd H p (.lst (ms.map V.int)))) (ha : H a = some (SetO w a (fun j => decide (j ∈ ns)) n)) :
    rSortedSet w [.ref a] H Q := ⟨a, _, n, rfl, ha, hn, fun ms p so mem _ hp => q ms p so (fun k => by rw [mem k]; exact decide_eq_true_iff) hp⟩
end
end My
set_option Elab.async false
set_option maxRecDepth 100000
set_option maxHeartbeats 800000
namespace My
open PySem L2 TL
theorem iteB {c : Bool} {A B : Prop} (e : c = true) (h : A) : if c = true then A else B := by rw [if_pos e]; exact h
theorem iteN {c : Bool} {A B : Prop} (e : c = true) (h : B) : if (!c) = true then A else B := by rw [e]; exact iteF h
/-- promises in the heap -/
def prV (p : PRO) : List V := (pn p).map V.int
def Prs (H : Hp) (rs : List Addr) (ps : List PRO) : Prop := Paired (fun r p => H r = some (.tup (prV p))) rs ps
theorem Prs.keep {H H' : Hp} {rs : List Addr} {ps : List PRO} (h : Prs H rs ps) (k : Keep [] H H') : Prs H' rs ps := Paired.mapP h fun _ _ x => k _ _ x (by simp)
theorem Prs.at {H : Hp} : ∀ {rs : List Addr} {ps : List PRO} {i : Nat} {p : PRO}, Prs H rs ps → ps[i]? = some p → ∃ r, rs[i]? = some r ∧ H r = some (.tup (prV p))
  | _, _, _, _, .nil, e => by simp at e
  | _, _, 0, _, .cons r t, e => by simp at e; subst e; exact ⟨_, rfl, r⟩
  | _, _, i + 1, p, .cons _ t, e => by
    obtain ⟨r, h1, h2⟩ := Prs.at (i := i) (p := p) t (by simpa using e)
    exact ⟨r, by simpa using h1, h2⟩
theorem Prs.len {H : Hp} {rs : List Addr} {ps : List PRO} (h : Prs H rs ps) : rs.length = ps.length := Paired.length h
def stV (s : SO) (r : Addr) : List V := [.str "state", .int s.p, .int s.t, .int s.x, .int s.y, .ref r]
structure StAt (H : Hp) (a r : Addr) (rs : List Addr) (s : SO) : Prop where
  ha : H a = some (.tup (stV s r))
  hr : H r = some (.tup (rs.map V.ref))
  pr : Prs H rs s.ps
theorem StAt.keep {H H' : Hp} {a r : Addr} {rs : List Addr} {s : SO} (h : StAt H a r rs s) (k : Keep [] H H') : StAt H' a r rs s := ⟨k _ _ h.ha (by simp), k _ _ h.hr (by simp), h.pr.keep k⟩
section
variable {P : Program} {w : World} {K : PySem.W.Frag} {mg : Str → Option Value} {base : Heap}
def sp_prom : Sp := fun vs H Q _ => ∃ a p, vs = [.ref a] ∧ H a = some (.tup (prV p)) ∧ OkP p ∧ ∀ H', Keep [] H H' → Q (.bl true) H'
theorem p_is_promise (T : Txt K mg) : Pr P w K mg base "is_promise" s_is_promise ["thing"] 4 sp_prom := by
  obtain ⟨f, fd, D⟩ := T.d_is_promise
  obtain ⟨f_is_count, fd_is_count, D_is_count, G_is_count⟩ := p_is_count (P := P) (w := w) (base := base) T; obtain ⟨f_is_party, fd_is_party, D_is_party, G_is_party⟩ := p_is_party (P := P) (w := w) (base := base) T; obtain ⟨f_is_amount, fd_is_amount, D_is_amount, G_is_amount⟩ := p_is_amount (P := P) (w := w) (base := base) T; obtain ⟨f_is_digest, fd_is_digest, D_is_digest, G_is_digest⟩ := p_is_digest (P := P) (w := w) (base := base) T; obtain ⟨f_is_time, fd_is_time, D_is_time, G_is_time⟩ := p_is_time (P := P) (w := w) (base := base) T
  refine ⟨f, fd, D, D.F.ok sc_is_promise (fun vs H Q E h => ?_) (fun cdv A outer s H vs Q E hr h => ?_)⟩
  · obtain ⟨a, p, rfl, _⟩ := h; rfl
  · obtain ⟨a, p, rfl, ha, ok, q⟩ := h
    refine ⟨_, (pss_cons (ps_if (PW.pt (pw_or (pt_not (pt_val (pe_callB call_isi (by rfl) T.z_isinstance (by decide +kernel) (pa_cons (pv 0) (pa_cons (pe_bltn (by rfl) T.z_tuple (by decide +kernel) (v := .ty "tuple") rfl) pa_nil))))) (pw_or1 (pt_cmpR op_ne (pe_callB call_len_seq (by rfl) T.z_len (by decide +kernel) (pa_cons (pv 0) pa_nil)) pe_int (nomark _))))) (pss_one (ps_ret pe_bl)) pss_nil)
      (pss_cons (ps_asg (pv 0) (pg_tup rfl (pgs_cons (pg_name (i := 1) sc_is_promise.nd rfl (Or.inl rfl)) (pgs_cons (pg_name (i := 2) sc_is_promise.nd rfl (Or.inl rfl)) (pgs_cons (pg_name (i := 3) sc_is_promise.nd rfl (Or.inl rfl)) (pgs_cons (pg_name (i := 4) sc_is_promise.nd rfl (Or.inl rfl)) (pgs_cons (pg_name (i := 5) sc_is_promise.nd rfl (Or.inl rfl)) pgs_nil)))))))
      (pss_one (ps_ret (pe_and (pe_call G_is_count (hr.mono (by decide)) rfl D_is_count.m D_is_count.F.kp D_is_count.b .nil pass0 (pa_cons (pv 1) pa_nil)) (pe_and (pe_call G_is_party (hr.mono (by decide)) rfl D_is_party.m D_is_party.F.kp D_is_party.b .nil pass0 (pa_cons (pv 2) pa_nil)) (pe_and (pe_call G_is_amount (hr.mono (by decide)) rfl D_is_amount.m D_is_amount.F.kp D_is_amount.b .nil pass0 (pa_cons (pv 3) pa_nil)) (pe_and (pe_call G_is_digest (hr.mono (by decide)) rfl D_is_digest.m D_is_digest.F.kp D_is_digest.b .nil pass0 (pa_cons (pv 4) pa_nil)) (pe_one (pe_call G_is_time (hr.mono (by decide)) rfl D_is_time.m D_is_time.F.kp D_is_time.b .nil pass0 (pa_cons (pv 5) pa_nil))))))))))), ?_⟩
    refine ⟨_, rfl, _, _, _, _, true, rfl, .ty _, .base (.tup ha), kit_ty (by decide +kernel), _, rfl, iteF ?_⟩
    refine ⟨_, rfl, a, _, rfl, .inr (SqT.of ha), rfl, false, rfl, iteF ?_⟩
    refine ⟨_, rfl, a, _, rfl, SqT.of ha, rfl, _, _, rfl, _, _, rfl, _, _, rfl, _, _, rfl, _, _, rfl, rfl, ?_⟩
    refine ⟨_, rfl, _, _, rfl, .int p.m, fun H1 K1 => ⟨_, rfl, iteB (decide_eq_true ok.m1) ?_⟩⟩
    refine ⟨_, rfl, p.b, rfl, ok.b, fun H2 K2 => ⟨_, rfl, iteT ?_⟩⟩
    have ea : rngV 1 1000000000 (.int p.a) = true := by
      show (decide _ && decide _) = true
      rw [decide_eq_true ok.a1, decide_eq_true ok.a2]; rfl
    have el : rngV 0 1000000000000000000000000000000 (.int p.l) = true := by
      show (decide _ && decide _) = true
      rw [decide_eq_true ok.l0, decide_eq_true ok.l1]; rfl
    refine ⟨_, rfl, _, _, rfl, .int p.a, fun H3 K3 => ⟨_, rfl, iteB ea ?_⟩⟩
    refine ⟨_, rfl, _, _, rfl, .int p.l, fun H4 K4 => ⟨_, rfl, iteB el ?_⟩⟩
    refine ⟨_, rfl, _, _, rfl, .int p.u, fun H5 K5 => ?_⟩
    have eu : geV 0 (.int p.u) = true := decide_eq_true ok.u0
    rw [eu]
    exact q _ ((((K1.trans K2).trans K3).trans K4).trans K5)
end
end My
set_option Elab.async false
set_option maxRecDepth 100000
set_option maxHeartbeats 800000
namespace My
open PySem L2 TL
theorem all_rep (n : Nat) : (List.replicate n true).all id = true := by
  rw [List.all_eq_true]; intro x hx; exact (List.mem_replicate.mp hx).2
/-! lists of numbers as data -/
def dint (l : List Int) : List PyData := l.map PyData.int
theorem dpAll_int {K : PySem.W.Frag} {H : Hp} : ∀ l : List Int, DpAll K H (l.map V.int) (dint l)
  | [] => .nil
  | i :: r => .cons (.int i) (dpAll_int r)
theorem eqvAll_int : ∀ l m : List Int, PyData.eqvAll (dint l) (dint m) = decide (l = m)
  | [], [] => by simp [dint, PyData.eqvAll]
  | [], _ :: _ => by simp [dint, PyData.eqvAll]
  | _ :: _, [] => by simp [dint, PyData.eqvAll]
  | i :: l, j :: m => by
    have ih := eqvAll_int l m
    unfold dint at ih ⊢
    rw [List.map_cons, List.map_cons, PyData.eqvAll, ih, PyData.eqv]
    by_cases h : i = j
    · subst h; simp
    · have : (i == j) = false := beq_eq_false_iff_ne.mpr h
      rw [this]; simp [h]
theorem eqv_int (l m : List Int) : PyData.eqv (.list (dint l)) (.list (dint m)) = decide (l = m) := by rw [PyData.eqv]; exact eqvAll_int l m
theorem can_int : ∀ l : List Int, PyData.canLayAll0 (dint l) = true ∧ PyData.depthAll (dint l) = 0
  | [] => by simp [dint, PyData.canLayAll0, PyData.depthAll]
  | i :: r => by
    have ih := can_int r
    unfold dint at ih ⊢
    rw [List.map_cons, PyData.canLayAll0, PyData.depthAll, ih.1, ih.2]
    simp [PyData.canLay0, PyData.depth]
theorem shaped_int (l : List Int) : SeqAt.shaped (.list (dint l)) = true := by
  unfold SeqAt.shaped
  rw [PyData.canLay0, PyData.depth, (can_int l).1, (can_int l).2]; rfl
theorem Dp_int {K : PySem.W.Frag} {H : Hp} {a : Addr} {l : List Int} (h : SqL K H a (l.map V.int)) : Dp K H (.ref a) (.list (dint l)) := .lst h (dpAll_int l)
theorem rising_eq : ∀ {l m : List Int}, l.Pairwise (· < ·) → m.Pairwise (· < ·) → (∀ k, k ∈ l ↔ k ∈ m) → l = m := by
  intro l m hl hm h
  refine List.Perm.eq_of_pairwise (le := (· < ·)) (fun a b _ _ h1 h2 => by omega) hl hm ?_
  exact (List.perm_ext_iff_of_nodup (hl.imp fun h => Int.ne_of_lt h) (hm.imp fun h => Int.ne_of_lt h)).mpr h
section
variable {P : Program} {w : World} {K : PySem.W.Frag} {mg : Str → Option Value} {base : Heap}
theorem noArg {σ : L2.St} {H : Hp} {F : List V → Hp → Prop} (h : F [] H) : tNil σ H F := h
def sp_proms : Sp := fun vs H Q _ => ∃ r rs ps, vs = [.ref r] ∧ H r = some (.tup (rs.map V.ref)) ∧ Prs H rs ps ∧ ps.length ≤ 4 ∧ (ps.map (·.m)).Pairwise (· < ·) ∧ (∀ p ∈ ps, OkP p) ∧ ∀ H', Keep [] H H' → Q (.bl true) H'
theorem p__are_promises (T : Txt K mg) : Pr P w K mg base "_are_promises" s__are_promises ["thing"] 5 sp_proms := by
  obtain ⟨f, fd, D⟩ := T.d__are_promises
  obtain ⟨f_is_promise, fd_is_promise, D_is_promise, G_is_promise⟩ := p_is_promise (P := P) (w := w) (base := base) T; obtain ⟨t_MOST_PROMISES, g_MOST_PROMISES⟩ := T.g_MOST_PROMISES
  refine ⟨f, fd, D, D.F.ok sc__are_promises (fun vs H Q E h => ?_) (fun cdv A outer s H vs Q E hr h => ?_)⟩
  · obtain ⟨a, b, c, rfl, _⟩ := h; rfl
  · obtain ⟨r, rs, ps, rfl, ha, pr, l4, up, ok, q⟩ := h
    have hsl : sizeLine = 16777216 := sizeLine_eq
    refine ⟨_, (pss_cons (ps_if (PW.pt (pw_or (pt_not (pt_val (pe_callB call_isi (by rfl) T.z_isinstance (by decide +kernel) (pa_cons (pv 0) (pa_cons (pe_bltn (by rfl) T.z_tuple (by decide +kernel) (v := .ty "tuple") rfl) pa_nil))))) (pw_or1 (pt_cmpR op_gt (pe_callB call_len_seq (by rfl) T.z_len (by decide +kernel) (pa_cons (pv 0) pa_nil)) (pe_glob (v := .int 4) rfl g_MOST_PROMISES ⟨_, rfl⟩) (nomark _))))) (pss_one (ps_ret pe_bl)) pss_nil)
      (pss_cons (ps_if (pt_not (pt_val (pe_callB (cr_all rfl) (by rfl) T.z_all (by decide +kernel) (pa_cons (pe_lc (own := [("promise", 2)]) (g := gName 2) (tt := tYes) rfl sc__are_promises.nd (pi_tup (pv 0)) (blkOk_by (own := [("promise", 2)]) (N := N__are_promises) (sc := defScope s__are_promises) (by decide +kernel)) (fun _ _ _ _ _ => (pg_name (i := 2) sc__are_promises.nd rfl (Or.inl rfl))) (fun _ _ _ _ _ => pts_nil) (fun _ _ _ _ _ => (pe_call G_is_promise (hr.mono (by decide)) rfl D_is_promise.m D_is_promise.F.kp D_is_promise.b .nil pass0 (pa_cons (pv 2) pa_nil)))) pa_nil)))) (pss_one (ps_ret pe_bl)) pss_nil)
      (pss_cons (ps_setLc (i := 1) (own := [("promise", 2)]) (g := gName 2) (tt := tYes) rfl sc__are_promises.nd rfl rfl (sw_true rfl rfl rfl (by decide +kernel)) (pi_tup (pv 0)) (blkOk_by (own := [("promise", 2)]) (N := N__are_promises) (sc := defScope s__are_promises) (by decide +kernel)) (fun _ _ _ _ _ => (pg_name (i := 2) sc__are_promises.nd rfl (Or.inl rfl))) (fun _ _ _ _ _ => pts_nil) (fun _ _ _ _ _ => (pe_ix (ix_tupK (K := K) rfl) (pv 2) pe_int (fun _ _ => rfl))))
      (pss_one (ps_ret (pe_cmpR (op_eqD hr.units) (pv 1) (pe_callB (cr_sortedSet rfl) (by rfl) T.z_sorted (by decide +kernel) (pa_cons (pe_callTy (call_setI rfl) (by rfl) T.z_set (by decide +kernel) (pa_cons (pv 1) pa_nil)) pa_nil)) (nomark _))))))), ?_⟩
    refine ⟨_, rfl, _, _, _, _, true, rfl, .ty _, .base (.tup ha), kit_ty (by decide +kernel), _, rfl, iteF ?_⟩
    have lr : (rs.map V.ref).length = ps.length := by rw [List.length_map]; exact pr.len
    refine ⟨_, rfl, r, _, rfl, .inr (SqT.of ha), _, _, rfl, rfl, _, rfl, ?_⟩
    rw [decide_eq_false (show ¬ (4 : Int) < ((rs.map V.ref).length : Nat) by omega)]
    refine iteF ?_
    refine ⟨_, rfl, r, rfl, ⟨_, SqT.of ha⟩, fun L hL => ?_⟩
    refine lc_tup (K := K) (a := r) (xs := rs.map V.ref) (fun i H6 => Keep [] H H6 ∧ H6 L = some (.lst ((List.replicate i true).map V.bl))) ⟨Keep.upd_new hL, upd_same⟩ (fun i H6 _ ⟨k, _⟩ => SqT.of (k _ _ ha (by simp))) ?_ ?_
    · rintro i x H6 hx ⟨K6, h6⟩
      have hi' : i < ps.length := by have := (List.getElem?_eq_some_iff.mp hx).1; omega
      obtain ⟨q', hq1, hq2⟩ := (pr.keep K6).at (List.getElem?_eq_getElem hi')
      rw [List.getElem?_map, hq1] at hx
      obtain rfl : V.ref q' = x := Option.some.inj hx
      refine ⟨rfl, tYes_go (yes ?_)⟩
      refine ⟨_, rfl, q', _, rfl, hq2, ok _ (List.getElem_mem hi'), fun H7 K7 => ?_⟩
      refine ⟨_, K7 _ _ h6 (by simp), ?_, (K6.trans K7).trans_new hL, ?_⟩
      · rw [List.length_map, List.length_replicate]; omega
      · rw [upd_same, List.replicate_succ', List.map_append]; rfl
    · rintro H6 ⟨K6, h6⟩
      refine ⟨L, _, rfl, SqL.of h6, _, rfl, ?_⟩
      rw [all_rep]
      refine iteF ?_
      have ha6 := K6 _ _ ha (by simp)
      have pr6 := pr.keep K6
      refine ⟨_, rfl, r, rfl, ⟨_, SqT.of ha6⟩, fun M hM => ?_⟩
      refine lc_tup (K := K) (a := r) (xs := rs.map V.ref) (fun i H7 => Keep [] H6 H7 ∧ H7 M = some (.lst (((ps.map (·.m)).take i).map V.int))) ⟨Keep.upd_new hM, upd_same⟩ (fun i H7 _ ⟨k, _⟩ => SqT.of (k _ _ ha6 (by simp))) ?_ ?_
      · rintro i x H7 hx ⟨K7, h7⟩
        have hi' : i < ps.length := by have := (List.getElem?_eq_some_iff.mp hx).1; omega
        obtain ⟨q', hq1, hq2⟩ := (pr6.keep K7).at (List.getElem?_eq_getElem hi')
        rw [List.getElem?_map, hq1] at hx
        obtain rfl : V.ref q' = x := Option.some.inj hx
        refine ⟨rfl, tYes_go (yes ?_)⟩
        have e : (ps.map (·.m))[i]? = some (ps[i]).m := by rw [List.getElem?_map, List.getElem?_eq_getElem hi']; rfl
        refine ⟨_, rfl, q', _, 0, .int (ps[i]).m, rfl, rfl, SqT.of hq2, rfl, _, h7, ?_, K7.trans_new hM, ?_⟩
        · rw [List.length_map, List.length_take, List.length_map]; omega
        · rw [upd_same, take_succ_of e, List.map_append]; rfl
      · rintro H7 ⟨K7, h7⟩
        rw [lr, show ps.length = (ps.map (·.m)).length from (List.length_map ..).symm, List.take_length] at h7
        refine ⟨_, rfl, _, rfl, M, ps.map (·.m), rfl, SqL.of h7, by rw [List.length_map]; omega, fun S n hS hn => noArg ?_⟩
        rw [List.length_map] at hn
        refine sorted_setI (a := S) (ns := ps.map (·.m)) (n := n) (by omega) (fun ms N so mem hN => ?_) upd_same
        have e := rising_eq so up mem
        subst e
        have hN : upd H7 S (SetO w S (fun j => decide (j ∈ ps.map (·.m))) n) N = none := hN
        have K8 := (Keep.upd_new (ds := []) hS (o := SetO w S (fun j => decide (j ∈ ps.map (·.m))) n)).trans (Keep.upd_new hN (o := .lst ((ps.map (·.m)).map V.int)))
        refine ⟨_, _, Dp_int (SqL.of (K8 _ _ h7 (by simp))), Dp_int (SqL.of upd_same), shaped_int _, shaped_int _, ?_⟩
        rw [eqv_int, decide_eq_true rfl]
        exact q _ ((K6.trans K7).trans K8)
def sp_stat : Sp := fun vs H Q _ => ∃ a r rs s, vs = [.ref a] ∧ StAt H a r rs s ∧ OkS s ∧ ∀ H', Keep [] H H' → Q (.bl true) H'
theorem p_is_state (T : Txt K mg) : Pr P w K mg base "is_state" s_is_state ["thing"] 6 sp_stat := by
  obtain ⟨f, fd, D⟩ := T.d_is_state
  obtain ⟨f__are_promises, fd__are_promises, D__are_promises, G__are_promises⟩ := p__are_promises (P := P) (w := w) (base := base) T; obtain ⟨f_is_whole, fd_is_whole, D_is_whole, G_is_whole⟩ := p_is_whole (P := P) (w := w) (base := base) T; obtain ⟨f_is_count, fd_is_count, D_is_count, G_is_count⟩ := p_is_count (P := P) (w := w) (base := base) T; obtain ⟨t_MOST_OF_ONE, g_MOST_OF_ONE⟩ := T.g_MOST_OF_ONE
  refine ⟨f, fd, D, D.F.ok sc_is_state (fun vs H Q E h => ?_) (fun cdv A outer s H vs Q E hr h => ?_)⟩
  · obtain ⟨a, b, c, d, rfl, _⟩ := h; rfl
  · obtain ⟨a, r, rs, st, rfl, SA, ok, q⟩ := h
    have hsl : sizeLine = 16777216 := sizeLine_eq
    have ha := SA.ha
    refine ⟨_, (pss_cons (ps_if (PW.pt (pw_or (pt_not (pt_val (pe_callB call_isi (by rfl) T.z_isinstance (by decide +kernel) (pa_cons (pv 0) (pa_cons (pe_bltn (by rfl) T.z_tuple (by decide +kernel) (v := .ty "tuple") rfl) pa_nil))))) (pw_or1 (pt_cmpR op_ne (pe_callB call_len_seq (by rfl) T.z_len (by decide +kernel) (pa_cons (pv 0) pa_nil)) pe_int (nomark _))))) (pss_one (ps_ret pe_bl)) pss_nil)
      (pss_cons (ps_asg (pv 0) (pg_tup rfl (pgs_cons (pg_name (i := 1) sc_is_state.nd rfl (Or.inl rfl)) (pgs_cons (pg_name (i := 2) sc_is_state.nd rfl (Or.inl rfl)) (pgs_cons (pg_name (i := 3) sc_is_state.nd rfl (Or.inl rfl)) (pgs_cons (pg_name (i := 4) sc_is_state.nd rfl (Or.inl rfl)) (pgs_cons (pg_name (i := 5) sc_is_state.nd rfl (Or.inl rfl)) (pgs_cons (pg_name (i := 6) sc_is_state.nd rfl (Or.inl rfl)) pgs_nil))))))))
      (pss_cons (ps_if (PW.pt (pw_or (pt_cmpR (op_neStr hr.units) (pv 1) pe_str (nomark _)) (pw_or (pt_not (pt_val (pe_call G_is_count (hr.mono (by decide)) rfl D_is_count.m D_is_count.F.kp D_is_count.b .nil pass0 (pa_cons (pv 2) pa_nil)))) (pw_or1 (pt_not (pt_val (pe_call G_is_whole (hr.mono (by decide)) rfl D_is_whole.m D_is_whole.F.kp D_is_whole.b .nil pass0 (pa_cons (pv 3) pa_nil)))))))) (pss_one (ps_ret pe_bl)) pss_nil)
      (pss_cons (ps_if (pt_not (pt_val (pe_callB (cr_all rfl) (by rfl) T.z_all (by decide +kernel) (pa_cons (pe_lc (own := [("has", 7)]) (g := gName 7) (tt := tYes) rfl sc_is_state.nd (pi_tup (pe_tup (pa_cons (pv 4) (pa_cons (pv 5) pa_nil)))) (blkOk_by (own := [("has", 7)]) (N := N_is_state) (sc := defScope s_is_state) (by decide +kernel)) (fun _ _ _ _ _ => (pg_name (i := 7) sc_is_state.nd rfl (Or.inl rfl))) (fun _ _ _ _ _ => pts_nil) (fun _ _ _ _ _ => (pe_and (pe_call G_is_whole (hr.mono (by decide)) rfl D_is_whole.m D_is_whole.F.kp D_is_whole.b .nil pass0 (pa_cons (pv 7) pa_nil)) (pe_one (pe_cmpR op_le (pv 7) (pe_glob (v := .int 10000000000) rfl g_MOST_OF_ONE ⟨_, rfl⟩) (nomark _)))))) pa_nil)))) (pss_one (ps_ret pe_bl)) pss_nil)
      (pss_one (ps_ret (pe_call G__are_promises (hr.mono (by decide)) rfl D__are_promises.m D__are_promises.F.kp D__are_promises.b .nil pass0 (pa_cons (pv 6) pa_nil)))))))), ?_⟩
    refine ⟨_, rfl, _, _, _, _, true, rfl, .ty _, .base (.tup ha), kit_ty (by decide +kernel), _, rfl, iteF ?_⟩
    refine ⟨_, rfl, a, _, rfl, .inr (SqT.of ha), rfl, false, rfl, iteF ?_⟩
    refine ⟨_, rfl, a, _, rfl, SqT.of ha, rfl, _, _, rfl, _, _, rfl, _, _, rfl, _, _, rfl, _, _, rfl, _, _, rfl, rfl, ?_⟩
    refine ⟨_, rfl, "str", _, .str "state" (by show 5 ≤ sizeLine; decide), rfl, _, rfl, ?_⟩
    refine iteNS rfl ?_
    refine ⟨_, rfl, _, _, rfl, .int st.p, fun H1 K1 => ⟨_, rfl, iteN (decide_eq_true ok.p1) ?_⟩⟩
    refine ⟨_, rfl, _, _, rfl, .int st.t, fun H2 K2 => ⟨_, rfl, iteN (decide_eq_true ok.t0) ?_⟩⟩
    refine ⟨_, rfl, _, rfl, by show 2 ≤ sizeLine; decide, fun T' hT => ⟨T', rfl, ⟨_, SqT.of upd_same⟩, fun L hL => ?_⟩⟩
    have K3 : Keep [] H (upd H2 T' (.tup [.int st.x, .int st.y])) := (K1.trans K2).trans (Keep.upd_new hT)
    have hT3 : (upd H2 T' (.tup [.int st.x, .int st.y])) T' = some (.tup [.int st.x, .int st.y]) := upd_same
    generalize upd H2 T' (.tup [V.int st.x, V.int st.y]) = H3 at K3 hT3 hL
    refine lc_tup (K := K) (a := T') (xs := [.int st.x, .int st.y]) (fun i H6 => Keep [] H3 H6 ∧ H6 L = some (.lst ((List.replicate i true).map V.bl))) ⟨Keep.upd_new hL, upd_same⟩ (fun i H6 _ ⟨k, _⟩ => SqT.of (k _ _ hT3 (by simp))) ?_ ?_
    · rintro i x H6 hx ⟨K6, h6⟩
      have il : i < 2 := (List.getElem?_eq_some_iff.mp hx).1
      obtain ⟨z, rfl, z0, z1⟩ : ∃ z : Int, x = .int z ∧ 0 ≤ z ∧ z ≤ 10000000000 := by
        have hm := List.mem_of_getElem? hx
        simp only [List.mem_cons, List.not_mem_nil, or_false] at hm
        rcases hm with rfl | rfl
        · exact ⟨_, rfl, ok.x0, ok.x1⟩
        · exact ⟨_, rfl, ok.y0, ok.y1⟩
      refine ⟨rfl, tYes_go (yes ?_)⟩
      refine ⟨_, rfl, _, _, rfl, .int z, fun H7 K7 => ⟨_, rfl, iteB (decide_eq_true z0) ?_⟩⟩
      refine ⟨_, rfl, _, _, rfl, rfl, _, K7 _ _ h6 (by simp), ?_, (K6.trans K7).trans_new hL, ?_⟩
      · rw [List.length_map, List.length_replicate]; omega
      · rw [upd_same, List.replicate_succ', List.map_append, show ((fun i j : Int => V.bl (decide (i ≤ j))) z 10000000000) = V.bl true from congrArg V.bl (decide_eq_true z1)]; rfl
    · rintro H6 ⟨K6, h6⟩
      refine ⟨L, _, rfl, SqL.of h6, _, rfl, ?_⟩
      rw [all_rep]
      refine iteF ?_
      have KA := K3.trans K6
      have SB := SA.keep KA
      exact ⟨_, rfl, r, rs, st.ps, rfl, SB.hr, SB.pr, ok.len, ok.up, ok.ok, fun H7 K7 => q _ (KA.trans K7)⟩
def sp_look : Sp := fun vs H Q _ => ∃ a r rs s, vs = [.ref a] ∧ StAt H a r rs s ∧ OkS s ∧ ∀ H', Keep [] H H' → Q .non H'
theorem p__look_at (T : Txt K mg) : Pr P w K mg base "_look_at" s__look_at ["state"] 7 sp_look := by
  obtain ⟨f, fd, D⟩ := T.d__look_at
  obtain ⟨f_is_state, fd_is_state, D_is_state, G_is_state⟩ := p_is_state (P := P) (w := w) (base := base) T
  refine ⟨f, fd, D, D.F.ok sc__look_at (fun vs H Q E h => ?_) (fun cdv A outer s H vs Q E hr h => ?_)⟩
  · obtain ⟨a, b, c, d, rfl, _⟩ := h; rfl
  · obtain ⟨a, r, rs, st, rfl, SA, ok, q⟩ := h
    refine ⟨_, (pss_one (ps_if (pt_not (pt_val (pe_call G_is_state (hr.mono (by decide)) rfl D_is_state.m D_is_state.F.kp D_is_state.b .nil pass0 (pa_cons (pv 0) pa_nil)))) (pss_one ps_never) pss_nil)), ?_⟩
    exact ⟨_, rfl, a, r, rs, st, rfl, SA, ok, fun H1 K1 => ⟨_, rfl, iteF (q _ K1)⟩⟩
end
end My
set_option Elab.async false
set_option maxRecDepth 100000
set_option maxHeartbeats 800000
namespace My
open PySem L2 TL StX
theorem log_big {i : Int} (h : NumOk i) : i.natAbs.log2 < 1920 := by
  have e := BIG_eq
  obtain ⟨h0, h1⟩ := h
  by_cases z : i.natAbs = 0
  · rw [z]; decide
  · refine (Nat.log2_lt z).mpr (Nat.lt_of_lt_of_le (m := 2 ^ 140) ?_ (Nat.pow_le_pow_right (by decide) (by omega)))
    have : (2 : Nat) ^ 140 = 1393796574908163946345982392040522594123776 := by decide +kernel
    omega
theorem sum_tx : ∀ {ns : List Int}, (∀ i ∈ ns, NumOk i) → (((ns.map tx).map (·.length)).sum) ≤ 40 * ns.length
  | [], _ => Nat.zero_le _
  | i :: r, h => by
    have h1 := tx_len (h i (by simp))
    have h2 := sum_tx (ns := r) fun j hj => h j (List.mem_cons_of_mem _ hj)
    rw [List.map_cons, List.map_cons, List.sum_cons, List.length_cons, len_tl]
    omega
theorem fold_len : ∀ (ps : List PRO) (z : Str), (∀ p ∈ ps, OkP p) → (tl (ps.foldl (fun t p => t ++ rowT " /" (pn p)) z)).length ≤ (tl z).length + 220 * ps.length
  | [], z, _ => by show (tl z).length ≤ _; omega
  | p :: ps, z, hp => by
    have h1 := fold_len ps (z ++ rowT " /" (pn p)) fun q hq => hp q (List.mem_cons_of_mem _ hq)
    have h2 := row_len (h := " /") (hp p (by simp)).nums
    have e : (tl (" /" : Str)).length = 2 := by decide +kernel
    have e5 : (pn p).length = 5 := rfl
    rw [List.foldl_cons, List.length_cons]
    rw [tl_append, List.length_append] at h1
    omega
theorem numL_head : ∀ (n : Nat) (r : List Nat), numL n = 48 :: r → n = 0 := by
  intro n
  induction n using Nat.strongRecOn with
  | _ n ih =>
    intro r h
    by_cases c : n < 10
    · rw [numL_lt c] at h
      simp at h; omega
    · rw [numL_step (by omega)] at h
      have hn := numL_ne (n / 10)
      cases e : numL (n / 10) with
      | nil => exact absurd e hn
      | cons z zs =>
        rw [e, List.cons_append, List.cons.injEq] at h
        have := ih (n / 10) (by omega) zs (by rw [e, h.1])
        omega
theorem cut14 (s : SO) (r : Addr) : cutV (stV s r) (some 1) (some 5) = (sn s).map V.int := rfl
section
variable {P : Program} {w : World} {K : PySem.W.Frag} {mg : Str → Option Value} {base : Heap}
def sp_row : Sp := fun vs H Q _ => ∃ (h : Str) (a : Addr) (ns : List Int), vs = [.str h, .ref a] ∧ H a = some (.tup (ns.map V.int)) ∧ (∀ i ∈ ns, NumOk i) ∧ ns.length ≤ 10 ∧ (tl h).length ≤ 10 ∧ ∀ H', Keep [] H H' → Q (.str (rowT h ns)) H'
theorem p__row (T : Txt K mg) : Pr P w K mg base "_row" s__row ["word", "numbers"] 1 sp_row := by
  obtain ⟨f, fd, D⟩ := T.d__row
  
  refine ⟨f, fd, D, D.F.ok sc__row (fun vs H Q E h => ?_) (fun cdv A outer s H vs Q E hr h => ?_)⟩
  · obtain ⟨a, b, c, rfl, _⟩ := h; rfl
  · obtain ⟨h, a, ns, rfl, ha, hn, l10, h10, q⟩ := h
    have hsl : sizeLine = 16777216 := sizeLine_eq
    refine ⟨_, (pss_one (ps_ret (pe_join pe_str (pe_lst (pa_cons (pv 0) (pa_star (pe_lc (own := [("number", 2)]) (g := gName 2) (tt := tYes) rfl sc__row.nd (pi_tup (pv 1)) (blkOk_by (own := [("number", 2)]) (N := N__row) (sc := defScope s__row) (by decide +kernel)) (fun _ _ _ _ _ => (pg_name (i := 2) sc__row.nd rfl (Or.inl rfl))) (fun _ _ _ _ _ => pts_nil) (fun _ _ _ _ _ => (pe_callTy call_str_int (by rfl) T.z_str (by decide +kernel) (pa_cons (pv 2) pa_nil)))) pa_nil)))))), ?_⟩
    refine ⟨⟨_, rfl⟩, _, rfl, _, rfl, a, rfl, ⟨_, SqT.of ha⟩, fun L hL => ?_⟩
    refine lc_tup (K := K) (a := a) (xs := ns.map V.int) (fun i H2 => Keep [] H H2 ∧ H2 L = some (.lst (((ns.take i).map tx).map V.str))) ⟨Keep.upd_new hL, upd_same⟩ (fun i H2 _ ⟨k, _⟩ => SqT.of (k _ _ ha (by simp))) ?_ ?_
    · rintro i x H2 hx ⟨K2, h2⟩
      rw [List.getElem?_map] at hx
      obtain ⟨z, hz, rfl⟩ := Option.map_eq_some_iff.mp hx
      have zi := hn z (List.mem_of_getElem? hz)
      refine ⟨rfl, tYes_go (yes ?_)⟩
      refine ⟨_, rfl, z, rfl, log_big zi, _, h2, ?_, K2.trans_new hL, ?_⟩
      · rw [List.length_map, List.length_map, List.length_take]; omega
      · rw [upd_same, take_succ_of hz, List.map_append, List.map_append]; rfl
    · rintro H2 ⟨K2, h2⟩
      rw [List.length_map, List.take_length] at h2
      refine ⟨L, _, rfl, .inr (SqL.of h2), by simp only [List.length_cons, List.length_append, List.length_map, List.length_nil]; omega, fun M hM => ?_⟩
      have e1 : [V.str h] ++ (((ns.map tx).map V.str) ++ []) = (h :: ns.map tx).map V.str := by rw [List.append_nil]; rfl
      have s1 := sum_tx hn
      refine ⟨_, M, h :: ns.map tx, rfl, rfl, .inl (SqL.of (by rw [upd_same]; exact congrArg (fun z => some (HO.lst z)) e1)), ?_, q _ (K2.trans (Keep.upd_new hM))⟩
      rw [List.map_cons, List.sum_cons, List.length_cons, List.length_map, len_tl h]
      have e2 : (Str.ofString " ").length = 1 := by decide +kernel
      rw [e2]; omega
def sp_text : Sp := fun vs H Q _ => ∃ a r rs s, vs = [.ref a] ∧ StAt H a r rs s ∧ OkS s ∧ ∀ H', Keep [] H H' → Q (.str (textS s)) H'
theorem slA_all {H : Hp} {a : Addr} {xs : List V} {lo hi : Option Int} {Q : VK} (ha : H a = some (.tup xs)) (q : ∀ p H', Keep [] H H' → H' p = some (.tup (cutV xs lo hi)) → Q (.ref p) H') : rSlA K (.ref a) lo hi H Q := by
  refine ⟨a, xs, rfl, SqT.of ha, fun e => ?_, fun _ p hp => q p _ (Keep.upd_new hp) upd_same⟩
  refine q a H Keep.refl ?_
  have : cutV xs lo hi = xs := by
    unfold cutV
    rw [e.1, e.2, List.drop_zero, Nat.sub_zero, List.take_length]
  rw [this]; exact ha
theorem p_state_text (T : Txt K mg) : Pr P w K mg base "state_text" s_state_text ["state"] 8 sp_text := by
  obtain ⟨f, fd, D⟩ := T.d_state_text
  obtain ⟨f__row, fd__row, D__row, G__row⟩ := p__row (P := P) (w := w) (base := base) T; obtain ⟨f__look_at, fd__look_at, D__look_at, G__look_at⟩ := p__look_at (P := P) (w := w) (base := base) T
  refine ⟨f, fd, D, D.F.ok sc_state_text (fun vs H Q E h => ?_) (fun cdv A outer s H vs Q E hr h => ?_)⟩
  · obtain ⟨a, b, c, d, rfl, _⟩ := h; rfl
  · obtain ⟨a, r, rs, st, rfl, SA, ok, q⟩ := h
    have hsl : sizeLine = 16777216 := sizeLine_eq
    refine ⟨_, (pss_cons (ps_expr (pe_call G__look_at (hr.mono (by decide)) rfl D__look_at.m D__look_at.F.kp D__look_at.b .nil pass0 (pa_cons (pv 0) pa_nil)))
      (pss_cons (ps_set (i := 1) sc_state_text.nd rfl (Or.inl rfl) (pe_call G__row (hr.mono (by decide)) rfl D__row.m D__row.F.kp D__row.b .nil pass0 (pa_cons pe_str (pa_cons (pe_slice sl_tupA (pv 0) (po_some pe_int) (po_some pe_int)) pa_nil))))
      (pss_cons (ps_for PassesOwn.never rfl (pi_tup (pe_ix ix_tup (pv 0) pe_int (fun _ _ => rfl))) (pg_name (i := 2) sc_state_text.nd rfl (Or.inl rfl)) (pss_one (ps_set (i := 1) sc_state_text.nd rfl (Or.inl rfl) (pe_op op_add_str (pv 1) (pe_call G__row (hr.mono (by decide)) rfl D__row.m D__row.F.kp D__row.b .nil pass0 (pa_cons pe_str (pa_cons (pv 2) pa_nil)))))))
      (pss_one (ps_ret (pv 1)))))), ?_⟩
    refine ⟨_, rfl, a, r, rs, st, rfl, SA, ok, fun H1 K1 => ?_⟩
    have S1 := SA.keep K1
    refine ⟨_, rfl, _, rfl, _, rfl, slA_all S1.ha fun T' H2 K2 h2 => ?_⟩
    rw [cut14] at h2
    refine ⟨_, T', sn st, rfl, h2, ok.nums, by show 4 ≤ 10; decide, by decide +kernel, fun H3 K3 => ?_⟩
    have K13 := K2.trans K3
    have S3 := S1.keep K13
    refine ⟨_, rfl, a, _, 5, .ref r, rfl, rfl, SqT.of S3.ha, rfl, r, rfl, ⟨_, SqT.of S3.hr⟩, for_tup (K := K) (a := r) (xs := rs.map V.ref) (fun i σ H5 => Keep [] H3 H5 ∧ ∃ v, σ = [some (.ref a), some (.str ((st.ps.take i).foldl (fun t p => t ++ rowT " /" (pn p)) (rowT "state" (sn st)))), v]) ⟨Keep.refl, none, rfl⟩ (fun i σ H5 _ ⟨k, _⟩ => SqT.of (k _ _ S3.hr (by simp))) ?_ ?_⟩
    · rintro i x σ H5 hx ⟨K5, v, rfl⟩
      have hi : i < st.ps.length := by have := (List.getElem?_eq_some_iff.mp hx).1; rw [List.length_map] at this; have := S3.pr.len; omega
      obtain ⟨q', hq1, hq2⟩ := (S3.pr.keep K5).at (List.getElem?_eq_getElem hi)
      rw [List.getElem?_map, hq1] at hx
      obtain rfl : V.ref q' = x := Option.some.inj hx
      have op := ok.ok _ (List.getElem_mem hi)
      refine ⟨_, rfl, _, rfl, _, q', pn st.ps[i], rfl, hq2, op.nums, by show 5 ≤ 10; decide, by decide +kernel, fun H6 K6 => ?_⟩
      have l1 := fold_len (st.ps.take i) (rowT "state" (sn st)) fun p hp => ok.ok p (List.mem_of_mem_take hp)
      have l2 := row_len (h := "state") ok.nums
      have l3 := row_len (h := " /") op.nums
      have e1 : (tl ("state" : Str)).length = 5 := by decide +kernel
      have e2 : (tl (" /" : Str)).length = 2 := by decide +kernel
      have e4 : (sn st).length = 4 := rfl
      have e5 : (pn st.ps[i]).length = 5 := rfl
      have := ok.len
      rw [List.length_take] at l1
      refine ⟨_, _, rfl, rfl, by rw [len_tl, len_tl]; omega, K5.trans K6, some (.ref q'), ?_⟩
      rw [take_succ_of (List.getElem?_eq_getElem hi), List.foldl_append]; rfl
    · rintro σ H5 ⟨K5, v, rfl⟩
      rw [List.length_map, S3.pr.len, List.take_length]
      exact ⟨_, rfl, q _ ((K1.trans K13).trans K5)⟩
theorem figs (c : Nat) (h : 48 ≤ c ∧ c ≤ 57) : decide (c ∈ tl ("0123456789" : Str)) = true := by
  have e : tl ("0123456789" : Str) = (List.range 10).map (48 + ·) := by decide +kernel
  rw [e]
  exact decide_eq_true (List.mem_map.mpr ⟨c - 48, List.mem_range.mpr (by omega), by omega⟩)
def sp_num : Sp := fun vs H Q _ => ∃ i : Int, vs = [.str (tx i)] ∧ NumOk i ∧ ∀ H', Keep [] H H' → Q (.int i) H'
theorem p_read_number (T : Txt K mg) : Pr P w K mg base "read_number" s_read_number ["word"] 1 sp_num := by
  obtain ⟨f, fd, D⟩ := T.d_read_number
  obtain ⟨t_MOST_FIGURES, g_MOST_FIGURES⟩ := T.g_MOST_FIGURES; obtain ⟨t_FIGURES, g_FIGURES⟩ := T.g_FIGURES
  refine ⟨f, fd, D, D.F.ok sc_read_number (fun vs H Q E h => ?_) (fun cdv A outer s H vs Q E hr h => ?_)⟩
  · obtain ⟨i, rfl, _⟩ := h; rfl
  · obtain ⟨i, rfl, ni, q⟩ := h
    have hsl : sizeLine = 16777216 := sizeLine_eq
    have l40 := tx_len ni
    have ez := tl_tx ni.1
    have lne := tx_ne ni.1
    have lz := len_tl (tx i)
    have l1 : 1 ≤ (tl (tx i)).length := List.length_pos_iff.mpr lne
    refine ⟨_, (pss_cons (ps_if (PW.pt (pw_or (pt_not (pt_chain op_le op_le pe_int (pe_callB call_len (by rfl) T.z_len (by decide +kernel) (pa_cons (pv 0) pa_nil)) (pe_glob (v := .int 900) rfl g_MOST_FIGURES ⟨_, rfl⟩))) (pw_or1 (pt_not (pt_val (pe_callB (cr_all rfl) (by rfl) T.z_all (by decide +kernel) (pa_cons (pe_lc (own := [("sign", 1)]) (g := gName 1) (tt := tYes) rfl sc_read_number.nd (pi_str (pv 0)) (blkOk_by (own := [("sign", 1)]) (N := N_read_number) (sc := defScope s_read_number) (by decide +kernel)) (fun _ _ _ _ _ => (pg_name (i := 1) sc_read_number.nd rfl (Or.inl rfl))) (fun _ _ _ _ _ => pts_nil) (fun _ _ _ _ _ => (pe_cmpR op_in_sign (pv 1) (pe_glob (v := .str "0123456789") rfl g_FIGURES ⟨_, rfl⟩) (by rfl)))) pa_nil))))))) (pss_one (ps_ret pe_non)) pss_nil)
      (pss_cons (ps_if (PW.pt (pw_and (pt_cmpR op_eq (pe_item_str (pv 0) pe_int (fun _ _ => rfl)) pe_str (nomark _)) (pw_and1 (pt_cmpR op_ne (pv 0) pe_str (nomark _))))) (pss_one (ps_ret pe_non)) pss_nil)
      (pss_one (ps_ret (pe_callTy call_int_str (by rfl) T.z_int (by decide +kernel) (pa_cons (pv 0) pa_nil)))))), ?_⟩
    refine ⟨_, rfl, _, _, rfl, ⟨by omega, rfl⟩, ?_⟩
    refine ⟨_, _, rfl, rfl, _, rfl, iteB (decide_eq_true (by omega)) ⟨_, _, rfl, rfl, _, rfl, ?_⟩⟩
    refine iteN (decide_eq_true (by omega)) ?_
    refine ⟨_, rfl, _, rfl, fun L hL => lc_it walk_str (fun j H4 => Keep [] H H4 ∧ H4 L = some (.lst ((List.replicate j true).map V.bl))) ⟨Keep.upd_new hL, upd_same⟩ (fun _ _ _ _ => trivial) ?_ ?_⟩
    · rintro j x H4 H5 hj ⟨K4, h4⟩ ⟨rfl, ch, hch, rfl⟩
      have e : (tl (tx i))[j]? = some ch := by rw [← hch]; exact (Array.getElem?_toList).symm ▸ rfl
      have hd : 48 ≤ ch ∧ ch ≤ 57 := by
        have hm := List.mem_of_getElem? e
        rw [ez] at hm
        exact numL_digits _ ch hm
      have jl := (List.getElem?_eq_some_iff.mp e).1
      refine ⟨rfl, tYes_go (yes ⟨_, rfl, ch, _, rfl, rfl, _, h4, ?_, K4.trans_new hL, ?_⟩)⟩
      · rw [List.length_map, List.length_replicate]; omega
      · rw [upd_same, List.replicate_succ', List.map_append, show decide (ch ∈ (Str.ofString "0123456789").cps.toList) = true from figs ch hd]; rfl
    · rintro H4 ⟨K4, h4⟩
      refine ⟨L, _, rfl, SqL.of h4, _, rfl, ?_⟩
      rw [all_rep]
      refine iteF ?_
      obtain ⟨c0, r0, e0⟩ : ∃ c r, tl (tx i) = c :: r := by
        cases e : tl (tx i) with
        | nil => exact absurd e lne
        | cons c r => exact ⟨c, r, rfl⟩
      have hc0 : (tx i).cps[(0 : Int).toNat]? = some c0 := by
        have : (tl (tx i))[0]? = some c0 := by rw [e0]; rfl
        rw [← this]; exact Array.getElem?_toList.symm
      have fin : ∀ H5, Keep [] H H5 → ∃ a n, [V.str (tx i)] = [V.str a] ∧ intText? a = some n ∧ a.length ≤ 640 ∧ Q (V.int n) H5 := fun H5 K5 => by
        refine ⟨tx i, i, rfl, ?_, by omega, q _ K5⟩
        have e : i = ((i.toNat : Nat) : Int) := by have := ni.1; omega
        have := int_num (n := i.toNat) (by rw [← ez]; omega)
        unfold tx
        rw [e]; exact this
      refine ⟨_, rfl, _, 0, c0, rfl, rfl, by decide, by decide, by omega, hc0, rfl, _, rfl, ?_⟩
      by_cases c48 : c0 = 48
      · have ei : i = 0 := by
          have := numL_head i.toNat r0 (by rw [← ez, e0, c48])
          have := ni.1; omega
        have et : tx i = "0" := by subst ei; decide +kernel
        have ed : decide (V.str ⟨#[c0]⟩ = V.str (Str.ofString "0")) = true := by subst c48; decide +kernel
        refine iteB ed ?_
        refine ⟨_, rfl, rfl, _, rfl, ?_⟩
        have ed2 : (!decide (V.str (tx i) = V.str (Str.ofString "0"))) = false := by rw [et]; simp
        rw [ed2]
        exact iteF ⟨_, rfl, fin _ K4⟩
      · have ed : decide (V.str ⟨#[c0]⟩ = V.str (Str.ofString "0")) = false := by
          refine decide_eq_false fun z => c48 ?_
          injection z with z
          have := congrArg tl z
          have e2 : tl (Str.ofString "0") = [48] := by decide +kernel
          rw [e2] at this
          simpa [tl] using this
        rw [ed]
        exact iteF (iteF ⟨_, rfl, fin _ K4⟩)
end
end My
set_option Elab.async false
set_option maxRecDepth 100000
set_option maxHeartbeats 800000
namespace My
open PySem PySem.Spec PyProof.Rows L2
/-- the items of xs[lo::st], st above nought -/
def pickV (xs : List V) (lo st : Nat) : List V := (List.range ((xs.length - lo + st - 1) / st)).filterMap fun k => xs[lo + st * k]?
theorem vals_pick {xs : List V} {us : List Value} (r : Vals xs us) (f : Nat → Nat) : ∀ l : List Nat, Vals (l.filterMap fun k => xs[f k]?) (l.filterMap fun k => us[f k]?)
  | [] => .nil
  | k :: l => by
    have ih := vals_pick r f l
    have hl := r.length
    cases e : xs[f k]? with
    | none =>
      have e2 : us[f k]? = none := by
        rw [List.getElem?_eq_none_iff] at e ⊢; omega
      simp only [List.filterMap_cons, e, e2]; exact ih
    | some x =>
      obtain ⟨u, hu, ru⟩ := r.get e
      simp only [List.filterMap_cons, e, hu]
      exact .cons ru ih
theorem pick_step {its : List Value} {lo st : Nat} (h0 : 0 < st) (hlo : lo ≤ its.length) : slicePick its.toArray (some (lo : Int)) none (some (st : Int)) = ((List.range ((its.length - lo + st - 1) / st)).filterMap fun k => its[lo + st * k]?).toArray := by
  have hs : (st : Int) > 0 := by omega
  have hb : sliceBounds (some (lo : Int)) none (some (st : Int)) its.toArray.size = ((lo : Int), ((its.length : Nat) : Int), (st : Int)) := by
    unfold sliceBounds
    have e1 : ¬ ((lo : Int) < 0) := by omega
    simp only [Option.getD_some, hs, if_true, e1, if_false, List.size_toArray]
    rw [show min (lo : Int) (its.length : Nat) = (lo : Int) from by omega, show max 0 (lo : Int) = (lo : Int) from by omega]
  unfold slicePick
  rw [hb]
  show ((sliceRange (lo : Int) ((its.length : Nat) : Int) (st : Int)).filterMap fun k => its.toArray[k]?).toArray = _
  refine congrArg List.toArray ?_
  unfold sliceRange
  have ec : (if (st : Int) > 0 then (if (lo : Int) < ((its.length : Nat) : Int) then (((its.length : Nat) : Int) - (lo : Int) + (st : Int) - 1) / (st : Int) else 0) else (if (lo : Int) > ((its.length : Nat) : Int) then ((lo : Int) - ((its.length : Nat) : Int) - (st : Int) - 1) / (-(st : Int)) else 0)).toNat = (its.length - lo + st - 1) / st := by
    rw [if_pos hs]
    by_cases c : lo < its.length
    · rw [if_pos (by omega)]
      have : (((its.length : Nat) : Int) - (lo : Int) + (st : Int) - 1) = ((its.length - lo + st - 1 : Nat) : Int) := by omega
      rw [this, ← Int.natCast_ediv, Int.toNat_natCast]
    · rw [if_neg (by omega)]
      have : its.length - lo = 0 := by omega
      rw [this, Nat.zero_add, Nat.div_eq_of_lt (by omega)]; rfl
  show List.filterMap _ ((List.range _).map _) = _
  rw [ec, List.filterMap_map]
  refine congrArg (fun f => List.filterMap f _) (funext fun k => ?_)
  show its.toArray[((lo : Int) + (st : Int) * (k : Int)).toNat]? = _
  have : ((lo : Int) + (st : Int) * (k : Int)).toNat = lo + st * k := by
    rw [← Int.natCast_mul, ← Int.natCast_add, Int.toNat_natCast]
  rw [this, List.getElem?_toArray]
section
variable {X : Cx}
def tStep (K : PySem.W.Frag) (te : TE) (tl ts : TO) : TE := fun σ H Q => te σ H fun x H1 => tl σ H1 fun l H2 => ts σ H2 fun u H3 => ∃ (a : Addr) (xs : List V) (lo st : Nat), x = .ref a ∧ l = some (lo : Int) ∧ u = some (st : Int) ∧ SqL K H3 a xs ∧ 0 < st ∧ lo ≤ xs.length ∧
  ∀ p, H3 p = none → Q (.ref p) (upd H3 p (.lst (pickV xs lo st)))
theorem pe_step {e lo st : Expr} {te : TE} {tl ts : TO} {p2 pos : Pos} (he : PE X e te) (hl : L2.PO X (some lo) tl) (hs : L2.PO X (some st) ts) : PE X (.Subscript e (.Slice (some lo) none (some st) p2) pos) (tStep X.K te tl ts) := by
  refine ⟨fun pins s σ H Q I h => Subscript_ (thn (he.run pins s σ H _ I h) fun v s1 ⟨x, H1, I1, r1, q1⟩ => ?_)⟩
  refine wpAny_Slice (thn (hl.run pins s1 σ H1 _ I1 q1) fun vl s2 ⟨l, H2, I2, pl, q2⟩ => ?_)
  refine thn (po_none.run pins s2 σ H2 (fun o G => o = none ∧ G = H2) I2 ⟨rfl, rfl⟩) fun vu s3 ⟨_, _, I3, pu, rfl, rfl⟩ => ?_
  refine thn (hs.run pins s3 σ _ _ I3 q2) fun vs s4 ⟨u, H4, I4, ps, a, xs, lo', st', ex, el, eu, hx, h0, hlo, q⟩ => ?_
  subst ex; subst el; subst eu
  cases r1
  have J := I4.kept (t' := s4.toks) (h' := s4.heap.push ⟨.type "slice", none, .fields #[vl, vu, vs], #[]⟩) fun c o z => Heap.get?_push_of_some _ z
  obtain ⟨its, r, ht, hz⟩ := J.list hx
  have hlen := r.length
  refine tail_any (ops := [.ref a, .ref s4.heap.objs.size]) ht.isList.typeIs slot_list_getitem.lookup ?_ (by with_unfolding_all rfl)
  refine wpAny_getItem_list_slice ht.isList (Heap.IsSliceOf.new _ _ _ _) pl pu ps (by intro z; injection z with z; omega) ?_ (by rw [List.size_toArray]; omega)
  rw [pick_step h0 (by omega), ← hlen]
  refine ⟨.ref _, _, J.laid (t' := s4.toks) (o := .lst (pickV xs lo' st')) (fun c o z => Heap.get?_push_of_some _ z) (Nat.le_refl _) ?_, rfl, q _ (J.hok.fresh (Nat.le_refl _))⟩
  refine ⟨?_, _, 0, vals_pick r (fun k => lo' + st' * k) (List.range ((xs.length - lo' + st' - 1) / st')), Heap.get?_push_size _ rfl⟩
  unfold pickV
  refine Nat.le_trans (List.length_filterMap_le _ _) ?_
  rw [List.length_range]
  have : (xs.length - lo' + st' - 1) / st' ≤ xs.length - lo' := by
    generalize xs.length - lo' = m
    cases m with
    | zero => rw [Nat.zero_add, Nat.div_eq_of_lt (by omega)]; exact Nat.le_refl _
    | succ k =>
      refine Nat.div_le_of_le_mul ?_
      have : k ≤ st' * k := Nat.le_mul_of_pos_left _ h0
      rw [Nat.mul_add, Nat.mul_one]; omega
  omega
end
end My
set_option Elab.async false
set_option maxRecDepth 100000
set_option maxHeartbeats 800000
namespace My
open PySem L2 TL StX
section
variable {X : Cx} {K : PySem.W.Frag}
theorem sl_listK (e : X.K = K) : SlR X (rSlL K) := e ▸ sl_list
end
theorem cut_words {xs : List V} {a b : Nat} (h : b ≤ xs.length) (hab : a ≤ b) : cutV xs (some (a : Int)) (some (b : Int)) = (xs.drop a).take (b - a) := by
  unfold cutV
  rw [HT.sIx_nat, HT.sIx_nat, Nat.min_eq_left (by omega), Nat.min_eq_left (by omega)]
theorem Prs.snoc {H : Hp} {r : Addr} {p : PRO} (hr : H r = some (.tup (prV p))) : ∀ {rs : List Addr} {ps : List PRO}, Prs H rs ps → Prs H (rs ++ [r]) (ps ++ [p])
  | _, _, .nil => .cons hr .nil
  | _, _, .cons a t => .cons a (Prs.snoc hr t)
theorem Prs.keepL {H : Hp} {M : Addr} {o : HO} {ys : List V} {rs : List Addr} {ps : List PRO} (h : Prs H rs ps) (hM : H M = some (.lst ys)) : Prs (upd H M o) rs ps :=
  Paired.mapP h fun r p e => by
    rw [upd_ne (fun z => by rw [z, hM] at e; cases e)]; exact e
theorem rg_words : ∀ k : Nat, k ≤ 4 → RgC 6 ((5 + 6 * k : Nat) : Int) 6 k := by
  intro k hk
  obtain rfl | rfl | rfl | rfl | rfl : k = 0 ∨ k = 1 ∨ k = 2 ∨ k = 3 ∨ k = 4 := by omega
  all_goals exact ⟨by decide, by decide, by decide +kernel, by decide +kernel⟩
theorem words_slash {s : SO} {k : Nat} {v : V} (h : ((wordsS s).map V.str)[5 + 6 * k]? = some v) : v = .str "/" := by
  rw [List.getElem?_map] at h
  obtain ⟨w, hw, rfl⟩ := Option.map_eq_some_iff.mp h
  unfold wordsS at hw
  rw [List.getElem?_append_right (by show 5 ≤ _; omega)] at hw
  have e : 5 + 6 * k - ((("state" : Str) :: (sn s).map tx)).length = 6 * k := by show 5 + 6 * k - 5 = _; omega
  rw [e] at hw
  rw [wordsP_slash _ _ _ hw]
theorem words_prom {s : SO} {i : Nat} {p : PRO} (h : s.ps[i]? = some p) : cutV ((wordsS s).map V.str) (some ((6 + i * 6 : Nat) : Int)) (some ((6 + i * 6 + 5 : Nat) : Int)) = ((pn p).map tx).map V.str := by
  have hi := (List.getElem?_eq_some_iff.mp h).1
  rw [cut_words (by rw [List.length_map, words_len]; omega) (by omega)]
  have e1 : 6 + i * 6 + 5 - (6 + i * 6) = 5 := by omega
  rw [e1, ← List.map_drop, ← List.map_take]
  refine congrArg (List.map V.str) ?_
  unfold wordsS
  rw [List.drop_append, List.drop_eq_nil_of_le (by show 5 ≤ _; omega), List.nil_append]
  have e2 : 6 + i * 6 - ((("state" : Str) :: (sn s).map tx)).length = 6 * i + 1 := by show 6 + i * 6 - 5 = _; omega
  rw [e2]
  exact wordsP_take _ _ _ h
theorem words_head (s : SO) : cutV ((wordsS s).map V.str) (some (1 : Int)) (some (5 : Int)) = ((sn s).map tx).map V.str := by
  have := cut_words (xs := (wordsS s).map V.str) (a := 1) (b := 5) (by rw [List.length_map, words_len]; omega) (by omega)
  refine this.trans ?_
  rw [← List.map_drop, ← List.map_take]; rfl
section
variable {P : Program} {w : World} {K : PySem.W.Frag} {mg : Str → Option Value} {base : Heap}
def sp_nums : Sp := fun vs H Q _ => ∃ (l : Addr) (ns : List Int), vs = [.ref l] ∧ H l = some (.lst ((ns.map tx).map V.str)) ∧ (∀ i ∈ ns, NumOk i) ∧ ns.length ≤ 10 ∧ ∀ p H', Keep [] H H' → H' p = some (.tup (ns.map V.int)) → Q (.ref p) H'
theorem p__numbers (T : Txt K mg) : Pr P w K mg base "_numbers" s__numbers ["words"] 2 sp_nums := by
  obtain ⟨f, fd, D⟩ := T.d__numbers
  obtain ⟨f_read_number, fd_read_number, D_read_number, G_read_number⟩ := p_read_number (P := P) (w := w) (base := base) T
  refine ⟨f, fd, D, D.F.ok sc__numbers (fun vs H Q E h => ?_) (fun cdv A outer s H vs Q E hr h => ?_)⟩
  · obtain ⟨a, b, rfl, _⟩ := h; rfl
  · obtain ⟨l, ns, rfl, hl, hn, l10, q⟩ := h
    have hsl : sizeLine = 16777216 := sizeLine_eq
    refine ⟨_, (pss_one (ps_ret (pe_callTy call_tuple_of (by rfl) T.z_tuple (by decide +kernel) (pa_cons (pe_lc (own := [("word", 1)]) (g := gName 1) (tt := tYes) rfl sc__numbers.nd (pi_list (pv 0)) (blkOk_by (own := [("word", 1)]) (N := N__numbers) (sc := defScope s__numbers) (by decide +kernel)) (fun _ _ _ _ _ => (pg_name (i := 1) sc__numbers.nd rfl (Or.inl rfl))) (fun _ _ _ _ _ => pts_nil) (fun _ _ _ _ _ => (pe_call G_read_number (hr.mono (by decide)) rfl D_read_number.m D_read_number.F.kp D_read_number.b .nil pass0 (pa_cons (pv 1) pa_nil)))) pa_nil)))), ?_⟩
    refine ⟨_, rfl, l, rfl, ⟨_, SqL.of hl⟩, fun L hL => ?_⟩
    refine lc_list (K := K) (a := l) (xs := (ns.map tx).map V.str) (fun i H2 => Keep [] H H2 ∧ H2 L = some (.lst ((ns.take i).map V.int))) ⟨Keep.upd_new hL, upd_same⟩ (fun i H2 _ ⟨k, _⟩ => SqL.of (k _ _ hl (by simp))) ?_ ?_
    · rintro i x H2 hx ⟨K2, h2⟩
      rw [List.getElem?_map, List.getElem?_map] at hx
      obtain ⟨z, hz, rfl⟩ := Option.map_eq_some_iff.mp hx
      obtain ⟨j, hj, rfl⟩ := Option.map_eq_some_iff.mp hz
      refine ⟨rfl, tYes_go (yes ?_)⟩
      refine ⟨_, rfl, j, rfl, hn j (List.mem_of_getElem? hj), fun H3 K3 => ?_⟩
      refine ⟨_, K3 _ _ h2 (by simp), ?_, (K2.trans K3).trans_new hL, ?_⟩
      · rw [List.length_map, List.length_take]; omega
      · rw [upd_same, take_succ_of hj, List.map_append]; rfl
    · rintro H2 ⟨K2, h2⟩
      rw [List.length_map, List.length_map, List.take_length] at h2
      exact ⟨L, _, rfl, .inl ⟨SqL.of h2, fun p hp => q p _ (K2.trans (Keep.upd_new hp)) upd_same⟩⟩
def sp_read : Sp := fun vs H Q _ => ∃ s, vs = [.str (textS s)] ∧ OkS s ∧ ∀ a r rs H', Keep [] H H' → StAt H' a r rs s → Q (.ref a) H'
theorem p_read_state (T : Txt K mg) : Pr P w K mg base "read_state" s_read_state ["text"] 8 sp_read := by
  obtain ⟨f, fd, D⟩ := T.d_read_state
  obtain ⟨f__look_at, fd__look_at, D__look_at, G__look_at⟩ := p__look_at (P := P) (w := w) (base := base) T; obtain ⟨f__numbers, fd__numbers, D__numbers, G__numbers⟩ := p__numbers (P := P) (w := w) (base := base) T
  refine ⟨f, fd, D, D.F.ok sc_read_state (fun vs H Q E h => ?_) (fun cdv A outer s H vs Q E hr h => ?_)⟩
  · obtain ⟨a, rfl, _⟩ := h; rfl
  · obtain ⟨st, rfl, ok, q⟩ := h
    have hsl : sizeLine = 16777216 := sizeLine_eq
    have tle := text_len ok
    have wl := words_len st
    have l4 := ok.len
    refine ⟨_, (pss_cons (ps_if (pt_not (pt_val (pe_callB call_isi (by rfl) T.z_isinstance (by decide +kernel) (pa_cons (pv 0) (pa_cons (pe_bltn (by rfl) T.z_str (by decide +kernel) (v := .ty "str") rfl) pa_nil))))) (pss_one ps_never) pss_nil)
      (pss_cons (ps_set (i := 1) sc_read_state.nd rfl (Or.inr rfl) (pe_split (pv 0) pe_str))
      (pss_cons (ps_if (PW.pt (pw_or (pt_cmpR op_ne (pe_ix ix_list (pv 1) pe_int (fun _ _ => rfl)) pe_str (nomark _)) (pw_or (pt_cmpR op_ne (pe_op op_mod (pe_callB call_len_seq (by rfl) T.z_len (by decide +kernel) (pa_cons (pv 1) pa_nil)) pe_int) pe_int (nomark _)) (pw_or1 (pt_not (pt_val (pe_callB (cr_all rfl) (by rfl) T.z_all (by decide +kernel) (pa_cons (pe_lc (own := [("word", 5)]) (g := gName 5) (tt := tYes) rfl sc_read_state.nd (pi_list (pe_step (pv 1) (po_some pe_int) (po_some pe_int))) (blkOk_by (own := [("word", 5)]) (N := N_read_state) (sc := defScope s_read_state) (by decide +kernel)) (fun _ _ _ _ _ => (pg_name (i := 5) sc_read_state.nd rfl (Or.inl rfl))) (fun _ _ _ _ _ => pts_nil) (fun _ _ _ _ _ => (pe_cmpR op_eq (pv 5) pe_str (nomark _)))) pa_nil)))))))) (pss_one ps_never) pss_nil)
      (pss_cons (ps_setLc (i := 2) (own := [("at", 4)]) (g := gName 4) (tt := tYes) rfl sc_read_state.nd rfl rfl (sw_true rfl rfl rfl (by decide +kernel)) (pi_range3 rfl T.z_range (pa_cons pe_int (pa_cons (pe_callB call_len_seq (by rfl) T.z_len (by decide +kernel) (pa_cons (pv 1) pa_nil)) (pa_cons pe_int pa_nil)))) (blkOk_by (own := [("at", 4)]) (N := N_read_state) (sc := defScope s_read_state) (by decide +kernel)) (fun _ _ _ _ _ => (pg_name (i := 4) sc_read_state.nd rfl (Or.inl rfl))) (fun _ _ _ _ _ => pts_nil) (fun _ _ _ _ _ => (pe_call G__numbers (hr.mono (by decide)) rfl D__numbers.m D__numbers.F.kp D__numbers.b .nil pass0 (pa_cons (pe_slice (sl_listK (K := K) rfl) (pv 1) (po_some (pv 4)) (po_some (pe_op op_add (pv 4) pe_int))) pa_nil))))
      (pss_cons (ps_set (i := 3) sc_read_state.nd rfl (Or.inl rfl) (pe_tup (pa_cons pe_str (pa_star (pe_call G__numbers (hr.mono (by decide)) rfl D__numbers.m D__numbers.F.kp D__numbers.b .nil pass0 (pa_cons (pe_slice sl_list (pv 1) (po_some pe_int) (po_some pe_int)) pa_nil)) (pa_cons (pe_callTy call_tuple_of (by rfl) T.z_tuple (by decide +kernel) (pa_cons (pv 2) pa_nil)) pa_nil)))))
      (pss_cons (ps_expr (pe_call G__look_at (hr.mono (by decide)) rfl D__look_at.m D__look_at.F.kp D__look_at.b .nil pass0 (pa_cons (pv 3) pa_nil)))
      (pss_one (ps_ret (pv 3))))))))), ?_⟩
    refine ⟨_, rfl, _, _, _, _, true, rfl, .ty _, .base (.str _), kit_ty (by decide +kernel), _, rfl, iteF ?_⟩
    refine ⟨_, rfl, ⟨_, rfl⟩, textS st, " ", rfl, rfl, by decide +kernel, by rw [len_tl]; omega, fun W hW => ?_⟩
    rw [split_text ok]
    have K1 : Keep [] H (upd H W (.lst ((wordsS st).map V.str))) := Keep.upd_new hW
    have h1 : (upd H W (.lst ((wordsS st).map V.str))) W = some (.lst ((wordsS st).map V.str)) := upd_same
    generalize upd H W (.lst ((wordsS st).map V.str)) = H1 at K1 h1
    refine ⟨_, rfl, W, _, 0, .str "state", rfl, rfl, SqL.of h1, atI_nat (j := 0) rfl, rfl, _, rfl, ?_⟩
    refine iteNS rfl ?_
    refine ⟨_, rfl, W, _, rfl, .inl (SqL.of h1), _, _, rfl, rfl, (by show (0 : Int) < 6; decide), rfl, _, rfl, ?_⟩
    have e6 : (((wordsS st).map V.str).length : Int) % 6 = 5 := by rw [List.length_map, wl]; omega
    have e6' : decide (V.int ((fun i j : Int => i % j) (((wordsS st).map V.str).length : Int) 6) = V.int 5) = true := decide_eq_true (congrArg V.int e6)
    refine iteN e6' ?_
    have lw : ((wordsS st).map V.str).length = 5 + 6 * st.ps.length := by rw [List.length_map, wl]
    refine ⟨_, rfl, _, rfl, _, rfl, W, _, 5, 6, rfl, rfl, rfl, SqL.of h1, by decide, by omega, fun p hp => ⟨p, rfl, ⟨_, SqL.of upd_same⟩, fun L hL => ?_⟩⟩
    have K2 : Keep [] H (upd H1 p (.lst (pickV ((wordsS st).map V.str) 5 6))) := K1.trans (Keep.upd_new hp)
    have hp2 : (upd H1 p (.lst (pickV ((wordsS st).map V.str) 5 6))) p = some (.lst (pickV ((wordsS st).map V.str) 5 6)) := upd_same
    have h12 := Keep.upd_new (ds := []) hp (o := .lst (pickV ((wordsS st).map V.str) 5 6)) _ _ h1 (by simp)
    generalize upd H1 p (.lst (pickV ((wordsS st).map V.str) 5 6)) = H2 at K2 hp2 h12 hL
    refine lc_list (K := K) (a := p) (xs := pickV ((wordsS st).map V.str) 5 6) (fun i H6 => Keep [] H2 H6 ∧ H6 L = some (.lst ((List.replicate i true).map V.bl))) ⟨Keep.upd_new hL, upd_same⟩ (fun i H6 _ ⟨k, _⟩ => SqL.of (k _ _ hp2 (by simp))) ?_ ?_
    · rintro i x H6 hx ⟨K6, h6⟩
      have hm := List.mem_of_getElem? hx
      unfold pickV at hm
      obtain ⟨k, _, hk⟩ := List.mem_filterMap.mp hm
      have := words_slash hk
      subst this
      have il : i < (pickV ((wordsS st).map V.str) 5 6).length := (List.getElem?_eq_some_iff.mp hx).1
      have il2 : (pickV ((wordsS st).map V.str) 5 6).length ≤ 100 := by
        unfold pickV
        refine Nat.le_trans (List.length_filterMap_le _ _) ?_
        rw [List.length_range, lw]; omega
      refine ⟨rfl, tYes_go (yes ?_)⟩
      refine ⟨_, rfl, rfl, _, h6, ?_, K6.trans_new hL, ?_⟩
      · rw [List.length_map, List.length_replicate]; omega
      · rw [upd_same, List.replicate_succ', List.map_append]; rfl
    · rintro H3 ⟨K3, h3⟩
      refine ⟨L, _, rfl, SqL.of h3, _, rfl, ?_⟩
      rw [all_rep]
      refine iteF ?_
      have hW3 := K3 _ _ h12 (by simp)
      have K03 := K2.trans K3
      have rg := rg_words st.ps.length l4
      rw [← lw] at rg
      refine ⟨_, rfl, W, _, rfl, .inl (SqL.of hW3), _, _, _, st.ps.length, rfl, rg, fun M hM => ?_⟩
      refine lc_it walk_rangeC (fun i H4 => Keep [] H3 H4 ∧ ∃ rs, H4 M = some (.lst (rs.map V.ref)) ∧ Prs H4 rs (st.ps.take i)) ⟨Keep.upd_new hM, [], upd_same, .nil⟩ (fun _ _ _ _ => trivial) ?_ ?_
      · rintro i x H4 H5 hi ⟨K4, rs, h4, pr4⟩ hx
        obtain ⟨rfl, rfl⟩ := hx
        obtain ⟨p', hp'⟩ : ∃ p, st.ps[i]? = some p := ⟨_, List.getElem?_eq_getElem hi⟩
        have okp := ok.ok p' (List.mem_of_getElem? hp')
        refine ⟨rfl, tYes_go (yes ?_)⟩
        refine ⟨_, rfl, _, rfl, _, rfl, _, rfl, _, _, rfl, rfl, _, rfl, W, _, rfl, SqL.of (K4 _ _ hW3 (by simp)), fun P hP => ?_⟩
        have ec : cutV ((wordsS st).map V.str) (some (6 + (i : Int) * 6)) (some (6 + (i : Int) * 6 + 5)) = ((pn p').map tx).map V.str := by
          have := words_prom hp'
          rw [← this]
          have e1 : (6 + (i : Int) * 6) = ((6 + i * 6 : Nat) : Int) := by omega
          have e2 : (6 + (i : Int) * 6 + 5) = ((6 + i * 6 + 5 : Nat) : Int) := by omega
          rw [e2, e1]
        have hPP : (upd H5 P (.lst (cutV ((wordsS st).map V.str) (some (6 + (i : Int) * 6)) (some (6 + (i : Int) * 6 + 5))))) P = some (.lst (((pn p').map tx).map V.str)) := by rw [upd_same, ec]
        have KP := Keep.upd_new (ds := []) hP (o := .lst (cutV ((wordsS st).map V.str) (some (6 + (i : Int) * 6)) (some (6 + (i : Int) * 6 + 5))))
        refine ⟨P, pn p', rfl, hPP, okp.nums, by show 5 ≤ 10; decide, fun q' H7 K7 h7 => ?_⟩
        have K57 := KP.trans K7
        have h47 := K57 _ _ h4 (by simp)
        have pr7 := (pr4.keep K57).snoc h7
        refine ⟨_, h47, ?_, (K4.trans K57).trans_new hM, rs ++ [q'], ?_, ?_⟩
        · rw [List.length_map, pr4.len, List.length_take]; omega
        · rw [upd_same, List.map_append]; rfl
        · rw [take_succ_of hp']; exact pr7.keepL h47
      · rintro H4 ⟨K4, rs, h4, pr4⟩
        rw [List.take_length] at pr4
        have K04 := K03.trans K4
        refine ⟨_, rfl, _, rfl, _, rfl, W, _, rfl, SqL.of (K4 _ _ hW3 (by simp)), fun P hP => ?_⟩
        have hPP : (upd H4 P (.lst (cutV ((wordsS st).map V.str) (some (1 : Int)) (some (5 : Int))))) P = some (.lst (((sn st).map tx).map V.str)) := by rw [upd_same, words_head]
        have KP := Keep.upd_new (ds := []) hP (o := .lst (cutV ((wordsS st).map V.str) (some (1 : Int)) (some (5 : Int))))
        refine ⟨P, sn st, rfl, hPP, ok.nums, by show 4 ≤ 10; decide, fun t1 H7 K7 h7 => ?_⟩
        have K47 := KP.trans K7
        refine ⟨t1, _, rfl, .inl (SqT.of h7), ?_⟩
        refine ⟨_, rfl, M, _, rfl, .inl ⟨SqL.of (K47 _ _ h4 (by simp)), fun r hr8 => ?_⟩⟩
        refine noArg ⟨by show 6 ≤ sizeLine; omega, fun a ha9 => ?_⟩
        have K78 : Keep [] H7 (upd (upd H7 r (.tup (rs.map V.ref))) a (.tup (stV st r))) := (Keep.upd_new hr8).trans (Keep.upd_new ha9)
        have SA : StAt (upd (upd H7 r (.tup (rs.map V.ref))) a (.tup (stV st r))) a r rs st :=
          ⟨upd_same, Keep.upd_new (ds := []) ha9 _ _ upd_same (by simp), (pr4.keep K47).keep K78⟩
        have K08 := (K04.trans K47).trans K78
        exact ⟨_, rfl, a, r, rs, st, rfl, SA, ok, fun H9 K9 => ⟨_, rfl, q a r rs H9 (K08.trans K9) (SA.keep K9)⟩⟩
end
end My
set_option Elab.async false
set_option maxRecDepth 100000
set_option maxHeartbeats 800000
namespace My
open PySem L2 TL StX
theorem Prs.keepD {H H' : Hp} {ds : List Addr} {rs : List Addr} {ps : List PRO} (h : Prs H rs ps) (k : Keep ds H H') (hd : ∀ b ∈ ds, ∀ xs, H b ≠ some (.tup xs)) : Prs H' rs ps :=
  Paired.mapP h fun r p x => k _ _ x fun z => hd r z _ x
theorem DrawAt.notup {H : Hp} {d c : Addr} (D : DrawAt H d c) : ∀ b ∈ [d, c], ∀ xs, H b ≠ some (.tup xs) := by
  obtain ⟨ns, k, l, h1, h2, _⟩ := D
  intro b hb xs e
  rcases List.mem_cons.mp hb with rfl | hb
  · rw [h1] at e; cases e
  · rw [List.mem_singleton] at hb; subst hb
    rw [h2] at e; cases e
theorem DrawAt.ntup {H : Hp} {d c p : Addr} {xs : List V} (D : DrawAt H d c) (h : H p = some (.tup xs)) : p ∉ [d, c] := fun z => D.notup p z xs h
theorem DrawAt.nnew {H : Hp} {d c p : Addr} (D : DrawAt H d c) (h : H p = none) : p ∉ [d, c] := by
  obtain ⟨a, b⟩ := D.new h
  simp only [List.mem_cons, List.not_mem_nil, or_false, not_or]
  exact ⟨a.symm, b.symm⟩
theorem pick_new {H : Hp} {d c a : Addr} {xs : List V} (D : DrawAt H d c) (ha : H a = none) : PickV (upd H a (.lst xs)) d c (.ref a) xs := .inl ⟨a, rfl, D.nnew ha, .inl upd_same⟩
/-- a promise of the law's own -/
structure OwnP (p : PRO) : Prop where
  ok : OkP p
  m : p.m ≤ 100000000000000
  u : p.u ≤ 100000000000000000000
structure OwnS (s : SO) : Prop where
  ok : OkS s
  p : s.p ≤ 100000000000000000001
  t : s.t ≤ 100000000000000000000
  ps : ∀ p ∈ s.ps, OwnP p
section
variable {P : Program} {w : World} {K : PySem.W.Frag} {mg : Str → Option Value} {base : Heap}
def sp_proml : Sp := fun vs H Q _ => ∃ d c, vs = [.ref d, .int 4] ∧ DrawAt H d c ∧ ∀ r rs ps H', H' r = some (.tup (rs.map V.ref)) → Prs H' rs ps → ps.length ≤ 4 → (ps.map (·.m)).Pairwise (· < ·) → (∀ p ∈ ps, OwnP p) → DrawAt H' d c → Keep [d, c] H H' → Q (.ref r) H'
theorem p__law_promises (T : Txt K mg) : Pr P w K mg base "_law_promises" s__law_promises ["draw", "most"] 3 sp_proml := by
  obtain ⟨f, fd, D⟩ := T.d__law_promises
  obtain ⟨f__law_take, fd__law_take, D__law_take, G__law_take⟩ := p__law_take (P := P) (w := w) (base := base) T; obtain ⟨f__law_pick, fd__law_pick, D__law_pick, G__law_pick⟩ := p__law_pick (P := P) (w := w) (base := base) T
  refine ⟨f, fd, D, D.F.ok sc__law_promises (fun vs H Q E h => ?_) (fun cdv A outer s H vs Q E hr h => ?_)⟩
  · obtain ⟨d, c, rfl, _⟩ := h; rfl
  · obtain ⟨d, c, rfl, D0, q⟩ := h
    have hsl : sizeLine = 16777216 := sizeLine_eq
    refine ⟨_, (pss_cons (ps_par (i := 2) (j := 3) (by rfl) sc__law_promises.nd rfl rfl (by decide) rfl rfl (pa_cons (pe_lst pa_nil) (pa_cons pe_int pa_nil)) (by rfl))
      (pss_cons (ps_for PassesOwn.never rfl (pi_range1 rfl T.z_range (pa_cons (pe_call G__law_take (hr.mono (by decide)) rfl D__law_take.m D__law_take.F.kp D__law_take.b .nil pass0 (pa_cons (pv 0) (pa_cons (pe_op op_add (pv 1) pe_int) pa_nil))) pa_nil)) (pg_name (i := 4) sc__law_promises.nd rfl (Or.inl rfl)) (pss_cons (ps_set (i := 3) sc__law_promises.nd rfl (Or.inl rfl) (pe_op op_add (pe_op op_add (pv 3) pe_int) (pe_call G__law_pick (hr.mono (by decide)) rfl D__law_pick.m D__law_pick.F.kp D__law_pick.b .nil pass0 (pa_cons (pv 0) (pa_cons (pe_lst (pa_cons pe_int (pa_cons pe_int (pa_cons (pe_call G__law_take (hr.mono (by decide)) rfl D__law_take.m D__law_take.F.kp D__law_take.b .nil pass0 (pa_cons (pv 0) (pa_cons pe_int pa_nil))) (pa_cons (pe_op op_pow pe_int pe_int) pa_nil))))) pa_nil)))))
      (pss_cons (ps_set (i := 5) sc__law_promises.nd rfl (Or.inl rfl) (pe_call G__law_pick (hr.mono (by decide)) rfl D__law_pick.m D__law_pick.F.kp D__law_pick.b .nil pass0 (pa_cons (pv 0) (pa_cons (pe_lst (pa_cons pe_int (pa_cons (pe_op op_pow pe_int pe_int) (pa_cons (pe_op op_add pe_int (pe_call G__law_take (hr.mono (by decide)) rfl D__law_take.m D__law_take.F.kp D__law_take.b .nil pass0 (pa_cons (pv 0) (pa_cons pe_int pa_nil)))) (pa_cons (pe_op op_add pe_int (pe_call G__law_take (hr.mono (by decide)) rfl D__law_take.m D__law_take.F.kp D__law_take.b .nil pass0 (pa_cons (pv 0) (pa_cons (pe_op op_pow pe_int pe_int) pa_nil)))) pa_nil))))) pa_nil))))
      (pss_cons (ps_set (i := 6) sc__law_promises.nd rfl (Or.inl rfl) (pe_call G__law_pick (hr.mono (by decide)) rfl D__law_pick.m D__law_pick.F.kp D__law_pick.b .nil pass0 (pa_cons (pv 0) (pa_cons (pe_lst (pa_cons pe_int (pa_cons (pe_op op_pow pe_int pe_int) (pa_cons (pe_call G__law_take (hr.mono (by decide)) rfl D__law_take.m D__law_take.F.kp D__law_take.b .nil pass0 (pa_cons (pv 0) (pa_cons pe_int pa_nil))) (pa_cons (pe_call G__law_take (hr.mono (by decide)) rfl D__law_take.m D__law_take.F.kp D__law_take.b .nil pass0 (pa_cons (pv 0) (pa_cons (pe_op op_pow pe_int pe_int) pa_nil))) pa_nil))))) pa_nil))))
      (pss_one (ps_expr (pe_bm PySem.F.plainAttrs_list PySem.F.slot_list_append PySem.F.type_list_append mt_append (pv 2) (pa_cons (pe_tup (pa_cons (pv 3) (pa_cons (pe_call G__law_take (hr.mono (by decide)) rfl D__law_take.m D__law_take.F.kp D__law_take.b .nil pass0 (pa_cons (pv 0) (pa_cons pe_int pa_nil))) (pa_cons (pv 5) (pa_cons (pv 6) (pa_cons (pe_call G__law_pick (hr.mono (by decide)) rfl D__law_pick.m D__law_pick.F.kp D__law_pick.b .nil pass0 (pa_cons (pv 0) (pa_cons (pe_lst (pa_cons pe_int (pa_cons (pe_call G__law_take (hr.mono (by decide)) rfl D__law_take.m D__law_take.F.kp D__law_take.b .nil pass0 (pa_cons (pv 0) (pa_cons pe_int pa_nil))) (pa_cons (pe_op op_pow pe_int pe_int) pa_nil)))) pa_nil))) pa_nil)))))) pa_nil))))))))
      (pss_one (ps_ret (pe_callTy call_tuple_of (by rfl) T.z_tuple (by decide +kernel) (pa_cons (pv 2) pa_nil)))))), ?_⟩
    refine ⟨Nat.zero_le _, fun p hp => ?_⟩
    have D1 := D0.keep (Keep.upd_new (ds := []) hp (o := .lst []))
    refine ⟨_, _, rfl, _, rfl, _, rfl, _, _, rfl, rfl, d, c, _, rfl, D1, by decide, by decide, fun m H1 m0 m1 D2 K2 => ?_⟩
    have np := D0.nnew hp
    have hp2 := K2 _ _ upd_same np
    refine ⟨m, rfl, by omega, by omega, ?_⟩
    have K02 : Keep [d, c] H H1 := (Keep.upd_new hp).trans K2
    refine for_range (lo := 0) (n := m.toNat) (fun i σ H2 => DrawAt H2 d c ∧ Keep [d, c] H H2 ∧ ∃ (rs : List Addr) (ps : List PRO) (z : Int) (v4 v5 v6 : Option V), σ = [some (.ref d), some (.int 4), some (.ref p), some (.int z), v4, v5, v6] ∧ H2 p = some (.lst (rs.map V.ref)) ∧ Prs H2 rs ps ∧ (∀ p ∈ ps, OwnP p) ∧ ps.length = i ∧ 0 ≤ z ∧ z ≤ i * 2000000000000 ∧ (∀ p ∈ ps, p.m ≤ z) ∧ (ps.map (·.m)).Pairwise (· < ·)) ⟨D2, K02, [], [], 0, none, none, none, rfl, hp2, .nil, by simp, rfl, by decide, by decide, by simp, .nil⟩ ?_ ?_
    · rintro i σ H2 hi ⟨D2, K2, rs, ps, z, v4, v5, v6, rfl, h2, pr2, op, il, z0, z1, zm, up⟩
      have np2 : p ∉ [d, c] := np
      refine ⟨_, rfl, _, _, rfl, rfl, _, rfl, _, rfl, d, c, _, rfl, D2, by decide, by decide, fun g H3 g0 g1 D3 K3 => ⟨_, _, rfl, rfl, ⟨by decide, by decide, by decide⟩, by show 4 ≤ sizeLine; omega, fun a ha => ?_⟩⟩
      refine ⟨d, c, _, _, rfl, D3.keep (Keep.upd_new (ds := []) ha), pick_new D3 ha, by show 0 < 4; decide, by show 4 < 1000000000; decide, fun v H4 hv D4 K4 => ?_⟩
      obtain ⟨n1, rfl, n10, n11⟩ : ∃ n : Int, v = .int n ∧ 0 ≤ n ∧ n ≤ 1000000000000 := by
        have e : ((fun i j : Int => V.int (i ^ j.toNat)) 10 12) = V.int 1000000000000 := by decide +kernel
        rw [e] at hv
        simp only [List.mem_cons, List.not_mem_nil, or_false] at hv
        rcases hv with rfl | rfl | rfl | rfl
        · exact ⟨_, rfl, by decide, by decide⟩
        · exact ⟨_, rfl, by decide, by decide⟩
        · exact ⟨_, rfl, g0, by omega⟩
        · exact ⟨_, rfl, by decide, by decide⟩
      have K24 : Keep [d, c] H2 H4 := (K3.trans (Keep.upd_new ha)).trans K4
      clear K3 K4 D3 ha
      refine ⟨_, _, rfl, rfl, ?_⟩
      have e9 : ((fun i j : Int => i ^ j.toNat) 10 9) = 1000000000 := by decide +kernel
      have e30 : ((fun i j : Int => i ^ j.toNat) 10 30) = 1000000000000000000000000000000 := by decide +kernel
      refine ⟨_, rfl, _, _, rfl, rfl, ⟨by decide, by decide, by decide⟩, _, rfl, d, c, _, rfl, D4, by decide, by decide, fun g2 H5 g20 g21 D5 K5 => ⟨_, _, rfl, rfl, _, rfl, _, _, rfl, rfl, ⟨by decide, by decide, by decide⟩, d, c, _, rfl, D5, by decide, by decide, fun g3 H6 g30 g31 D6 K6 => ⟨_, _, rfl, rfl, by show 4 ≤ sizeLine; omega, fun a ha => ?_⟩⟩⟩
      refine ⟨d, c, _, _, rfl, D6.keep (Keep.upd_new (ds := []) ha), pick_new D6 ha, by show 0 < 4; decide, by show 4 < 1000000000; decide, fun v H7 hv D7 K7 => ?_⟩
      obtain ⟨n2, rfl, n20, n21⟩ : ∃ n : Int, v = .int n ∧ 1 ≤ n ∧ n ≤ 1000000000 := by
        have g31 : g3 < 1000000000 := e9 ▸ g31
        have e : ((fun i j : Int => V.int (i ^ j.toNat)) 10 9) = V.int 1000000000 := by decide +kernel
        rw [e] at hv
        simp only [List.mem_cons, List.not_mem_nil, or_false] at hv
        rcases hv with rfl | rfl | rfl | rfl
        · exact ⟨_, rfl, by decide, by decide⟩
        · exact ⟨_, rfl, by decide, by decide⟩
        · exact ⟨_, rfl, by omega, by omega⟩
        · exact ⟨_, rfl, by omega, by omega⟩
      have K27 : Keep [d, c] H2 H7 := (((K24.trans K5).trans K6).trans (Keep.upd_new ha)).trans K7
      clear K24 K5 K6 K7 D4 D5 D6 ha
      refine ⟨_, rfl, _, _, rfl, rfl, ⟨by decide, by decide, by decide⟩, _, rfl, d, c, _, rfl, D7, by decide, by decide, fun g4 H8 g40 g41 D8 K8 => ⟨_, rfl, _, _, rfl, rfl, ⟨by decide, by decide, by decide⟩, d, c, _, rfl, D8, by decide, by decide, fun g5 H9 g50 g51 D9 K9 => ⟨by show 4 ≤ sizeLine; omega, fun a ha => ?_⟩⟩⟩
      refine ⟨d, c, _, _, rfl, D9.keep (Keep.upd_new (ds := []) ha), pick_new D9 ha, by show 0 < 4; decide, by show 4 < 1000000000; decide, fun v H10 hv D10 K10 => ?_⟩
      obtain ⟨n3, rfl, n30, n31⟩ : ∃ n : Int, v = .int n ∧ 0 ≤ n ∧ n ≤ 1000000000000000000000000000000 := by
        have g51 : g5 < 1000000000000000000000000000000 := e30 ▸ g51
        have e : ((fun i j : Int => V.int (i ^ j.toNat)) 10 30) = V.int 1000000000000000000000000000000 := by decide +kernel
        rw [e] at hv
        simp only [List.mem_cons, List.not_mem_nil, or_false] at hv
        rcases hv with rfl | rfl | rfl | rfl
        · exact ⟨_, rfl, by decide, by decide⟩
        · exact ⟨_, rfl, by decide, by decide⟩
        · exact ⟨_, rfl, by omega, by omega⟩
        · exact ⟨_, rfl, by omega, by omega⟩
      have K210 : Keep [d, c] H2 H10 := (((K27.trans K8).trans K9).trans (Keep.upd_new ha)).trans K10
      clear K27 K8 K9 K10 D7 D8 D9 ha
      refine ⟨_, rfl, .inl ⟨rfl, _, SqL.of (K210 _ _ h2 np2)⟩, ?_⟩
      refine ⟨_, rfl, _, rfl, d, c, _, rfl, D10, by decide, by decide, fun g6 H11 g60 g61 D11 K11 => ?_⟩
      refine ⟨_, rfl, _, rfl, _, rfl, _, rfl, d, c, _, rfl, D11, by decide, by decide, fun g7 H12 g70 g71 D12 K12 => ⟨_, _, rfl, rfl, ⟨by decide, by decide, by decide⟩, by show 3 ≤ sizeLine; omega, fun a ha => ?_⟩⟩
      refine ⟨d, c, _, _, rfl, D12.keep (Keep.upd_new (ds := []) ha), pick_new D12 ha, by show 0 < 3; decide, by show 3 < 1000000000; decide, fun v H13 hv D13 K13 => ?_⟩
      obtain ⟨n5, rfl, n50, n51⟩ : ∃ n : Int, v = .int n ∧ 0 ≤ n ∧ n ≤ 100000000000000000000 := by
        have e : ((fun i j : Int => V.int (i ^ j.toNat)) 10 20) = V.int 100000000000000000000 := by decide +kernel
        rw [e] at hv
        simp only [List.mem_cons, List.not_mem_nil, or_false] at hv
        rcases hv with rfl | rfl | rfl
        · exact ⟨_, rfl, by decide, by decide⟩
        · exact ⟨_, rfl, g70, by omega⟩
        · exact ⟨_, rfl, by decide, by decide⟩
      have K213 : Keep [d, c] H2 H13 := (((K210.trans K11).trans K12).trans (Keep.upd_new ha)).trans K13
      clear K210 K11 K12 K13 D10 D11 D12 ha
      refine ⟨by show 5 ≤ sizeLine; omega, fun t ht => ?_⟩
      have ez : ((fun i j : Int => V.int (i + j)) (z + 1) n1) = V.int (z + 1 + n1) := rfl
      have hz0 : (0 : Int) ≤ (i : Nat) * 2000000000000 := by omega
      have hi4 : (i : Int) < 5 := by omega
      obtain ⟨q', hq⟩ : ∃ q' : PRO, q' = ⟨z + 1 + n1, g6, n2, n3, n5⟩ := ⟨_, rfl⟩
      have eB := BIG_eq
      have own : OwnP q' := by
        rw [hq]
        exact ⟨⟨by show 1 ≤ z + 1 + n1; omega, by show z + 1 + n1 < BIG; omega, by show g6 = 0 ∨ g6 = 1; omega, n20, n21, n30, n31, n50, by show n5 < BIG; omega⟩, by show z + 1 + n1 ≤ _; omega, n51⟩
      have K214 := K213.trans (Keep.upd_new (ds := [d, c]) ht (o := .tup (prV q')))
      have ht14 : (upd H13 t (.tup (prV q'))) t = some (.tup (prV q')) := upd_same
      have D14 := D13.keep (Keep.upd_new (ds := []) ht (o := .tup (prV q')))
      have et : HO.tup [V.int (z + 1 + n1), .int g6, .int n2, .int n3, .int n5] = .tup (prV q') := by rw [hq]; rfl
      rw [show [(fun i j : Int => V.int (i + j)) (z + 1) n1, V.int g6, V.int n2, V.int n3, V.int n5] = prV q' from by rw [hq]; rfl]
      generalize upd H13 t (HO.tup (prV q')) = H14 at K214 ht14 D14
      have h14 := K214 _ _ h2 np2
      have pr14 := (pr2.keepD K214 D2.notup).snoc ht14
      refine ⟨p, _, _, rfl, rfl, h14, by rw [List.length_map, pr2.len]; omega, ?_⟩
      have npd : d ∉ [p] ∧ c ∉ [p] := by
        simp only [List.mem_cons, List.not_mem_nil, or_false, not_or] at np2 ⊢
        exact ⟨fun e => np2.1 e.symm, fun e => np2.2 e.symm⟩
      refine ⟨D14.keep (Keep.upd_in (ds := [p]) (by simp)) npd.1 npd.2, fun b o e hb => ?_, rs ++ [t], ps ++ [q'], z + 1 + n1, _, _, _, rfl, by rw [upd_same, List.map_append]; rfl, pr14.keepL h14, fun x hx => ?_, by simp [il], by omega, by omega, fun x hx => ?_, ?_⟩
      · rw [upd_ne (ne_of_none e hp)]; exact (K2.trans K214) b o e hb
      · rcases List.mem_append.mp hx with hx | hx
        · exact op x hx
        · rw [List.mem_singleton] at hx; subst hx; exact own
      · rcases List.mem_append.mp hx with hx | hx
        · have := zm x hx; omega
        · rw [List.mem_singleton] at hx; subst hx; rw [hq]; show z + 1 + n1 ≤ _; omega
      · rw [List.map_append]
        refine List.pairwise_append.mpr ⟨up, by simp, fun x hx y hy => ?_⟩
        obtain ⟨p', hp', rfl⟩ := List.mem_map.mp hx
        simp only [List.map_cons, List.map_nil, List.mem_singleton] at hy
        subst hy
        have := zm p' hp'
        rw [hq]; show p'.m < z + 1 + n1; omega
    · rintro σ H2 ⟨D2, K2, rs, ps, z, v4, v5, v6, rfl, h2, pr2, op, il, z0, z1, zm, up⟩
      exact ⟨_, rfl, p, _, rfl, .inl ⟨SqL.of h2, fun r hr2 => q r rs ps _ upd_same (pr2.keepD (Keep.upd_new (ds := []) hr2) (by simp)) (by omega) up op (D2.keep (Keep.upd_new (ds := []) hr2)) (K2.trans (Keep.upd_new hr2))⟩⟩
end
end My
set_option Elab.async false
set_option maxRecDepth 100000
set_option maxHeartbeats 800000
namespace My
open PySem L2 TL StX
section
variable {P : Program} {w : World} {K : PySem.W.Frag} {mg : Str → Option Value} {base : Heap}
theorem StAt.keepD {H H' : Hp} {ds : List Addr} {a r : Addr} {rs : List Addr} {s : SO} (h : StAt H a r rs s) (k : Keep ds H H') (hd : ∀ b ∈ ds, ∀ xs, H b ≠ some (.tup xs)) : StAt H' a r rs s :=
  ⟨k _ _ h.ha fun z => hd a z _ h.ha, k _ _ h.hr fun z => hd r z _ h.hr, h.pr.keepD k hd⟩
def sp_stl : Sp := fun vs H Q _ => ∃ d c, vs = [.ref d] ∧ DrawAt H d c ∧ ∀ a r rs s H', StAt H' a r rs s → OwnS s → DrawAt H' d c → Keep [d, c] H H' → Q (.ref a) H'
theorem p__law_state (T : Txt K mg) : Pr P w K mg base "_law_state" s__law_state ["draw"] 4 sp_stl := by
  obtain ⟨f, fd, D⟩ := T.d__law_state
  obtain ⟨f__law_promises, fd__law_promises, D__law_promises, G__law_promises⟩ := p__law_promises (P := P) (w := w) (base := base) T; obtain ⟨f__law_pick, fd__law_pick, D__law_pick, G__law_pick⟩ := p__law_pick (P := P) (w := w) (base := base) T; obtain ⟨f__law_take, fd__law_take, D__law_take, G__law_take⟩ := p__law_take (P := P) (w := w) (base := base) T
  refine ⟨f, fd, D, D.F.ok sc__law_state (fun vs H Q E h => ?_) (fun cdv A outer s H vs Q E hr h => ?_)⟩
  · obtain ⟨d, c, rfl, _⟩ := h; rfl
  · obtain ⟨d, c, rfl, D0, q⟩ := h
    have hsl : sizeLine = 16777216 := sizeLine_eq
    have e10 : ((fun i j : Int => i ^ j.toNat) 10 10) = 10000000000 := by decide +kernel
    refine ⟨_, (pss_cons (ps_setLc (i := 1) (own := [("k", 3)]) (g := gName 3) (tt := tYes) rfl sc__law_state.nd rfl rfl (sw_true rfl rfl rfl (by decide +kernel)) (pi_range1 rfl T.z_range (pa_cons pe_int pa_nil)) (blkOk_by (own := [("k", 3)]) (N := N__law_state) (sc := defScope s__law_state) (by decide +kernel)) (fun _ _ _ _ _ => (pg_name (i := 3) sc__law_state.nd rfl (Or.inl rfl))) (fun _ _ _ _ _ => pts_nil) (fun _ _ _ _ _ => (pe_call G__law_pick (hr.mono (by decide)) rfl D__law_pick.m D__law_pick.F.kp D__law_pick.b .nil pass0 (pa_cons (pv 0) (pa_cons (pe_lst (pa_cons pe_int (pa_cons (pe_op op_pow pe_int pe_int) (pa_cons (pe_call G__law_take (hr.mono (by decide)) rfl D__law_take.m D__law_take.F.kp D__law_take.b .nil pass0 (pa_cons (pv 0) (pa_cons pe_int pa_nil))) (pa_cons (pe_call G__law_take (hr.mono (by decide)) rfl D__law_take.m D__law_take.F.kp D__law_take.b .nil pass0 (pa_cons (pv 0) (pa_cons (pe_op op_pow pe_int pe_int) pa_nil))) pa_nil))))) pa_nil)))))
      (pss_cons (ps_set (i := 2) sc__law_state.nd rfl (Or.inl rfl) (pe_lst (pa_cons (pe_op op_add pe_int (pe_call G__law_pick (hr.mono (by decide)) rfl D__law_pick.m D__law_pick.F.kp D__law_pick.b .nil pass0 (pa_cons (pv 0) (pa_cons (pe_lst (pa_cons pe_int (pa_cons (pe_call G__law_take (hr.mono (by decide)) rfl D__law_take.m D__law_take.F.kp D__law_take.b .nil pass0 (pa_cons (pv 0) (pa_cons pe_int pa_nil))) (pa_cons (pe_op op_pow pe_int pe_int) pa_nil)))) pa_nil)))) pa_nil)))
      (pss_cons (ps_expr (pe_bm PySem.F.plainAttrs_list PySem.F.slot_list_append PySem.F.type_list_append mt_append (pv 2) (pa_cons (pe_call G__law_pick (hr.mono (by decide)) rfl D__law_pick.m D__law_pick.F.kp D__law_pick.b .nil pass0 (pa_cons (pv 0) (pa_cons (pe_lst (pa_cons pe_int (pa_cons pe_int (pa_cons (pe_call G__law_take (hr.mono (by decide)) rfl D__law_take.m D__law_take.F.kp D__law_take.b .nil pass0 (pa_cons (pv 0) (pa_cons pe_int pa_nil))) (pa_cons (pe_op op_pow pe_int pe_int) pa_nil))))) pa_nil))) pa_nil)))
      (pss_one (ps_ret (pe_tup (pa_cons pe_str (pa_cons (pe_ix ix_list (pv 2) pe_int (fun _ _ => rfl)) (pa_cons (pe_ix ix_list (pv 2) pe_int (fun _ _ => rfl)) (pa_cons (pe_ix ix_list (pv 1) pe_int (fun _ _ => rfl)) (pa_cons (pe_ix ix_list (pv 1) pe_int (fun _ _ => rfl)) (pa_cons (pe_call G__law_promises (hr.mono (by decide)) rfl D__law_promises.m D__law_promises.F.kp D__law_promises.b .nil pass0 (pa_cons (pv 0) (pa_cons pe_int pa_nil))) pa_nil)))))))))))), ?_⟩
    refine ⟨2, rfl, by decide, by decide, fun L hL => ?_⟩
    have nL := D0.nnew hL
    refine lc_range (lo := 0) (n := ((2 : Int)).toNat) (fun t H8 => DrawAt H8 d c ∧ Keep [d, c] H H8 ∧ ∃ zs : List Int, H8 L = some (.lst (zs.map V.int)) ∧ zs.length = t ∧ ∀ z ∈ zs, 0 ≤ z ∧ z ≤ 10000000000) ⟨D0.keep (Keep.upd_new (ds := []) hL), Keep.upd_new hL, [], upd_same, rfl, by simp⟩ ?_ ?_
    · rintro k H8 hk ⟨D8, K8, zs, h8, zl, zb⟩
      refine ⟨rfl, tYes_go (yes ?_)⟩
      refine ⟨_, rfl, _, _, rfl, rfl, ⟨by decide, by decide, by decide⟩, _, rfl, d, c, _, rfl, D8, by decide, by decide, fun g H9 g0 g1 D9 K9 => ⟨_, rfl, _, _, rfl, rfl, ⟨by decide, by decide, by decide⟩, d, c, _, rfl, D9, by decide, by decide, fun g2 H10 g20 g21 D10 K10 => ⟨by show 4 ≤ sizeLine; omega, fun a ha => ?_⟩⟩⟩
      refine ⟨d, c, _, _, rfl, D10.keep (Keep.upd_new (ds := []) ha), pick_new D10 ha, by show 0 < 4; decide, by show 4 < 1000000000; decide, fun v H11 hv D11 K11 => ?_⟩
      obtain ⟨n, rfl, n0, n1⟩ : ∃ n : Int, v = .int n ∧ 0 ≤ n ∧ n ≤ 10000000000 := by
        have g21 : g2 < 10000000000 := e10 ▸ g21
        have e : ((fun i j : Int => V.int (i ^ j.toNat)) 10 10) = V.int 10000000000 := by decide +kernel
        rw [e] at hv
        simp only [List.mem_cons, List.not_mem_nil, or_false] at hv
        rcases hv with rfl | rfl | rfl | rfl
        · exact ⟨_, rfl, by decide, by decide⟩
        · exact ⟨_, rfl, by decide, by decide⟩
        · exact ⟨_, rfl, g0, by omega⟩
        · exact ⟨_, rfl, g20, by omega⟩
      have KA := ((K9.trans K10).trans (Keep.upd_new ha)).trans K11
      have h11 := KA _ _ h8 nL
      have npd : d ∉ [L] ∧ c ∉ [L] := by
        simp only [List.mem_cons, List.not_mem_nil, or_false, not_or] at nL ⊢
        exact ⟨fun e => nL.1 e.symm, fun e => nL.2 e.symm⟩
      refine ⟨_, h11, by rw [List.length_map]; omega, D11.keep (Keep.upd_in (ds := [L]) (by simp)) npd.1 npd.2, fun b o e hb => ?_, zs ++ [n], by rw [upd_same, List.map_append]; rfl, by simp [zl], fun z hz => ?_⟩
      · rw [upd_ne (ne_of_none e hL)]; exact (K8.trans KA) b o e hb
      · rcases List.mem_append.mp hz with hz | hz
        · exact zb z hz
        · rw [List.mem_singleton] at hz; subst hz; exact ⟨n0, n1⟩
    · rintro H8 ⟨D8, K8, zs, h8, zl, zb⟩
      obtain ⟨x, y, rfl⟩ : ∃ x y, zs = [x, y] := by
        match zs, zl with
        | [x, y], _ => exact ⟨x, y, rfl⟩
      obtain ⟨x0, x1⟩ := zb x (by simp)
      obtain ⟨y0, y1⟩ := zb y (by simp)
      have n20 : ∀ {v : V} {g : Int}, 0 ≤ g → g < 99 → v ∈ [V.int 0, .int 1, .int g, ((fun i j : Int => V.int (i ^ j.toNat)) 10 20)] → ∃ n : Int, v = .int n ∧ 0 ≤ n ∧ n ≤ 100000000000000000000 := by
        intro v g g0 g1 hv
        have e : ((fun i j : Int => V.int (i ^ j.toNat)) 10 20) = V.int 100000000000000000000 := by decide +kernel
        rw [e] at hv
        simp only [List.mem_cons, List.not_mem_nil, or_false] at hv
        rcases hv with rfl | rfl | rfl | rfl
        · exact ⟨_, rfl, by decide, by decide⟩
        · exact ⟨_, rfl, by decide, by decide⟩
        · exact ⟨_, rfl, g0, by omega⟩
        · exact ⟨_, rfl, by decide, by decide⟩
      refine ⟨_, rfl, _, rfl, d, c, _, rfl, D8, by decide, by decide, fun g H9 g0 g1 D9 K9 => ⟨_, _, rfl, rfl, ⟨by decide, by decide, by decide⟩, by show 3 ≤ sizeLine; omega, fun a ha => ?_⟩⟩
      refine ⟨d, c, _, _, rfl, D9.keep (Keep.upd_new (ds := []) ha), pick_new D9 ha, by show 0 < 3; decide, by show 3 < 1000000000; decide, fun v H10 hv D10 K10 => ?_⟩
      obtain ⟨np, rfl, np0, np1⟩ := n20 (v := v) g0 g1 (by
        simp only [List.mem_cons, List.not_mem_nil, or_false] at hv ⊢
        rcases hv with h | h | h
        · exact .inl h
        · exact .inr (.inr (.inl h))
        · exact .inr (.inr (.inr h)))
      have K10' := ((K9.trans (Keep.upd_new ha)).trans K10)
      clear K9 K10 D9 ha hv
      refine ⟨_, _, rfl, rfl, by show 1 ≤ sizeLine; omega, fun F hF => ?_⟩
      have D11 := D10.keep (Keep.upd_new (ds := []) hF (o := .lst [V.int (1 + np)]))
      have nF := D10.nnew hF
      have hF1 : (upd H10 F (.lst [V.int (1 + np)])) F = some (.lst [V.int (1 + np)]) := upd_same
      have K11 := K10'.trans (Keep.upd_new (ds := [d, c]) hF (o := .lst [V.int (1 + np)]))
      have KF : H8 F = none := K10'.none_of hF nF
      generalize upd H10 F (.lst [V.int (1 + np)]) = H11 at D11 hF1 K11
      clear K10' D10 hF
      refine ⟨_, rfl, .inl ⟨rfl, _, SqL.of hF1⟩, ?_⟩
      refine ⟨_, rfl, _, rfl, d, c, _, rfl, D11, by decide, by decide, fun g H12 g0 g1 D12 K12 => ⟨_, _, rfl, rfl, ⟨by decide, by decide, by decide⟩, by show 4 ≤ sizeLine; omega, fun a ha => ?_⟩⟩
      refine ⟨d, c, _, _, rfl, D12.keep (Keep.upd_new (ds := []) ha), pick_new D12 ha, by show 0 < 4; decide, by show 4 < 1000000000; decide, fun v H13 hv D13 K13 => ?_⟩
      obtain ⟨nt, rfl, nt0, nt1⟩ := n20 (v := v) g0 g1 hv
      have K113 := ((K12.trans (Keep.upd_new ha)).trans K13)
      clear K12 K13 D12 ha hv
      have hF13 := K113 _ _ hF1 nF
      have K813 := K11.trans K113
      refine ⟨F, _, _, rfl, rfl, hF13, by show 1 < sizeLine; omega, ?_⟩
      have npF : d ∉ [F] ∧ c ∉ [F] := by
        simp only [List.mem_cons, List.not_mem_nil, or_false, not_or] at nF ⊢
        exact ⟨fun e => nF.1 e.symm, fun e => nF.2 e.symm⟩
      have D14 := D13.keep (Keep.upd_in (ds := [F]) (p := F) (o := .lst ([V.int (1 + np)] ++ [.int nt])) (by simp)) npF.1 npF.2
      have hF14 : (upd H13 F (.lst ([V.int (1 + np)] ++ [.int nt]))) F = some (.lst [V.int (1 + np), .int nt]) := upd_same
      have K814 : Keep [d, c] H8 (upd H13 F (.lst ([V.int (1 + np)] ++ [.int nt]))) := fun b o e hb => by
        rw [upd_ne (ne_of_none e KF)]; exact K813 b o e hb
      generalize upd H13 F (.lst ([V.int (1 + np)] ++ [.int nt])) = H14 at D14 hF14 K814
      have h14 := K814 _ _ h8 nL
      refine ⟨_, rfl, F, _, 0, .int (1 + np), rfl, rfl, SqL.of hF14, rfl, ?_⟩
      refine ⟨_, rfl, F, _, 1, .int nt, rfl, rfl, SqL.of hF14, rfl, ?_⟩
      refine ⟨_, rfl, L, _, 0, .int x, rfl, rfl, SqL.of h14, rfl, ?_⟩
      refine ⟨_, rfl, L, _, 1, .int y, rfl, rfl, SqL.of h14, rfl, ?_⟩
      refine ⟨_, rfl, d, c, rfl, D14, fun r rs ps H15 hr15 pr15 l4 up op D15 K15 => ⟨by show 6 ≤ sizeLine; omega, fun A6 hA => ?_⟩⟩
      have eB := BIG_eq
      have KA := Keep.upd_new (ds := []) hA (o := .tup (stV ⟨1 + np, nt, x, y, ps⟩ r))
      refine q A6 r rs ⟨1 + np, nt, x, y, ps⟩ _ ⟨upd_same, KA _ _ hr15 (by simp), pr15.keep KA⟩ ⟨⟨by show 1 ≤ 1 + np; omega, by show 1 + np < BIG; omega, nt0, by show nt < BIG; omega, x0, x1, y0, y1, l4, up, fun p hp => (op p hp).ok⟩, by show 1 + np ≤ _; omega, nt1, op⟩ (D15.keep KA) ?_
      exact ((K8.trans K814).trans K15).trans (KA.mono (by simp))
end
end My
set_option Elab.async false
set_option maxRecDepth 100000
set_option maxHeartbeats 800000
namespace My
open PySem L2 TL StX
section
variable {X : Cx} {K : PySem.W.Frag}
theorem pi_tupK (e : X.K = K) {tg l : Expr} {t : TE} (hl : PE X l t) : PI X tg l (iTup K t) := e ▸ pi_tup hl
theorem pe_joinK (h : X.K = K) {o e : Expr} {to te : TE} {apos pos : Pos} (ho : PE X o to) (he : PE X e te) (hs : starEach [e] X.env = [(false, eval e X.env)] := by rfl) (hbase : attributeBase o "join" X.env (eval o X.env) = eval o X.env := by rfl) (hline : (apos.endLine == pos.line) = true := by rfl) :
    PE X (.Call (.Attribute o "join" apos) [e] [] pos) (tM1 (fun x xs H Q => ∃ a p, ∃ ys : List Str, x = .str a ∧ xs = [.ref p] ∧ (SqL K H p (ys.map V.str) ∨ SqT K H p (ys.map V.str)) ∧ (ys.map (·.length)).sum + ys.length * a.length ≤ 16777216 ∧ Q (.str (PySem.Txt.join a ys)) H) to te) :=
  h ▸ pe_join ho he hs hbase hline
end
theorem paired_snoc {α β : Type} {F : α → β → Prop} {x : α} {y : β} (h : F x y) : ∀ {xs : List α} {ys : List β}, Paired F xs ys → Paired F (xs ++ [x]) (ys ++ [y])
  | _, _, .nil => .cons h .nil
  | _, _, .cons a t => .cons a (paired_snoc h t)
theorem paired_mapR {α β γ : Type} {F : α → β → Prop} {G : α → γ → Prop} {f : β → γ} : ∀ {xs : List α} {ys : List β}, Paired F xs ys → (∀ x y, F x y → G x (f y)) → Paired G xs (ys.map f)
  | _, _, .nil, _ => .nil
  | _, _, .cons a t, h => .cons (h _ _ a) (paired_mapR t h)
theorem paired_at {α β : Type} {F : α → β → Prop} : ∀ {xs : List α} {ys : List β}, Paired F xs ys → ∀ (i : Nat) (x : α) (y : β), xs[i]? = some x → ys[i]? = some y → F x y
  | _, _, .nil => fun _ _ _ h => by simp at h
  | _, _, .cons h t => fun i x y hx hy => by
    cases i with
    | zero => simp at hx hy; subst hx hy; exact h
    | succ i => exact paired_at t i x y (by simpa using hx) (by simpa using hy)
theorem sum_small {k : Nat} : ∀ {zs : List Str}, (∀ z ∈ zs, z.length ≤ k) → (zs.map (·.length)).sum ≤ k * zs.length
  | [], _ => Nat.zero_le _
  | z :: r, h => by
    have h1 := h z (by simp)
    have h2 := sum_small (zs := r) fun y hy => h y (List.mem_cons_of_mem _ hy)
    rw [List.map_cons, List.sum_cons, List.length_cons, Nat.mul_add]; omega
/-- the rows of the law's text -/
def rowsL (s : SO) : List (List Str) := (("state" : Str) :: (sn s).map tx) :: s.ps.map fun p => (pn p).map tx
theorem lawT_rows (s : SO) : lawT s = PySem.Txt.join " / " ((rowsL s).map fun r => PySem.Txt.join " " r) := by
  unfold lawT rowsL
  rw [List.map_cons, List.map_map]; rfl
theorem rows_ok {s : SO} (ok : OkS s) : ∀ r ∈ rowsL s, (r.map (·.length)).sum + r.length * (Str.ofString " ").length ≤ 16777216 ∧ (PySem.Txt.join " " r).length ≤ 300 := by
  have e2 : (Str.ofString " ").length = 1 := by decide +kernel
  have e5 : (Str.ofString "state").length = 5 := by decide +kernel
  have e5' : (tl (Str.ofString "state")).length = 5 := by decide +kernel
  intro r hr
  unfold rowsL at hr
  rcases List.mem_cons.mp hr with rfl | hr
  · have s1 := sum_tx ok.nums
    have l1 := row_len (h := "state") ok.nums
    have l4 : (sn s).length = 4 := rfl
    refine ⟨?_, ?_⟩
    · rw [List.map_cons, List.sum_cons, List.length_cons, List.length_map, e2, e5]; omega
    · rw [len_tl]
      show (tl (rowT "state" (sn s))).length ≤ 300
      omega
  · obtain ⟨p, hp, rfl⟩ := List.mem_map.mp hr
    have on := (ok.ok p hp).nums
    have s1 := sum_tx on
    have l5 : (pn p).length = 5 := rfl
    have l1 := row_len (h := tx p.m) (ns := [p.b, p.a, p.l, p.u]) fun i hi => on i (List.mem_cons_of_mem _ hi)
    have l0 := tx_len (on p.m (by simp [pn]))
    have l4 : [p.b, p.a, p.l, p.u].length = 4 := rfl
    refine ⟨?_, ?_⟩
    · rw [List.length_map, e2]; omega
    · rw [len_tl]
      show (tl (rowT (tx p.m) [p.b, p.a, p.l, p.u])).length ≤ 300
      omega
section
variable {P : Program} {w : World} {K : PySem.W.Frag} {mg : Str → Option Value} {base : Heap}
def sp_ltext : Sp := fun vs H Q _ => ∃ a r rs s, vs = [.ref a] ∧ StAt H a r rs s ∧ OkS s ∧ ∀ H', Keep [] H H' → Q (.str (lawT s)) H'
theorem p__law_text (T : Txt K mg) : Pr P w K mg base "_law_text" s__law_text ["state"] 1 sp_ltext := by
  obtain ⟨f, fd, D⟩ := T.d__law_text
  
  refine ⟨f, fd, D, D.F.ok sc__law_text (fun vs H Q E h => ?_) (fun cdv A outer s H vs Q E hr h => ?_)⟩
  · obtain ⟨a, b, c, d, rfl, _⟩ := h; rfl
  · obtain ⟨a, r, rs, st, rfl, SA, ok, q⟩ := h
    have hsl : sizeLine = 16777216 := sizeLine_eq
    refine ⟨_, (pss_cons (ps_set (i := 1) sc__law_text.nd rfl (Or.inl rfl) (pe_lst (pa_cons (pe_op op_cat (pe_lst (pa_cons (pe_ix ix_tup (pv 0) pe_int (fun _ _ => rfl)) pa_nil)) (pe_lc (own := [("part", 4)]) (g := gName 4) (tt := tYes) rfl sc__law_text.nd (pi_tup (pe_slice sl_tupA (pv 0) (po_some pe_int) (po_some pe_int))) (blkOk_by (own := [("part", 4)]) (N := N__law_text) (sc := defScope s__law_text) (by decide +kernel)) (fun _ _ _ _ _ => (pg_name (i := 4) sc__law_text.nd rfl (Or.inl rfl))) (fun _ _ _ _ _ => pts_nil) (fun _ _ _ _ _ => (pe_callTy call_str_int (by rfl) T.z_str (by decide +kernel) (pa_cons (pv 4) pa_nil))))) pa_nil)))
      (pss_cons (ps_set (i := 1) sc__law_text.nd rfl (Or.inl rfl) (pe_op op_cat (pv 1) (pe_lc (own := [("promise", 2)]) (g := gName 2) (tt := tYes) rfl sc__law_text.nd (pi_tup (pe_ix ix_tup (pv 0) pe_int (fun _ _ => rfl))) (blkOk_by (own := [("promise", 2)]) (N := N__law_text) (sc := defScope s__law_text) (by decide +kernel)) (fun _ _ _ _ _ => (pg_name (i := 2) sc__law_text.nd rfl (Or.inl rfl))) (fun _ _ _ _ _ => pts_nil) (fun _ _ _ _ _ => (pe_lc (own := [("part", 4)]) (g := gName 4) (tt := tYes) rfl sc__law_text.nd (pi_tupK (K := K) rfl (pv 2)) (blkOk_by (own := [("part", 4)]) (N := N__law_text) (sc := ⟨.function, [(Str.ofString ".0", .local), (Str.ofString "promise", .local)], false, false, []⟩) (by decide +kernel)) (fun _ _ _ _ _ => (pg_name (i := 4) sc__law_text.nd rfl (Or.inl rfl))) (fun _ _ _ _ _ => pts_nil) (fun _ _ _ _ _ => (pe_callTy call_str_int (by rfl) T.z_str (by decide +kernel) (pa_cons (pv 4) pa_nil))))))))
      (pss_one (ps_ret (pe_join pe_str (pe_lc (own := [("row", 3)]) (g := gName 3) (tt := tYes) rfl sc__law_text.nd (pi_list (pv 1)) (blkOk_by (own := [("row", 3)]) (N := N__law_text) (sc := defScope s__law_text) (by decide +kernel)) (fun _ _ _ _ _ => (pg_name (i := 3) sc__law_text.nd rfl (Or.inl rfl))) (fun _ _ _ _ _ => pts_nil) (fun _ _ _ _ _ => (pe_joinK (K := K) rfl pe_str (pv 3))))))))), ?_⟩
    have bnd : ∀ (ns : List Int), (∀ i ∈ ns, NumOk i) → ns.length ≤ 5 → ((ns.map tx).map (·.length)).sum + (ns.map tx).length * (Str.ofString " ").length ≤ 300 := fun ns hn hl => by
      have s1 := sum_tx hn
      have e2 : (Str.ofString " ").length = 1 := by decide +kernel
      rw [e2, List.length_map]; omega
    refine ⟨_, rfl, a, _, 0, .str "state", rfl, rfl, SqT.of SA.ha, rfl, by show 1 ≤ sizeLine; omega, fun l hl => ?_⟩
    have K1 := Keep.upd_new (ds := []) hl (o := .lst [V.str "state"])
    have S1 := SA.keep K1
    have hl1 : (upd H l (.lst [V.str "state"])) l = some (.lst [V.str "state"]) := upd_same
    generalize upd H l (.lst [V.str "state"]) = H1 at K1 S1 hl1
    refine ⟨_, rfl, _, rfl, _, rfl, slA_all S1.ha fun T' H2 K2 h2 => ⟨T', rfl, ⟨_, SqT.of h2⟩, fun L hL => ?_⟩⟩
    rw [cut14] at h2
    refine lc_tup (K := K) (a := T') (xs := cutV (stV st r) (some 1) (some 5)) (fun i H3 => Keep [] H2 H3 ∧ H3 L = some (.lst ((((sn st).take i).map tx).map V.str))) ⟨Keep.upd_new hL, upd_same⟩ (fun i H3 _ ⟨k, _⟩ => SqT.of (k _ _ h2 (by simp))) ?_ ?_
    · rintro i x H3 hx ⟨K3, h3⟩
      rw [cut14, List.getElem?_map] at hx
      obtain ⟨z, hz, rfl⟩ := Option.map_eq_some_iff.mp hx
      refine ⟨rfl, tYes_go (yes ?_)⟩
      refine ⟨_, rfl, z, rfl, log_big (ok.nums z (List.mem_of_getElem? hz)), _, h3, ?_, K3.trans_new hL, ?_⟩
      · rw [List.length_map, List.length_map, List.length_take]; show min i 4 < _; omega
      · rw [upd_same, take_succ_of hz, List.map_append, List.map_append]; rfl
    rintro H3 ⟨K3, h3⟩
    have h3 : H3 L = some (.lst (((sn st).map tx).map V.str)) := h3
    refine ⟨l, L, _, _, rfl, rfl, (K2.trans K3) _ _ hl1 (by simp), h3, by show 1 + 4 ≤ sizeLine; omega, fun l2 hl2 => ⟨by show 1 ≤ sizeLine; omega, fun R hR => ?_⟩⟩
    have K4 : Keep [] H (upd (upd H3 l2 (.lst ([V.str "state"] ++ ((sn st).map tx).map V.str))) R (.lst [.ref l2])) := (((K1.trans K2).trans K3).trans (Keep.upd_new hl2)).trans (Keep.upd_new hR)
    have hl24 : (upd (upd H3 l2 (.lst ([V.str "state"] ++ ((sn st).map tx).map V.str))) R (.lst [.ref l2])) l2 = some (.lst ((("state" : Str) :: (sn st).map tx).map V.str)) := Keep.upd_new (ds := []) hR _ _ upd_same (by simp)
    have hR4 : (upd (upd H3 l2 (.lst ([V.str "state"] ++ ((sn st).map tx).map V.str))) R (.lst [.ref l2])) R = some (.lst [.ref l2]) := upd_same
    generalize upd (upd H3 l2 (.lst ([V.str "state"] ++ ((sn st).map tx).map V.str))) R (.lst [.ref l2]) = H4 at K4 hl24 hR4
    have S4 := SA.keep K4
    have lps := S4.pr.len
    refine ⟨_, rfl, _, rfl, a, _, 5, .ref r, rfl, rfl, SqT.of S4.ha, rfl, r, rfl, ⟨_, SqT.of S4.hr⟩, fun M hM => ?_⟩
    refine lc_tup (K := K) (a := r) (xs := rs.map V.ref) (fun i H5 => Keep [] H4 H5 ∧ ∃ qs : List Addr, H5 M = some (.lst (qs.map V.ref)) ∧ Paired (fun q' (p : PRO) => q' ≠ M ∧ H5 q' = some (.lst (((pn p).map tx).map V.str))) qs (st.ps.take i)) ⟨Keep.upd_new hM, [], upd_same, .nil⟩ (fun i H5 _ ⟨k, _⟩ => SqT.of (k _ _ S4.hr (by simp))) ?_ ?_
    · rintro i x H5 hx ⟨K5, qs, h5, pq⟩
      have hi : i < st.ps.length := by have := (List.getElem?_eq_some_iff.mp hx).1; rw [List.length_map] at this; omega
      obtain ⟨q', hq1, hq2⟩ := (S4.pr.keep K5).at (List.getElem?_eq_getElem hi)
      rw [List.getElem?_map, hq1] at hx
      obtain rfl : V.ref q' = x := Option.some.inj hx
      have op := ok.ok _ (List.getElem_mem hi)
      refine ⟨rfl, tYes_go (yes ?_)⟩
      refine ⟨_, rfl, q', rfl, ⟨_, SqT.of hq2⟩, fun N hN => ?_⟩
      refine lc_tup (K := K) (a := q') (xs := prV st.ps[i]) (fun j H6 => Keep [] H5 H6 ∧ H6 N = some (.lst ((((pn st.ps[i]).take j).map tx).map V.str))) ⟨Keep.upd_new hN, upd_same⟩ (fun j H6 _ ⟨k, _⟩ => SqT.of (k _ _ hq2 (by simp))) ?_ ?_
      · rintro j x H6 hx ⟨K6, h6⟩
        unfold prV at hx
        rw [List.getElem?_map] at hx
        obtain ⟨z, hz, rfl⟩ := Option.map_eq_some_iff.mp hx
        refine ⟨rfl, tYes_go (yes ?_)⟩
        refine ⟨_, rfl, z, rfl, log_big (op.nums z (List.mem_of_getElem? hz)), _, h6, ?_, K6.trans_new hN, ?_⟩
        · rw [List.length_map, List.length_map, List.length_take]; show min j 5 < _; omega
        · rw [upd_same, take_succ_of hz, List.map_append, List.map_append]; rfl
      rintro H6 ⟨K6, h6⟩
      have h6 : H6 N = some (.lst (((pn st.ps[i]).map tx).map V.str)) := h6
      have h46 := K6 _ _ h5 (by simp)
      have nM : N ≠ M := fun e => by rw [e, h5] at hN; cases hN
      have lq := Paired.length pq
      have l4 := ok.len
      refine ⟨_, h46, ?_, (K5.trans K6).trans_new hM, qs ++ [N], ?_, ?_⟩
      · rw [List.length_map, lq, List.length_take]; omega
      · rw [upd_same, List.map_append]; rfl
      · rw [take_succ_of (List.getElem?_eq_getElem hi)]
        have pq2 : Paired (fun q' (p : PRO) => q' ≠ M ∧ (upd H6 M (.lst (qs.map V.ref ++ [.ref N]))) q' = some (.lst (((pn p).map tx).map V.str))) qs (st.ps.take i) :=
          Paired.mapP pq fun x y ⟨n, e⟩ => ⟨n, by rw [upd_ne n]; exact K6 _ _ e (by simp)⟩
        refine paired_snoc (F := fun q' (p : PRO) => q' ≠ M ∧ (upd H6 M (.lst (qs.map V.ref ++ [.ref N]))) q' = some (.lst (((pn p).map tx).map V.str))) ?_ pq2
        exact ⟨nM, by rw [upd_ne nM]; exact h6⟩
    rintro H5 ⟨K5, qs, h5, pq⟩
    have lq := Paired.length pq
    rw [List.length_map, lps, List.take_length] at pq
    have l4 := ok.len
    have lq2 : qs.length ≤ 4 := by have := Paired.length pq; omega
    refine ⟨R, M, _, _, rfl, rfl, K5 _ _ hR4 (by simp), h5, by rw [List.length_map]; show 1 + _ ≤ _; omega, fun Z hZ => ?_⟩
    have KZ := Keep.upd_new (ds := []) hZ (o := .lst ([V.ref l2] ++ qs.map V.ref))
    have hZ6 : (upd H5 Z (.lst ([V.ref l2] ++ qs.map V.ref))) Z = some (.lst ((l2 :: qs).map V.ref)) := upd_same
    have pz : Paired (fun q' (ys : List Str) => (upd H5 Z (.lst ([V.ref l2] ++ qs.map V.ref))) q' = some (.lst (ys.map V.str))) (l2 :: qs) (rowsL st) := by
      refine .cons (KZ _ _ (K5 _ _ hl24 (by simp)) (by simp)) ?_
      exact paired_mapR pq fun x y ⟨_, e⟩ => KZ _ _ e (by simp)
    generalize upd H5 Z (.lst ([V.ref l2] ++ qs.map V.ref)) = H6 at KZ hZ6 pz
    have K06 := (K4.trans K5).trans KZ
    have ro := rows_ok ok
    have lz := Paired.length pz
    have lr : (rowsL st).length ≤ 5 := by unfold rowsL; rw [List.length_cons, List.length_map]; omega
    refine ⟨⟨_, rfl⟩, _, rfl, Z, rfl, ⟨_, SqL.of hZ6⟩, fun J hJ => ?_⟩
    refine lc_list (K := K) (a := Z) (xs := (l2 :: qs).map V.ref) (fun i H7 => Keep [] H6 H7 ∧ H7 J = some (.lst ((((rowsL st).take i).map fun r => PySem.Txt.join " " r).map V.str))) ⟨Keep.upd_new hJ, upd_same⟩ (fun i H7 _ ⟨k, _⟩ => SqL.of (k _ _ hZ6 (by simp))) ?_ ?_
    · rintro i x H7 hx ⟨K7, h7⟩
      rw [List.getElem?_map] at hx
      obtain ⟨z, hz, rfl⟩ := Option.map_eq_some_iff.mp hx
      have hi : i < (rowsL st).length := by have := (List.getElem?_eq_some_iff.mp hz).1; omega
      have hy : (rowsL st)[i]? = some (rowsL st)[i] := List.getElem?_eq_getElem hi
      have e := K7 _ _ (paired_at pz i _ _ hz hy) (by simp)
      refine ⟨rfl, tYes_go (yes ?_)⟩
      refine ⟨⟨_, rfl⟩, _, rfl, _, z, _, rfl, rfl, .inl (SqL.of e), (ro _ (List.getElem_mem hi)).1, _, h7, ?_, K7.trans_new hJ, ?_⟩
      · rw [List.length_map, List.length_map, List.length_take]; omega
      · rw [upd_same, take_succ_of hy, List.map_append, List.map_append]; rfl
    rintro H7 ⟨K7, h7⟩
    rw [List.length_map, lz, List.take_length] at h7
    refine ⟨_, J, _, rfl, rfl, .inl (SqL.of h7), ?_, ?_⟩
    · have := sum_small (k := 300) (zs := (rowsL st).map fun r => PySem.Txt.join " " r) fun z hz => by
        obtain ⟨r', hr', rfl⟩ := List.mem_map.mp hz
        exact (ro r' hr').2
      have e3 : (Str.ofString " / ").length = 3 := by decide +kernel
      rw [List.length_map] at this ⊢
      rw [e3]; omega
    · have := q _ (K06.trans K7)
      rw [lawT_rows] at this
      exact this
end
end My
set_option Elab.async false
set_option maxRecDepth 100000
set_option maxHeartbeats 800000
namespace My
open PySem L2 TL StX
/-! a state as data -/
def dP (p : PRO) : PyData := .tuple (dint (pn p))
def dPs (ps : List PRO) : PyData := .tuple (ps.map dP)
def dS (s : SO) : PyData := .tuple [.str "state", .int s.p, .int s.t, .int s.x, .int s.y, dPs s.ps]
theorem dpAll_ps {K : PySem.W.Frag} {H : Hp} : ∀ {rs : List Addr} {ps : List PRO}, Prs H rs ps → DpAll K H (rs.map V.ref) (ps.map dP)
  | _, _, .nil => .nil
  | _, _, .cons h t => .cons (.tup (SqT.of h) (dpAll_int _)) (dpAll_ps t)
theorem Dp_ps {K : PySem.W.Frag} {H : Hp} {r : Addr} {rs : List Addr} {ps : List PRO} (h : H r = some (.tup (rs.map V.ref))) (pr : Prs H rs ps) : Dp K H (.ref r) (dPs ps) := .tup (SqT.of h) (dpAll_ps pr)
theorem Dp_st {K : PySem.W.Frag} {H : Hp} {a r : Addr} {rs : List Addr} {s : SO} (S : StAt H a r rs s) : Dp K H (.ref a) (dS s) :=
  .tup (SqT.of S.ha) (.cons (.str _) (.cons (.int _) (.cons (.int _) (.cons (.int _) (.cons (.int _) (.cons (Dp_ps S.hr S.pr) .nil))))))
theorem can_ps : ∀ ps : List PRO, PyData.canLayAll0 (ps.map dP) = true ∧ PyData.depthAll (ps.map dP) ≤ 1
  | [] => ⟨rfl, Nat.zero_le _⟩
  | p :: r => by
    have ih := can_ps r
    have h1 := can_int (pn p)
    have e1 : (dP p).canLay0 = true := by unfold dP; rw [PyData.canLay0, h1.1]
    have e2 : (dP p).depth = 1 := by unfold dP; rw [PyData.depth, h1.2]
    rw [List.map_cons, PyData.canLayAll0, PyData.depthAll, ih.1, e1, e2]
    exact ⟨rfl, Nat.max_le.mpr ⟨Nat.le_refl _, ih.2⟩⟩
theorem shaped_ps (ps : List PRO) : SeqAt.shaped (dPs ps) = true := by
  have h := can_ps ps
  unfold SeqAt.shaped dPs
  rw [PyData.canLay0, PyData.depth, h.1, Bool.true_and]
  exact decide_eq_true (by omega)
theorem shaped_st (s : SO) : SeqAt.shaped (dS s) = true := by
  have h := can_ps s.ps
  have e0 : (PyData.str "state").canLay0 = true := by rw [PyData.canLay0]; decide +kernel
  have e1 : (dPs s.ps).canLay0 = true := by unfold dPs; rw [PyData.canLay0, h.1]
  have e2 : (dPs s.ps).depth ≤ 2 := by unfold dPs; rw [PyData.depth]; omega
  unfold SeqAt.shaped dS
  simp only [PyData.canLay0, PyData.depth, PyData.canLayAll0, PyData.depthAll, e1, Bool.and_true, Bool.true_and]
  rw [PyData.canLay0] at e0
  rw [e0, Bool.true_and]
  exact decide_eq_true (by omega)
theorem eqvAll_self : ∀ l : List Int, PyData.eqvAll (dint l) (dint l) = true := fun l => by rw [eqvAll_int]; exact decide_eq_true rfl
theorem eqv_P (p : PRO) : PyData.eqv (dP p) (dP p) = true := by unfold dP; rw [PyData.eqv]; exact eqvAll_self _
theorem eqvAll_P : ∀ ps : List PRO, PyData.eqvAll (ps.map dP) (ps.map dP) = true
  | [] => by simp [PyData.eqvAll]
  | p :: r => by rw [List.map_cons, PyData.eqvAll, eqv_P, eqvAll_P r]; rfl
theorem eqv_S (s : SO) : PyData.eqv (dS s) (dS s) = true := by
  have e1 : PyData.eqv (dPs s.ps) (dPs s.ps) = true := by unfold dPs; rw [PyData.eqv]; exact eqvAll_P _
  unfold dS
  rw [PyData.eqv]
  simp only [PyData.eqvAll, PyData.eqv, e1, beq_self_eq_true, Bool.and_self]
theorem eqv_nil (ps : List PRO) : PyData.eqv (dPs ps) (.tuple []) = ps.isEmpty := by
  unfold dPs
  rw [PyData.eqv]
  cases ps with
  | nil => simp [PyData.eqvAll]
  | cons p r => rw [List.map_cons]; simp [PyData.eqvAll]
theorem shaped_nil : SeqAt.shaped (.tuple []) = true := by decide +kernel
/-! the state with one part otherwise -/
def getS : Nat → SO → Int
  | 0, s => s.p
  | 1, s => s.t
  | 2, s => s.x
  | _, s => s.y
def setS : Nat → SO → Int → SO
  | 0, s, z => { s with p := z }
  | 1, s, z => { s with t := z }
  | 2, s, z => { s with x := z }
  | _, s, z => { s with y := z }
theorem four {k : Nat} (h : k < 4) : k = 0 ∨ k = 1 ∨ k = 2 ∨ k = 3 := by omega
theorem st_at {k : Nat} (h : k < 4) (s : SO) (r : Addr) : atI (stV s r) ((k : Int) + 1) = some (.int (getS k s)) := by
  rcases four h with rfl | rfl | rfl | rfl <;> rfl
theorem st_cut {k : Nat} (h : k < 4) (s : SO) (r : Addr) (z : Int) : (cutV (stV s r) none (some ((k : Int) + 1)) ++ [.int z]) ++ cutV (stV s r) (some ((k : Int) + 2)) none = stV (setS k s z) r := by
  rcases four h with rfl | rfl | rfl | rfl <;> rfl
theorem set_ps (k : Nat) (s : SO) (z : Int) : (setS k s z).ps = s.ps := by
  unfold setS; split <;> rfl
theorem set_ne {k : Nat} (h : k < 4) {s : SO} {z : Int} (hz : z ≠ getS k s) : setS k s z ≠ s := by
  intro e
  refine hz ?_
  have := congrArg (getS k) e
  rw [← this]
  rcases four h with rfl | rfl | rfl | rfl <;> rfl
theorem set_ok {k : Nat} (h : k < 4) {s : SO} (o : OwnS s) {z : Int} (hz : (k < 2 ∨ getS k s < 10000000000) ∧ z = getS k s + 1 ∨ ¬ (k < 2 ∨ getS k s < 10000000000) ∧ z = getS k s - 1) : OkS (setS k s z) := by
  obtain ⟨⟨p1, p2, t0, t1, x0, x1, y0, y1, len, up, ok⟩, op, ot, _⟩ := o
  have eB := BIG_eq
  rcases four h with rfl | rfl | rfl | rfl <;> simp only [getS] at hz
  · exact ⟨by show 1 ≤ z; omega, by show z < BIG; omega, t0, t1, x0, x1, y0, y1, len, up, ok⟩
  · exact ⟨p1, p2, by show 0 ≤ z; omega, by show z < BIG; omega, x0, x1, y0, y1, len, up, ok⟩
  · exact ⟨p1, p2, t0, t1, by show 0 ≤ z; omega, by show z ≤ _; omega, y0, y1, len, up, ok⟩
  · exact ⟨p1, p2, t0, t1, x0, x1, by show 0 ≤ z; omega, by show z ≤ _; omega, len, up, ok⟩
/-! the last promise otherwise -/
theorem split_last {ps : List PRO} (h : ps ≠ []) : ∃ qs p, ps = qs ++ [p] := ⟨ps.dropLast, ps.getLast h, (List.dropLast_concat_getLast h).symm⟩
theorem last_ok {s : SO} {qs : List PRO} {p p' : PRO} (o : OkS s) (e : s.ps = qs ++ [p]) (ok : OkP p') (hm : p.m ≤ p'.m) : OkS { s with ps := qs ++ [p'] } := by
  obtain ⟨p1, p2, t0, t1, x0, x1, y0, y1, len, up, oks⟩ := o
  rw [e] at len up oks
  refine ⟨p1, p2, t0, t1, x0, x1, y0, y1, by simpa using len, ?_, fun x hx => ?_⟩
  · show ((qs ++ [p']).map (·.m)).Pairwise (· < ·)
    rw [List.map_append, List.pairwise_append] at up ⊢
    refine ⟨up.1, by simp, fun x hx y hy => ?_⟩
    have := up.2.2 x hx p.m (by simp)
    simp only [List.map_cons, List.map_nil, List.mem_singleton] at hy
    omega
  · rcases List.mem_append.mp hx with hx | hx
    · exact oks x (List.mem_append_left _ hx)
    · rw [List.mem_singleton] at hx; subst hx; exact ok
theorem last_ne {s : SO} {qs : List PRO} {p p' : PRO} (e : s.ps = qs ++ [p]) (hp : p' ≠ p) : ({ s with ps := qs ++ [p'] } : SO) ≠ s := by
  intro h
  have := congrArg SO.ps h
  rw [e] at this
  exact hp (by simpa using this)
/-- the five -/
def five (p : PRO) : List PRO := [⟨p.m + 1, p.b, p.a, p.l, p.u⟩, ⟨p.m, 1 - p.b, p.a, p.l, p.u⟩, ⟨p.m, p.b, p.a, p.l, p.u + 1⟩, ⟨p.m, p.b, 1 + p.a % 1000000000, p.l, p.u⟩, ⟨p.m, p.b, p.a, (p.l + 1) % 1000000000000000000000000000000, p.u⟩]
theorem five_ok {p q : PRO} (o : OwnP p) (h : q ∈ five p) : OkP q ∧ p.m ≤ q.m ∧ q ≠ p := by
  obtain ⟨⟨m1, m2, b, a1, a2, l0, l1, u0, u1⟩, om, ou⟩ := o
  have eB := BIG_eq
  unfold five at h
  simp only [List.mem_cons, List.not_mem_nil, or_false] at h
  rcases h with rfl | rfl | rfl | rfl | rfl
  · refine ⟨⟨?_, ?_, b, a1, a2, l0, l1, u0, u1⟩, ?_, fun e => ?_⟩
    · show 1 ≤ p.m + 1; omega
    · show p.m + 1 < BIG; omega
    · show p.m ≤ p.m + 1; omega
    · have : p.m + 1 = p.m := congrArg PRO.m e
      omega
  · refine ⟨⟨m1, m2, ?_, a1, a2, l0, l1, u0, u1⟩, Int.le_refl _, fun e => ?_⟩
    · show 1 - p.b = 0 ∨ 1 - p.b = 1; omega
    · have : 1 - p.b = p.b := congrArg PRO.b e
      omega
  · refine ⟨⟨m1, m2, b, a1, a2, l0, l1, ?_, ?_⟩, Int.le_refl _, fun e => ?_⟩
    · show 0 ≤ p.u + 1; omega
    · show p.u + 1 < BIG; omega
    · have : p.u + 1 = p.u := congrArg PRO.u e
      omega
  · refine ⟨⟨m1, m2, b, ?_, ?_, l0, l1, u0, u1⟩, Int.le_refl _, fun e => ?_⟩
    · show 1 ≤ 1 + p.a % 1000000000; omega
    · show 1 + p.a % 1000000000 ≤ 1000000000; omega
    · have : 1 + p.a % 1000000000 = p.a := congrArg PRO.a e
      omega
  · refine ⟨⟨m1, m2, b, a1, a2, ?_, ?_, u0, u1⟩, Int.le_refl _, fun e => ?_⟩
    · show 0 ≤ (p.l + 1) % _; omega
    · show (p.l + 1) % 1000000000000000000000000000000 ≤ 1000000000000000000000000000000; omega
    · have : (p.l + 1) % 1000000000000000000000000000000 = p.l := congrArg PRO.l e
      omega
theorem one_ok {s : SO} (o : OkS s) (e : s.ps = []) : OkS { s with ps := [⟨1, 0, 1, 0, 0⟩] } ∧ ({ s with ps := [⟨1, 0, 1, 0, 0⟩] } : SO) ≠ s := by
  obtain ⟨p1, p2, t0, t1, x0, x1, y0, y1, len, up, oks⟩ := o
  refine ⟨⟨p1, p2, t0, t1, x0, x1, y0, y1, by simp, by simp, fun p hp => ?_⟩, fun h => ?_⟩
  · simp only [List.mem_singleton] at hp
    subst hp
    exact ⟨by decide, by decide +kernel, .inl rfl, by decide, by decide, by decide, by decide, by decide, by decide +kernel⟩
  · have := congrArg SO.ps h
    rw [e] at this; cases this
end My
set_option Elab.async false
set_option maxRecDepth 100000
set_option maxHeartbeats 1600000
namespace My
open PySem L2 TL StX
section
variable {P : Program} {w : World} {K : PySem.W.Frag} {mg : Str → Option Value} {base : Heap}
theorem catA_all {H : Hp} {a b : Addr} {xs ys : List V} {Q : VK} (ha : H a = some (.tup xs)) (hb : H b = some (.tup ys)) (hl : xs.length + ys.length ≤ 1000)
    (q : ∀ p H', Keep [] H H' → H' p = some (.tup (xs ++ ys)) → Q (.ref p) H') : rCatA K (.ref a) (.ref b) H Q := by
  refine ⟨a, b, xs, ys, rfl, rfl, SqT.of ha, SqT.of hb, by have : sizeLine = 16777216 := sizeLine_eq; omega, fun e => ?_, fun _ e => ?_, fun _ _ p hp => q p _ (Keep.upd_new hp) upd_same⟩
  · subst e; exact q b H Keep.refl hb
  · subst e; exact q a H Keep.refl (by rw [List.append_nil]; exact ha)
theorem noPart {σ : L2.St} {H : Hp} {F : Option Int → Hp → Prop} (h : F none H) : tNoPart σ H F := h
theorem ifexp {σ : L2.St} {H : Hp} {Q : VK} {n : Nat} {s : SO} (h2 : σ[2]? = some (some (.int n))) (h3 : σ[3]? = some (some (.int (getS n s))))
    (q : ∀ z, ((n < 2 ∨ getS n s < 10000000000) ∧ z = getS n s + 1 ∨ ¬ (n < 2 ∨ getS n s < 10000000000) ∧ z = getS n s - 1) → Q (.int z) H) :
    tIf (tOr (tTest (tOp (rI0 fun i j => V.bl (decide (i < j))) (tVar 2) (tC (.int 2)))) (tTest (tOp (rI0 fun i j => V.bl (decide (i < j))) (tVar 3) (tOp (rI CPow fun i j => V.int (i ^ j.toNat)) (tC (.int 10)) (tC (.int 10))))))
      (tOp (rI0 fun i j => V.int (i + j)) (tVar 3) (tC (.int 1))) (tOp (rI0 fun i j => V.int (i - j)) (tVar 3) (tC (.int 1))) σ H Q := by
  have e10 : (10 : Int) ^ Int.toNat 10 = 10000000000 := by decide +kernel
  refine ⟨_, h2, _, _, rfl, rfl, _, rfl, ite2 (fun c => ?_) (fun c => ?_)⟩
  · have c : (n : Int) < 2 := of_decide_eq_true c
    exact iteT ⟨_, h3, _, _, rfl, rfl, q _ (.inl ⟨.inl (by omega), rfl⟩)⟩
  · have c : ¬ (n : Int) < 2 := fun z => c (decide_eq_true z)
    refine ⟨_, h3, _, _, rfl, rfl, ⟨by decide, by decide, by decide⟩, _, _, rfl, rfl, _, rfl, ?_⟩
    refine ite2 (fun c2 => ?_) (fun c2 => ?_)
    · have c2 : getS n s < 10000000000 := by have := of_decide_eq_true c2; rw [e10] at this; exact this
      exact ⟨_, h3, _, _, rfl, rfl, q _ (.inl ⟨.inr c2, rfl⟩)⟩
    · have c2 : ¬ getS n s < 10000000000 := fun z => c2 (decide_eq_true (by rw [e10]; exact z))
      exact ⟨_, h3, _, _, rfl, rfl, q _ (.inr ⟨fun z => z.elim (fun z => c (by omega)) c2, rfl⟩)⟩
theorem Prs.last {H : Hp} {p : PRO} : ∀ {qs : List PRO} {rs : List Addr}, Prs H rs (qs ++ [p]) → ∃ rq rl, rs = rq ++ [rl] ∧ Prs H rq qs ∧ H rl = some (.tup (prV p))
  | [], _, .cons h .nil => ⟨[], _, rfl, .nil, h⟩
  | _ :: qs, _, .cons h t => by
    obtain ⟨rq, rl, rfl, h1, h2⟩ := Prs.last (qs := qs) t
    exact ⟨_ :: rq, rl, rfl, .cons h h1, h2⟩
theorem atI_last {xs : List V} {v : V} : atI (xs ++ [v]) (-1) = some v := by
  have hl : (xs ++ [v]).length = xs.length + 1 := by simp
  unfold atI ixN
  rw [if_neg (by decide), hl, if_pos (by omega)]
  have : ((-1 : Int) + ((xs.length + 1 : Nat) : Int)).toNat = xs.length := by omega
  show (xs ++ [v])[((-1 : Int) + ((xs.length + 1 : Nat) : Int)).toNat]? = _
  rw [this]; simp
theorem cut_last {xs : List V} {v : V} : cutV (xs ++ [v]) none (some (-1)) = xs := by
  have hl : (xs ++ [v]).length = xs.length + 1 := by simp
  unfold cutV
  rw [HT.sIx_none, List.drop_zero, Nat.sub_zero]
  have : HT.sIx (xs ++ [v]).length (xs ++ [v]).length (some (-1)) = xs.length := by
    unfold HT.sIx
    rw [hl]
    show (if (-1 : Int) < 0 then ((-1 : Int) + ((xs.length + 1 : Nat) : Int)).toNat else _) = _
    rw [if_pos (by decide)]; omega
  rw [this]; simp
theorem new_at {H : Hp} {a : Addr} {o : HO} (h : H a = none) : Keep [] H (upd H a o) ∧ (upd H a o) a = some o := ⟨Keep.upd_new h, upd_same⟩
def sp_other : Sp := fun vs H Q _ => ∃ d c a r rs s, vs = [.ref d, .ref a] ∧ DrawAt H d c ∧ StAt H a r rs s ∧ OwnS s ∧ ∀ a' r' rs' s' H', StAt H' a' r' rs' s' → OkS s' → s' ≠ s → DrawAt H' d c → Keep [d, c] H H' → Q (.ref a') H'
theorem p__law_other (T : Txt K mg) : Pr P w K mg base "_law_other" s__law_other ["draw", "state"] 3 sp_other := by
  obtain ⟨f, fd, D⟩ := T.d__law_other
  obtain ⟨f__law_pick, fd__law_pick, D__law_pick, G__law_pick⟩ := p__law_pick (P := P) (w := w) (base := base) T; obtain ⟨f__law_take, fd__law_take, D__law_take, G__law_take⟩ := p__law_take (P := P) (w := w) (base := base) T
  refine ⟨f, fd, D, D.F.ok sc__law_other (fun vs H Q E h => ?_) (fun cdv A outer s H vs Q E hr h => ?_)⟩
  · obtain ⟨a, b, c, d, e, g, rfl, _⟩ := h; rfl
  · obtain ⟨d, c, a, r, rs, st, rfl, D0, SA, ow, q⟩ := h
    have hsl : sizeLine = 16777216 := sizeLine_eq
    refine ⟨_, (pss_cons (ps_set (i := 2) sc__law_other.nd rfl (Or.inl rfl) (pe_call G__law_take (hr.mono (by decide)) rfl D__law_take.m D__law_take.F.kp D__law_take.b .nil pass0 (pa_cons (pv 0) (pa_cons pe_int pa_nil))))
      (pss_cons (ps_if (pt_cmpR op_lt (pv 2) pe_int (nomark _)) (pss_cons (ps_set (i := 3) sc__law_other.nd rfl (Or.inl rfl) (pe_ix ix_tup (pv 1) (pe_op op_add (pv 2) pe_int) (fun _ _ => rfl)))
      (pss_cons (ps_set (i := 3) sc__law_other.nd rfl (Or.inl rfl) (pe_ifExp (PW.pt (pw_or (pt_cmpR op_lt (pv 2) pe_int (nomark _)) (pw_or1 (pt_cmpR op_lt (pv 3) (pe_op op_pow pe_int pe_int) (nomark _))))) (pe_op op_add (pv 3) pe_int) (pe_op op_sub (pv 3) pe_int)))
      (pss_one (ps_ret (pe_op op_catA (pe_op op_catA (pe_slice sl_tupA (pv 1) po_none (po_some (pe_op op_add (pv 2) pe_int))) (pe_tup (pa_cons (pv 3) pa_nil))) (pe_slice sl_tupA (pv 1) (po_some (pe_op op_add (pv 2) pe_int)) po_none)))))) pss_nil)
      (pss_cons (ps_if (pt_cmpR (op_eqD hr.units) (pe_ix ix_tup (pv 1) pe_int (fun _ _ => rfl)) (pe_tup pa_nil) (nomark _)) (pss_one (ps_ret (pe_op op_catA (pe_slice sl_tupA (pv 1) po_none (po_some pe_int)) (pe_tup (pa_cons (pe_tup (pa_cons (pe_tup (pa_cons pe_int (pa_cons pe_int (pa_cons pe_int (pa_cons pe_int (pa_cons pe_int pa_nil)))))) pa_nil)) pa_nil))))) pss_nil)
      (pss_cons (ps_asg (pe_ix ix_tup (pe_ix ix_tup (pv 1) pe_int (fun _ _ => rfl)) (pe_un un_neg pe_int) (fun _ _ => rfl)) (pg_tup rfl (pgs_cons (pg_name (i := 4) sc__law_other.nd rfl (Or.inl rfl)) (pgs_cons (pg_name (i := 5) sc__law_other.nd rfl (Or.inl rfl)) (pgs_cons (pg_name (i := 6) sc__law_other.nd rfl (Or.inl rfl)) (pgs_cons (pg_name (i := 7) sc__law_other.nd rfl (Or.inl rfl)) (pgs_cons (pg_name (i := 8) sc__law_other.nd rfl (Or.inl rfl)) pgs_nil)))))))
      (pss_cons (ps_set (i := 9) sc__law_other.nd rfl (Or.inl rfl) (pe_lst (pa_cons (pe_tup (pa_cons (pe_op op_add (pv 4) pe_int) (pa_cons (pv 5) (pa_cons (pv 6) (pa_cons (pv 7) (pa_cons (pv 8) pa_nil)))))) (pa_cons (pe_tup (pa_cons (pv 4) (pa_cons (pe_op op_sub pe_int (pv 5)) (pa_cons (pv 6) (pa_cons (pv 7) (pa_cons (pv 8) pa_nil)))))) (pa_cons (pe_tup (pa_cons (pv 4) (pa_cons (pv 5) (pa_cons (pv 6) (pa_cons (pv 7) (pa_cons (pe_op op_add (pv 8) pe_int) pa_nil)))))) pa_nil)))))
      (pss_cons (ps_set (i := 9) sc__law_other.nd rfl (Or.inl rfl) (pe_op op_cat (pv 9) (pe_lst (pa_cons (pe_tup (pa_cons (pv 4) (pa_cons (pv 5) (pa_cons (pe_op op_add pe_int (pe_op op_mod (pv 6) (pe_op op_pow pe_int pe_int))) (pa_cons (pv 7) (pa_cons (pv 8) pa_nil)))))) (pa_cons (pe_tup (pa_cons (pv 4) (pa_cons (pv 5) (pa_cons (pv 6) (pa_cons (pe_op op_mod (pe_op op_add (pv 7) pe_int) (pe_op op_pow pe_int pe_int)) (pa_cons (pv 8) pa_nil)))))) pa_nil)))))
      (pss_one (ps_ret (pe_op op_catA (pe_slice sl_tupA (pv 1) po_none (po_some pe_int)) (pe_tup (pa_cons (pe_op op_catA (pe_slice sl_tupA (pe_ix ix_tup (pv 1) pe_int (fun _ _ => rfl)) po_none (po_some (pe_un un_neg pe_int))) (pe_tup (pa_cons (pe_call G__law_pick (hr.mono (by decide)) rfl D__law_pick.m D__law_pick.F.kp D__law_pick.b .nil pass0 (pa_cons (pv 0) (pa_cons (pv 9) pa_nil))) pa_nil))) pa_nil))))))))))), ?_⟩
    refine ⟨_, rfl, d, c, _, rfl, D0, by decide, by decide, fun k H1 k0 k1 D1 K1 => ?_⟩
    have S1 := SA.keepD K1 D0.notup
    refine ⟨_, rfl, _, _, rfl, rfl, _, rfl, ite2 (fun h4 => ?_) (fun h4 => ?_)⟩
    · have h4 : k < 4 := of_decide_eq_true h4
      obtain ⟨n, hn, rfl⟩ : ∃ n : Nat, n < 4 ∧ k = n := ⟨k.toNat, by omega, by omega⟩
      refine ⟨_, rfl, _, rfl, _, _, rfl, rfl, a, _, _, .int (getS n st), rfl, rfl, SqT.of S1.ha, st_at hn st r, ?_⟩
      refine ifexp (n := n) (s := st) rfl rfl fun z hz => ?_
      have oz := set_ok hn ow hz
      have nz : setS n st z ≠ st := set_ne hn (by omega)
      refine ⟨_, rfl, noPart ⟨_, rfl, _, _, rfl, rfl, _, rfl, slA_all S1.ha fun t1 H2 K2 h2 => ?_⟩⟩
      refine ⟨_, rfl, by show 1 ≤ sizeLine; omega, fun t2 ht2 => ?_⟩
      have K3 := K2.trans (Keep.upd_new (ds := []) ht2 (o := .tup [V.int z]))
      refine catA_all (Keep.upd_new (ds := []) ht2 _ _ h2 (by simp)) upd_same (by show _ + 1 ≤ 1000; have : (cutV (stV st r) none (some ((n : Int) + 1))).length ≤ (stV st r).length := cutV_length _ _ _; have : (stV st r).length = 6 := rfl; omega) fun t3 H4 K4 h4' => ?_
      have K14 := K3.trans K4
      refine ⟨_, rfl, _, rfl, _, _, rfl, rfl, _, rfl, noPart (slA_all (K14 _ _ S1.ha (by simp)) fun t4 H5 K5 h5 => ?_)⟩
      have l6 : (stV st r).length = 6 := rfl
      have b1 : (cutV (stV st r) none (some ((n : Int) + 1))).length ≤ (stV st r).length := cutV_length _ _ _
      have b2 : (cutV (stV st r) (some ((n : Int) + 2)) none).length ≤ (stV st r).length := cutV_length _ _ _
      refine catA_all (K5 _ _ h4' (by simp)) h5 (by rw [List.length_append]; show _ + 1 + _ ≤ 1000; omega) fun t5 H6 K6 h6 => ?_
      have K16 := (K14.trans K5).trans K6
      have h6 : H6 t5 = some (.tup (stV (setS n st z) r)) := by rw [h6]; exact congrArg (fun y => some (HO.tup y)) (st_cut hn st r z)
      exact q t5 r rs (setS n st z) H6 ⟨h6, K16 _ _ S1.hr (by simp), by rw [set_ps]; exact S1.pr.keep K16⟩ oz nz (D1.keep K16) (K1.trans (K16.mono (by simp)))
    · refine ⟨_, rfl, a, _, 5, .ref r, rfl, rfl, SqT.of S1.ha, rfl, by show 0 ≤ sizeLine; omega, fun e he => ?_⟩
      have Ke := Keep.upd_new (ds := []) he (o := .tup [])
      refine ⟨_, _, Dp_ps (Ke _ _ S1.hr (by simp)) (S1.pr.keep Ke), .tup (SqT.of upd_same) .nil, shaped_ps _, shaped_nil, _, rfl, ?_⟩
      rw [eqv_nil]
      generalize upd H1 e (HO.tup []) = H2 at Ke
      have S2 := S1.keep Ke
      have D2 := D1.keep Ke
      have K2 : Keep [d, c] H H2 := K1.trans (Ke.mono (by simp))
      clear he D1 S1 K1 Ke
      by_cases c0 : st.ps = []
      · rw [show st.ps.isEmpty = true from by rw [c0]; rfl]
        refine iteT ?_
        obtain ⟨o1, o2⟩ := one_ok ow.ok c0
        refine ⟨_, rfl, noPart ⟨_, rfl, slA_all S2.ha fun t1 H3 K3 h3 => ?_⟩⟩
        refine ⟨by show 5 ≤ sizeLine; omega, fun t2 ht2 => ⟨by show 1 ≤ sizeLine; omega, fun t3 ht3 => ⟨by show 1 ≤ sizeLine; omega, fun t4 ht4 => ?_⟩⟩⟩
        have K4 := Keep.upd_new (ds := []) ht2 (o := .tup (prV ⟨1, 0, 1, 0, 0⟩))
        have K5 := Keep.upd_new (ds := []) ht3 (o := .tup [V.ref t2])
        have K6 := Keep.upd_new (ds := []) ht4 (o := .tup [V.ref t3])
        refine catA_all ((K4.trans K5).trans K6 _ _ h3 (by simp)) upd_same (by show 5 + 1 ≤ 1000; decide) fun t5 H7 K7 h7 => ?_
        have K27 := (((K3.trans K4).trans K5).trans K6).trans K7
        exact q t5 t3 [t2] { st with ps := [⟨1, 0, 1, 0, 0⟩] } H7 ⟨h7, K7 _ _ (K6 _ _ upd_same (by simp)) (by simp), .cons (K7 _ _ (K6 _ _ (K5 _ _ upd_same (by simp)) (by simp)) (by simp)) .nil⟩ o1 o2 (D2.keep K27) (K2.trans (K27.mono (by simp)))
      · obtain ⟨qs, p, eps⟩ := split_last c0
        rw [show st.ps.isEmpty = false from by rw [eps]; cases qs <;> rfl]
        refine iteF ?_
        have pr2 := S2.pr
        rw [eps] at pr2
        obtain ⟨rq, rl, ers, pq, hrl⟩ := pr2.last
        have hr2 := S2.hr
        rw [ers, List.map_append] at hr2
        have ha2 := S2.ha
        refine ⟨_, rfl, a, _, 5, .ref r, rfl, rfl, SqT.of ha2, rfl, 1, rfl, r, _, -1, .ref rl, rfl, rfl, SqT.of hr2, atI_last, ?_⟩
        refine ⟨rl, _, rfl, SqT.of hrl, rfl, _, _, rfl, _, _, rfl, _, _, rfl, _, _, rfl, _, _, rfl, rfl, ?_⟩
        refine ⟨_, rfl, _, _, rfl, rfl, _, rfl, _, rfl, _, rfl, _, rfl, by show 5 ≤ sizeLine; omega, fun t1 ht1 => ?_⟩
        refine ⟨_, rfl, _, rfl, _, _, rfl, rfl, _, rfl, _, rfl, _, rfl, by show 5 ≤ sizeLine; omega, fun t2 ht2 => ?_⟩
        refine ⟨_, rfl, _, rfl, _, rfl, _, rfl, _, rfl, _, _, rfl, rfl, by show 5 ≤ sizeLine; omega, fun t3 ht3 => ?_⟩
        refine ⟨by show 3 ≤ sizeLine; omega, fun L1 hL1 => ?_⟩
        have A1 := Keep.upd_new (ds := []) ht1 (o := .tup (prV ⟨p.m + 1, p.b, p.a, p.l, p.u⟩))
        have A2 := Keep.upd_new (ds := []) ht2 (o := .tup (prV ⟨p.m, 1 - p.b, p.a, p.l, p.u⟩))
        have A3 := Keep.upd_new (ds := []) ht3 (o := .tup (prV ⟨p.m, p.b, p.a, p.l, p.u + 1⟩))
        have A4 := Keep.upd_new (ds := []) hL1 (o := .lst [V.ref t1, .ref t2, .ref t3])
        have u1 := A4 _ _ (A3 _ _ (A2 _ _ upd_same (by simp)) (by simp)) (by simp)
        have u2 := A4 _ _ (A3 _ _ upd_same (by simp)) (by simp)
        have u3 := A4 _ _ upd_same (by simp)
        have B := ((A1.trans A2).trans A3).trans A4
        have e9 : (10 : Int) ^ Int.toNat 9 = 1000000000 := by decide +kernel
        have e30 : (10 : Int) ^ Int.toNat 30 = 1000000000000000000000000000000 := by decide +kernel
        refine ⟨_, rfl, _, rfl, _, rfl, _, rfl, _, _, rfl, rfl, ⟨by decide, by decide, by decide⟩, _, _, rfl, rfl, (by show (0 : Int) < 10 ^ Int.toNat 9; rw [e9]; decide), _, _, rfl, rfl, _, rfl, _, rfl, by show 5 ≤ sizeLine; omega, fun t4 ht4 => ?_⟩
        refine ⟨_, rfl, _, rfl, _, rfl, _, rfl, _, _, rfl, rfl, _, _, rfl, rfl, ⟨by decide, by decide, by decide⟩, _, _, rfl, rfl, (by show (0 : Int) < 10 ^ Int.toNat 30; rw [e30]; decide), _, rfl, by show 5 ≤ sizeLine; omega, fun t5 ht5 => ⟨by show 2 ≤ sizeLine; omega, fun L2 hL2 => ?_⟩⟩
        have A5 := Keep.upd_new (ds := []) ht4 (o := .tup [V.int p.m, .int p.b, .int (1 + p.a % (10 : Int) ^ Int.toNat 9), .int p.l, .int p.u])
        have A6 := Keep.upd_new (ds := []) ht5 (o := .tup [V.int p.m, .int p.b, .int p.a, .int ((p.l + 1) % (10 : Int) ^ Int.toNat 30), .int p.u])
        have A7 := Keep.upd_new (ds := []) hL2 (o := .lst [V.ref t4, .ref t5])
        have B2 := (A5.trans A6).trans A7
        have u4 := A7 _ _ (A6 _ _ upd_same (by simp)) (by simp)
        have u5 := A7 _ _ upd_same (by simp)
        have u1 := B2 _ _ u1 (by simp)
        have u2 := B2 _ _ u2 (by simp)
        have u3 := B2 _ _ u3 (by simp)
        have B3 := B.trans B2
        refine ⟨L1, L2, _, _, rfl, rfl, B2 _ _ upd_same (by simp), upd_same, by show 3 + 2 ≤ sizeLine; omega, fun L3 hL3 => ?_⟩
        obtain ⟨A8, hL3'⟩ := new_at (o := .lst ([V.ref t1, .ref t2, .ref t3] ++ [V.ref t4, .ref t5])) hL3
        have nL3 : L3 ∉ [d, c] := (D2.keep B3).nnew hL3
        have w1 := A8 _ _ u1 (by simp)
        have w2 := A8 _ _ u2 (by simp)
        have w3 := A8 _ _ u3 (by simp)
        have w4 := A8 _ _ u4 (by simp)
        have w5 := A8 _ _ u5 (by simp)
        rw [e9] at w4
        rw [e30] at w5
        have B4 := B3.trans A8
        clear A1 A2 A3 A4 A5 A6 A7 u1 u2 u3 u4 u5 B B2 B3
        have S4 := S2.keep B4
        have D4 := D2.keep B4
        refine ⟨_, rfl, noPart ⟨_, rfl, slA_all S4.ha fun t6 H5 K5 h5 => ?_⟩⟩
        have S5 := S4.keep K5
        have hr5 := S5.hr
        rw [ers, List.map_append] at hr5
        refine ⟨_, rfl, a, _, 5, .ref r, rfl, rfl, SqT.of S5.ha, rfl, noPart ⟨1, rfl, -1, rfl, slA_all hr5 fun t7 H6 K6 h6 => ?_⟩⟩
        rw [show List.map V.ref [rl] = [V.ref rl] from rfl, cut_last] at h6
        have K46 := K5.trans K6
        have D6 := D4.keep K46
        refine ⟨_, rfl, _, rfl, d, c, .ref L3, _, rfl, D6, .inl ⟨L3, rfl, nL3, .inl (K46 _ _ hL3' (by simp))⟩, by show 0 < 5; decide, by show 5 < 1000000000; decide, fun v H7 hv D7 K7 => ?_⟩
        have K47 : Keep [d, c] _ H7 := (K46.mono (by simp)).trans K7
        have K67 := K7
        obtain ⟨t8, p', rfl, h8, hp'⟩ : ∃ t8 p', v = .ref t8 ∧ H7 t8 = some (.tup (prV p')) ∧ p' ∈ five p := by
          simp only [List.cons_append, List.nil_append, List.mem_cons, List.not_mem_nil, or_false] at hv
          rcases hv with rfl | rfl | rfl | rfl | rfl
          · exact ⟨t1, ⟨p.m + 1, p.b, p.a, p.l, p.u⟩, rfl, K47 _ _ w1 (D4.ntup w1), by simp [five]⟩
          · exact ⟨t2, ⟨p.m, 1 - p.b, p.a, p.l, p.u⟩, rfl, K47 _ _ w2 (D4.ntup w2), by simp [five]⟩
          · exact ⟨t3, ⟨p.m, p.b, p.a, p.l, p.u + 1⟩, rfl, K47 _ _ w3 (D4.ntup w3), by simp [five]⟩
          · exact ⟨t4, ⟨p.m, p.b, 1 + p.a % 1000000000, p.l, p.u⟩, rfl, K47 _ _ w4 (D4.ntup w4), by simp [five]⟩
          · exact ⟨t5, ⟨p.m, p.b, p.a, (p.l + 1) % 1000000000000000000000000000000, p.u⟩, rfl, K47 _ _ w5 (D4.ntup w5), by simp [five]⟩
        obtain ⟨okp, lep, nep⟩ := five_ok (ow.ps p (by rw [eps]; simp)) hp'
        refine ⟨by show 1 ≤ sizeLine; omega, fun t9 ht9 => ?_⟩
        obtain ⟨C1, g9⟩ := new_at (o := .tup [V.ref t8]) ht9
        have h6' := C1 _ _ (K7 _ _ h6 (D6.ntup h6)) (by simp)
        have ll : rq.length ≤ 4 := by
          have a1 := pq.len
          have a2 := ow.ok.len
          rw [eps, List.length_append] at a2; simp only [List.length_cons, List.length_nil] at a2; omega
        refine catA_all h6' g9 (by rw [List.length_map]; show _ + 1 ≤ 1000; omega) fun t10 H9 K9 h9 => ?_
        refine ⟨by show 1 ≤ sizeLine; omega, fun t11 ht11 => ?_⟩
        obtain ⟨C2, g11⟩ := new_at (o := .tup [V.ref t10]) ht11
        have K79 := (C1.trans K9).trans C2
        have h5' := K79 _ _ (K7 _ _ (K6 _ _ h5 (by simp)) (D6.ntup (K6 _ _ h5 (by simp)))) (by simp)
        refine catA_all h5' g11 (by show 5 + 1 ≤ 1000; decide) fun t12 H12 K12 h12 => ?_
        have KA := K79.trans K12
        have K4A : Keep [d, c] _ H12 := K47.trans (KA.mono (by simp))
        have hx10 : H12 t10 = some (.tup ((rq ++ [t8]).map V.ref)) := by
          have := K12 _ _ (C2 _ _ h9 (by simp)) (by simp)
          rw [this, List.map_append]; rfl
        have prq : Prs H12 (rq ++ [t8]) (qs ++ [p']) := ((pq.keep B4).keepD K4A D4.notup).snoc (KA _ _ h8 (by simp))
        exact q t12 t10 (rq ++ [t8]) { st with ps := qs ++ [p'] } H12 ⟨h12, hx10, prq⟩ (last_ok ow.ok eps okp lep) (last_ne eps nep) (D7.keep KA) ((K2.trans (B4.mono (by simp))).trans K4A)
end
end My
set_option Elab.async false
set_option maxRecDepth 100000
set_option maxHeartbeats 800000
namespace My
open PySem PySem.Spec PyProof.Rows L2
/-! a def's promise where nothing is being shown around (what repr asks) -/
structure FnG (P : Program) (w : World) (K : PySem.W.Frag) (mg : Str → Option Value) (base : Heap) (k : Nat) (f : Addr) (fd : FuncData) (ps : List Str) (sp : Sp) : Prop where
  len : ∀ vs H Q E, sp vs H Q E → vs.length = ps.length
  run : ∀ (A : Around) (outer : List Env) (s : Shared) (H : Hp) (args : Args) (us : List Value) (vs : List V) (Q : VK) (E : XK), Room k A → A.guards = some [] →
    Env0 P w K mg base A outer s H → BindsTo s fd args (ps.zip us) → Vals vs us → sp vs H Q E → codeAny (model P w) A (.call (.ref f) args) (CR CX0 outer P w H s Q E) s
section
variable {P : Program} {w : World} {K : PySem.W.Frag} {mg : Str → Option Value} {base : Heap}
theorem okG {x qual : Str} {st : Stmt} {f : Addr} {fd : FuncData} {N ps : List Str} {k : Nat} {sp : Sp} (F : Fun K x qual st f fd) (S : FnScope N ps (defScope st)) (len : ∀ vs H Q E, sp vs H Q E → vs.length = ps.length)
    (body : ∀ (cdv : Value) (A : Around) (outer : List Env) (s : Shared) (H : Hp) (vs : List V) (Q : VK) (E : XK), Room k (A.deeper (envOfC qual (defScope st) s.heap.objs.size f cdv)) →
      (A.deeper (envOfC qual (defScope st) s.heap.objs.size f cdv)).guards = some [] → sp vs H Q E →
      ∃ t, PSs (cxOf CX0 P w K mg base N qual (defScope st) f cdv A outer s H E).nox (defBody st) t ∧ t { nx := fun _ H' => Q .non H', rt := Q } (start N vs) H) :
    FnG P w K mg base (k + 1) f fd ps sp := by
  obtain ⟨oc, od, kV, doc, pm, an, cdv, ct, osl, rfl, lk, hcd⟩ := F.ex
  refine ⟨len, fun A outer s H args us vs Q E room g0 e0 bind rel hsp => ?_⟩
  have ll := len _ _ _ _ hsp
  have inK : K.In s.heap := e0.mod.kin.keeps fun b o z => (e0.bs b o z).1
  have noLim : s.heap.NoLimit := e0.mod.nolimit.keeps fun b o z => (e0.bs b o z).1
  have kinds : ∀ y ∈ ps.zip us, (defScope st).names.lookup y.1 = some .local ∨
      ((defScope st).names.lookup y.1 = some .cell ∧ ((cellsFrom (s.heap.objs.size + 1) (defScope st).names []).lookup y.1).isSome = true) := by
    rintro ⟨n, v⟩ hy
    exact (S.par n (List.of_mem_zip hy).1).imp id fun q => ⟨q, PySem.W.cellsFrom_some _ _ _ (.inl q)⟩
  refine codeAny_call_function room.depth (inK _ _ lk) rfl S.co S.gen rfl (PySem.W.codeRec_of inK hcd) (bind _ _ _ _ ?_)
  refine wpAny_newFunctionEnv_cells S.kind kinds fun env he s1 x => ?_
  subst he
  refine ⟨noLim.keeps x.toInCall.keep, codeAny_func ?_⟩
  obtain ⟨t, ht, hq⟩ := body cdv A outer s H vs Q E (room.deeper _) g0 hsp
  have I := inv_start (CX := CX0) (cd := cdv) (f := f) (qual := qual) (E := E) S room.hd e0 ll rel x
  refine wpAny_mono (ht.nox.run [] s1 (start N vs) H _ I hq) (fun fl s' z => ?_) fun _ _ z => z
  match fl, z with
  | .ret u, ⟨v, σ', H', J, rv, q⟩ => exact ⟨v, H', J.os, J.bare, J.base, J.hok, rv, q⟩
  | .next, ⟨σ', H', J, q⟩ => exact ⟨V.non, H', J.os, J.bare, J.base, J.hok, rfl, q⟩
  | .brk, ⟨_, _, _, q⟩ => exact False.elim q
  | .cont, ⟨_, _, _, q⟩ => exact False.elim q
/-- the law's call, from its def's promise -/
theorem law_callG {mb : Str → Option Value} {k : Nat} {fa a : Addr} {fd : FuncData} {x : Str} {sp : Sp} {s₁ : Shared} {vs : List Value} {ns : List Int}
    (KX : K.In s₁.heap) (nsG : s₁.heap.Ns mainGlobals mg) (nsB : s₁.heap.Ns builtinsNs mb) (boot : ∀ x : Str, x ≠ "__name__" → mb x = bootBuiltins x) (lim : s₁.heap.NoLimit) (gens : s₁.gens = #[])
    (la : s₁.heap.get? a = some ⟨.type "list", none, .seq vs.toArray 0, #[]⟩) (isI : IntsAre vs ns) (few : ns.length ≤ sizeLine) (room : Room k callerA)
    (F : ∀ base : Heap, K.In base → base.Ns mainGlobals mg → FnG P w K mg base k fa fd [x] sp) (bind : ∀ (s : Shared) (u : Value), BindsTo s fd ⟨[u], []⟩ [(x, u)])
    (hsp : ∀ H : Hp, SqL K H a (ns.map V.int) → sp [.ref a] H (fun v _ => v = .bl true) fun _ _ _ => False) :
    codeAny (model P w) callerA (.call (.ref fa) ⟨[.ref a], []⟩) (fun r s' => r = .ok (.ret (.bool true)) ∧ OldK s₁.heap s'.heap ∧ s'.os = s₁.os ∧ AllBare s'.gens) s₁ := by
  have vals := vals_ints isI
  -- the heap where nothing but the script is told, and where it is told, the module's part hasn't it
  have main : ∀ H : Hp, (∀ b o, H b = some o → b = a ∧ K.lookup a = none ∧ ∃ ob u, o = .frz ob u) → HOk P w H s₁.heap → SqL K H a (ns.map V.int) →
      codeAny (model P w) callerA (.call (.ref fa) ⟨[.ref a], []⟩) (fun r s' => r = .ok (.ret (.bool true)) ∧ OldK s₁.heap s'.heap ∧ s'.os = s₁.os ∧ AllBare s'.gens) s₁ := by
    intro H only hok hS
    have free : ∀ b, b ≠ a → H b = none := fun b n => by
      cases e : H b with
      | none => rfl
      | some o => exact absurd (only b o e).1 n
    have nsOf : ∀ {b : Addr} {m : Str → Option Value}, s₁.heap.Ns b m → (hidT s₁.heap H).Ns b m := by
      rintro b m ⟨o, es, ep, e, dt, r⟩
      refine ⟨o, es, ep, hidT_get e (free b ?_), dt, r⟩
      rintro rfl
      rw [la] at e; cases e; cases dt
    have inK : K.In (hidT s₁.heap H) := fun b o e => hidT_get (KX b o e) (by
      cases q : H b with
      | none => rfl
      | some u =>
        obtain ⟨rfl, z, _⟩ := only b u q
        rw [z] at e; cases e)
    have md : Mod K mg (hidT s₁.heap H) := ⟨inK, nsOf nsG, ⟨mb, nsOf nsB, boot⟩, let ⟨mc, c1, c2⟩ := lim; ⟨mc, nsOf c1, c2⟩⟩
    have e0 : Env0 P w K mg (hidT s₁.heap H) callerA [] s₁ H :=
      { frames := rfl, mod := md, bs := fun b o e => of_hidT e, bsz := Nat.le_of_eq (hidT_size _ _), funs := trivial, frf := fun b z => absurd z (List.not_mem_nil), hok := hok, bare := .of_eq gens }
    have go := (F _ inK (nsOf nsG)).run callerA [] s₁ H ⟨[.ref a], []⟩ [.ref a] [.ref a] _ _ room rfl e0 (bind s₁ (.ref a)) (.cons rfl .nil) (hsp H hS)
    refine codeAny_mono go fun r s' z => ?_
    match r, z with
    | .ok (.ret u), ⟨v, H', os, bare, un, hok', rel, q⟩ =>
      have q : v = .bl true := q
      subst q
      cases (show u = Value.bool true from rel)
      refine ⟨rfl, OldK.of_keep fun b o e => ?_, os, bare⟩
      cases hb : H b with
      | none => exact un.keep b o e hb List.not_mem_nil List.not_mem_nil
      | some u =>
        obtain ⟨_, _, ob, u', rfl⟩ := only b u hb
        have e1 := (show ObjOk P w H s₁.heap b (.frz ob u') from hok b _ hb).1
        have e2 := (show ObjOk P w H' s'.heap b (.frz ob u') from hok' b _ (un.frzs b ob _ hb)).1
        rw [e] at e1; cases e1; exact e2
  cases hk : K.lookup a with
  | some o =>
    have e := KX a o hk
    rw [la] at e; cases e
    refine main (fun _ => none) (fun b o z => by cases z) (fun b u z => by cases z) (.inr ⟨_, vs.toArray, 0, hk, rfl, rfl, rfl, ?_, by simpa using vals⟩)
    rw [List.size_toArray, isI.length]; exact few
  | none =>
    refine main (upd (fun _ => none) a (.frz ⟨.type "list", none, .seq vs.toArray 0, #[]⟩ (.lst (ns.map V.int)))) (fun b o z => ?_) (fun b o z => ?_) (.inl (.inr ⟨_, upd_same⟩))
    · by_cases hb : b = a
      · subst hb; rw [upd_same] at z; cases z; exact ⟨rfl, hk, _, _, rfl⟩
      · rw [upd_ne hb] at z; cases z
    · by_cases hb : b = a
      · subst hb; rw [upd_same] at z; cases z
        exact ⟨la, by rw [List.length_map]; exact few, vs, 0, vals, la⟩
      · rw [upd_ne hb] at z; cases z
end
theorem walkG {l : PySem.W.OpenLaw} {n k : Nat} {q : Program} {loose : List Str} {XP : (Str → Option Value) → Heap → Prop} {YP : World → Heap → Prop} {d : DefRec} {K : Params → PySem.W.Frag} {sp : PySem.W.Frag → Sp} {x : Str}
    (hn : l.most = some n) (hn2 : n ≤ sizeLine) (hdf : d.params.defaults = []) (room : Room k callerA) (hY : ∀ (w : World) (h : Heap), YP w h → (K w.params).In h)
    (F : ∀ (w : World) (mg : Str → Option Value) (fa : Addr) (h : Heap), (K w.params).In h → h.Ns mainGlobals mg → mg d.name = some (.ref fa) →
      ∃ fd : FuncData, (∀ (s : Shared) (u : Value), BindsTo s fd ⟨[u], []⟩ [(x, u)]) ∧ ∀ base : Heap, (K w.params).In base → base.Ns mainGlobals mg → FnG l.prog w (K w.params) mg base k fa fd [x] (sp (K w.params)))
    (hsp : ∀ (K : PySem.W.Frag) (H : Hp) (a : Addr) (ns : List Int), ns.length ≤ n → SqL K H a (ns.map V.int) → sp K [.ref a] H (fun v _ => v = .bl true) fun _ _ _ => False) :
    PySem.W.WalkO q loose XP YP l.row.toRowW d [] (fun f vs => PySem.call f vs) := by
  refine Att.attach_call hn hdf fun w s₀ s₁ mg mb fa o pm cd doc a vs ns G Y ho hd hcd hmg hobj hints hlen hg => ?_
  have KX := hY w _ Y
  obtain ⟨fd, hb, hF⟩ := F w mg fa _ KX G.T.g hmg
  exact law_callG KX G.T.g G.T.b G.T.builtins G.T.nolimit hg hobj hints (Nat.le_trans hlen hn2) room hF hb fun H hS => hsp _ H a ns hlen hS
end My
set_option Elab.async false
set_option maxRecDepth 100000
set_option maxHeartbeats 800000
namespace My
open PySem L2 TL StX
/-! a state's repr -/
structure Fits (d : PyData) (w k : Nat) : Prop where
  sh : d.showable = true
  ls : d.leavesShort 50 = true
  wt : d.weight ≤ w
  dp : d.depth ≤ k
  nd : d.hasDict = false
structure FitsA (ds : List PyData) (w k : Nat) : Prop where
  sh : PyData.showableAll ds = true
  ls : PyData.leavesShortAll 50 ds = true
  wt : PyData.weightAll ds ≤ ds.length * (w + 1)
  dp : PyData.depthAll ds ≤ k
  nd : PyData.hasDictAll ds = false
theorem FitsA.of {w k : Nat} : ∀ {ds : List PyData}, (∀ d ∈ ds, Fits d w k) → FitsA ds w k
  | [], _ => ⟨rfl, rfl, Nat.zero_le _, Nat.zero_le _, rfl⟩
  | d :: ds, h => by
    have h1 := h d (by simp)
    have h2 := FitsA.of (ds := ds) fun x hx => h x (List.mem_cons_of_mem _ hx)
    refine ⟨?_, ?_, ?_, ?_, ?_⟩
    · simp only [PyData.showableAll, h1.sh, h2.sh, Bool.and_self]
    · simp only [PyData.leavesShortAll, h1.ls, h2.ls, Bool.and_self]
    · simp only [PyData.weightAll, List.length_cons]
      have a := h1.wt; have b := h2.wt
      rw [Nat.add_mul, Nat.one_mul]; omega
    · simp only [PyData.depthAll]
      exact Nat.max_le.mpr ⟨h1.dp, h2.dp⟩
    · simp only [PyData.hasDictAll, h1.nd, h2.nd, Bool.or_self]
theorem Fits.up {d : PyData} {w w' k k' : Nat} (h : Fits d w k) (hw : w ≤ w') (hk : k ≤ k') : Fits d w' k' := { h with wt := Nat.le_trans h.wt hw, dp := Nat.le_trans h.dp hk }
theorem Fits.seqT {ds : List PyData} {w k n : Nat} (h : FitsA ds w k) (l : ds.length ≤ n) : Fits (.tuple ds) (n * (w + 1)) (k + 1) := by
  refine ⟨by simpa only [PyData.showable] using h.sh, by simpa only [PyData.leavesShort] using h.ls, ?_, ?_, by simpa only [PyData.hasDict] using h.nd⟩
  · simp only [PyData.weight]; exact Nat.le_trans h.wt (Nat.mul_le_mul_right _ l)
  · simp only [PyData.depth]; have := h.dp; omega
theorem fits_int {i : Int} (h : NumOk i) : Fits (.int i) 200 0 := by
  have e := BIG_eq
  have lb : i.natAbs.log2 < 140 := by
    obtain ⟨h0, h1⟩ := h
    by_cases z : i.natAbs = 0
    · rw [z]; decide
    · refine (Nat.log2_lt (k := 140) z).mpr ?_
      have : (2 : Nat) ^ 140 = 1393796574908163946345982392040522594123776 := by decide +kernel
      omega
  refine ⟨?_, ?_, ?_, Nat.le_refl _, rfl⟩
  · simp only [PyData.showable, decide_eq_true_eq]; omega
  · simp only [PyData.leavesShort, decide_eq_true_eq]
    simp only [PyData.shown]
    show (Str.ofString (toString i)).length ≤ 50
    have := tx_len h
    rw [len_tl]
    unfold tx at this
    omega
  · simp only [PyData.weight]; split <;> omega
theorem fits_P {p : PRO} (h : OkP p) : Fits (dP p) 1005 1 := by
  refine Fits.seqT (w := 200) (k := 0) (n := 5) (FitsA.of fun d hd => ?_) (by show 5 ≤ 5; decide)
  obtain ⟨i, hi, rfl⟩ := List.mem_map.mp hd
  exact fits_int (h.nums i hi)
theorem fits_S {s : SO} (h : OkS s) : Fits (dS s) 24150 3 := by
  have hp : Fits (dPs s.ps) 4024 2 := by
    refine Fits.seqT (w := 1005) (k := 1) (n := 4) (FitsA.of fun d hd => ?_) (by rw [List.length_map]; exact h.len)
    obtain ⟨p, hp, rfl⟩ := List.mem_map.mp hd
    exact fits_P (h.ok p hp)
  refine (Fits.seqT (w := 4024) (k := 2) (n := 6) (FitsA.of fun d hd => ?_) (by show 6 ≤ 6; decide)).up (by decide) (Nat.le_refl _)
  simp only [List.mem_cons, List.not_mem_nil, or_false] at hd
  have hn := h.nums
  simp only [sn, List.mem_cons, List.not_mem_nil, or_false] at hn
  rcases hd with rfl | rfl | rfl | rfl | rfl | rfl
  · exact ⟨rfl, by decide +kernel, by decide +kernel, by decide, rfl⟩
  · exact (fits_int (hn _ (.inl rfl))).up (by decide) (by decide)
  · exact (fits_int (hn _ (.inr (.inl rfl)))).up (by decide) (by decide)
  · exact (fits_int (hn _ (.inr (.inr (.inl rfl))))).up (by decide) (by decide)
  · exact (fits_int (hn _ (.inr (.inr (.inr rfl))))).up (by decide) (by decide)
  · exact hp
theorem Fits.size {d : PyData} {w k : Nat} (h : Fits d w k) (hw : w ≤ 100000) : d.shown.length ≤ sizeLine := by
  have := PyData.shown_le 50 (by decide) d h.ls
  have h2 : (50 + 2) * d.weight ≤ 52 * 100000 := Nat.mul_le_mul (by decide) (Nat.le_trans h.wt hw)
  rw [sizeLine_eq]; omega
section
variable {X : Cx}
/-- repr(s), where nothing is being shown around -/
theorem call_reprS (hg : X.A.guards = some []) (hu : X.A.units + 64 < cLine) : CallR X (.builtin "repr") (fun vs H Q => ∃ a r rs s, vs = [V.ref a] ∧ StAt H a r rs s ∧ OkS s ∧ Q (.str (dS s).shown) H) := by
  intro pins s σ H xs us Q I r h
  obtain ⟨a, r', rs, st, rfl, SA, ok, q⟩ := h
  obtain ⟨u, rfl, rx⟩ := vals1 r
  have fi := fits_S ok
  have sz := fi.size (by decide)
  cases (show u = Value.ref a from rx)
  obtain ⟨as, rd⟩ := Dp.reads I (dS st) (.ref a) (.ref a) (Dp_st SA) rfl
  refine repr_of_reads' rd fi.sh (fun z => by rw [fi.nd] at z; cases z) hg (by have := fi.dp; omega) (fun _ _ e => e) (fun h' u tk hk => ?_) sz
  exact ⟨.str _, H, I.kept (t' := tk) hk, ⟨_, rfl⟩, q⟩
end
end My
set_option Elab.async false
set_option maxRecDepth 100000
set_option maxHeartbeats 800000
namespace My
open PySem L2 TL StX
theorem sq_keep {K : PySem.W.Frag} {H H' : Hp} {a : Addr} {xs : List V} {ds : List Addr} (h : SqL K H a xs) (k : Keep ds H H') (n : ∀ o, H a = some o → a ∉ ds) : SqL K H' a xs := by
  rcases h with (h | ⟨o, h⟩) | h
  · exact .inl (.inl (k _ _ h (n _ h)))
  · exact .inl (.inr ⟨o, k _ _ h (n _ h)⟩)
  · exact .inr h
section
variable {P : Program} {w : World} {K : PySem.W.Frag} {mg : Str → Option Value} {base : Heap}
def sp_law (K : PySem.W.Frag) : Sp := fun vs H Q _ => ∃ (a : Addr) (ns : List Int), vs = [.ref a] ∧ SqL K H a (ns.map V.int) ∧ ns.length ≤ 63 ∧ ∀ H', Q (.bl true) H'
theorem g_law (T : Txt K mg) {f : Addr} {fd : FuncData} (F : Fun K "law" "law" s_law f fd) : FnG P w K mg base 9 f fd ["script"] (sp_law K) := by
  obtain ⟨f_state_text, fd_state_text, D_state_text, G_state_text⟩ := p_state_text (P := P) (w := w) (base := base) T; obtain ⟨f_read_state, fd_read_state, D_read_state, G_read_state⟩ := p_read_state (P := P) (w := w) (base := base) T; obtain ⟨f__law_text, fd__law_text, D__law_text, G__law_text⟩ := p__law_text (P := P) (w := w) (base := base) T; obtain ⟨f__law_other, fd__law_other, D__law_other, G__law_other⟩ := p__law_other (P := P) (w := w) (base := base) T; obtain ⟨f__law_state, fd__law_state, D__law_state, G__law_state⟩ := p__law_state (P := P) (w := w) (base := base) T; obtain ⟨f__law_begin, fd__law_begin, D__law_begin, G__law_begin⟩ := p__law_begin (P := P) (w := w) (base := base) T
  refine okG F sc_law (fun vs H Q E h => ?_) (fun cdv A outer s H vs Q E hr hg h => ?_)
  · obtain ⟨a, ns, rfl, _⟩ := h; rfl
  · obtain ⟨a, ns, rfl, hS, hl, q⟩ := h
    have hsl : sizeLine = 16777216 := sizeLine_eq
    refine ⟨_, (pss_cons (ps_set (i := 1) sc_law.nd rfl (Or.inl rfl) (pe_call G__law_begin (hr.mono (by decide)) rfl D__law_begin.m D__law_begin.F.kp D__law_begin.b .nil pass0 (pa_cons (pv 0) pa_nil)))
      (pss_cons (ps_for PassesOwn.never rfl (pi_range1 rfl T.z_range (pa_cons (pe_callB (call_max2 rfl) (by rfl) T.z_max (by decide +kernel) (pa_cons pe_int (pa_cons (pe_callB (call_min2 rfl) (by rfl) T.z_min (by decide +kernel) (pa_cons pe_int (pa_cons (pe_callB call_len_seq (by rfl) T.z_len (by decide +kernel) (pa_cons (pv 0) pa_nil)) pa_nil))) pa_nil))) pa_nil)) (pg_name (i := 2) sc_law.nd rfl (Or.inl rfl)) (pss_cons (ps_set (i := 3) sc_law.nd rfl (Or.inl rfl) (pe_call G__law_state (hr.mono (by decide)) rfl D__law_state.m D__law_state.F.kp D__law_state.b .nil pass0 (pa_cons (pv 1) pa_nil)))
      (pss_cons (ps_par (i := 4) (j := 5) (by rfl) sc_law.nd rfl rfl (by decide) rfl rfl (pa_cons (pe_call G_state_text (hr.mono (by decide)) rfl D_state_text.m D_state_text.F.kp D_state_text.b .nil pass0 (pa_cons (pv 3) pa_nil)) (pa_cons (pe_call G__law_other (hr.mono (by decide)) rfl D__law_other.m D__law_other.F.kp D__law_other.b .nil pass0 (pa_cons (pv 1) (pa_cons (pv 3) pa_nil))) pa_nil)) (by rfl))
      (pss_cons (ps_if (PW.pt (pw_or (pt_cmpR op_ne (pv 4) (pe_call G__law_text (hr.mono (by decide)) rfl D__law_text.m D__law_text.F.kp D__law_text.b .nil pass0 (pa_cons (pv 3) pa_nil)) (nomark _)) (pw_or1 (pt_cmpR op_ne (pe_call G_state_text (hr.mono (by decide)) rfl D_state_text.m D_state_text.F.kp D_state_text.b .nil pass0 (pa_cons (pv 3) pa_nil)) (pv 4) (nomark _))))) (pss_one (ps_ret pe_bl)) pss_nil)
      (pss_cons (ps_for PassesOwn.never rfl (pi_list (pe_lst (pa_cons (pe_call G_read_state (hr.mono (by decide)) rfl D_read_state.m D_read_state.F.kp D_read_state.b .nil pass0 (pa_cons (pv 4) pa_nil)) (pa_cons (pe_call G_read_state (hr.mono (by decide)) rfl D_read_state.m D_read_state.F.kp D_read_state.b .nil pass0 (pa_cons (pv 4) pa_nil)) pa_nil)))) (pg_name (i := 6) sc_law.nd rfl (Or.inl rfl)) (pss_one (ps_if (PW.pt (pw_or (pt_cmpR (op_neD hr.units) (pv 6) (pv 3) (nomark _)) (pw_or1 (pt_cmpR op_ne (pe_callB (call_reprS hg hr.units) (by rfl) T.z_repr (by decide +kernel) (pa_cons (pv 6) pa_nil)) (pe_callB (call_reprS hg hr.units) (by rfl) T.z_repr (by decide +kernel) (pa_cons (pv 3) pa_nil)) (nomark _))))) (pss_one (ps_ret pe_bl)) pss_nil)))
      (pss_one (ps_if (PW.pt (pw_or (pt_cmpR op_eq (pe_call G_state_text (hr.mono (by decide)) rfl D_state_text.m D_state_text.F.kp D_state_text.b .nil pass0 (pa_cons (pv 5) pa_nil)) (pv 4) (nomark _)) (pw_or1 (pt_cmpR (op_neD hr.units) (pe_call G_read_state (hr.mono (by decide)) rfl D_read_state.m D_read_state.F.kp D_read_state.b .nil pass0 (pa_cons (pe_call G_state_text (hr.mono (by decide)) rfl D_state_text.m D_state_text.F.kp D_state_text.b .nil pass0 (pa_cons (pv 5) pa_nil)) pa_nil)) (pv 5) (nomark _))))) (pss_one (ps_ret pe_bl)) pss_nil)))))))
      (pss_one (ps_ret pe_bl)))), ?_⟩
    refine ⟨_, rfl, a, ns, rfl, hS, hl, fun d c H1 hd hc D1 K1 => ?_⟩
    have hS1 := sq_keep hS K1 (by simp)
    refine ⟨_, rfl, a, _, rfl, .inl hS1, _, _, rfl, _, _, rfl, _, rfl, ?_, ?_, ?_⟩
    · rw [List.length_map]; split <;> split <;> omega
    · rw [List.length_map]; split <;> split <;> omega
    refine for_range (lo := 0) (fun i σ H4 => ∃ v2 v3 v4 v5 v6 : Option V, σ = [some (.ref a), some (.ref d), v2, v3, v4, v5, v6] ∧ DrawAt H4 d c) ⟨none, none, none, none, none, rfl, D1⟩ ?_ ?_
    · rintro i σ H4 hi ⟨v2, v3, v4, v5, v6, rfl, D4⟩
      refine ⟨_, rfl, d, c, rfl, D4, fun sa r rs st H5 S5 ow D5 K5 => ?_⟩
      refine ⟨_, rfl, sa, r, rs, st, rfl, S5, ow.ok, fun H6 K6 => ?_⟩
      refine ⟨_, rfl, _, rfl, d, c, sa, r, rs, st, rfl, D5.keep K6, S5.keep K6, ow, fun oa or_ ors ost H7 O7 ook one D7 K7 => ?_⟩
      have S7 := (S5.keep K6).keepD K7 (D5.keep K6).notup
      refine ⟨_, _, rfl, ?_⟩
      refine ⟨_, rfl, _, rfl, sa, r, rs, st, rfl, S7, ow.ok, fun H8 K8 => ⟨rfl, _, rfl, ?_⟩⟩
      rw [law_text, show (!decide (V.str (textS st) = V.str (textS st))) = false from by simp]
      refine iteF ⟨_, rfl, sa, r, rs, st, rfl, S7.keep K8, ow.ok, fun H9 K9 => ⟨_, rfl, rfl, _, rfl, ?_⟩⟩
      rw [show (!decide (V.str (textS st) = V.str (textS st))) = false from by simp]
      refine iteF ?_
      have K79 := K8.trans K9
      refine ⟨_, rfl, st, rfl, ow.ok, fun ra rr rrs H10 K10 R10 => ⟨_, rfl, st, rfl, ow.ok, fun rb rq rqs H11 K11 R11 => ⟨by show 2 ≤ sizeLine; omega, fun L hL => ?_⟩⟩⟩
      obtain ⟨KL, hLL⟩ := new_at (o := .lst [V.ref ra, .ref rb]) hL
      generalize upd H11 L (.lst [V.ref ra, .ref rb]) = H12 at KL hLL
      have K7L := ((K79.trans K10).trans K11).trans KL
      have S12 := S7.keep K7L
      have O12 := O7.keep K7L
      have all2 : ∀ x ∈ [V.ref ra, .ref rb], ∃ a' r' rs', x = .ref a' ∧ StAt H12 a' r' rs' st := by
        intro x hx
        simp only [List.mem_cons, List.not_mem_nil, or_false] at hx
        rcases hx with rfl | rfl
        · exact ⟨ra, rr, rrs, rfl, (R10.keep K11).keep KL⟩
        · exact ⟨rb, rq, rqs, rfl, R11.keep KL⟩
      refine ⟨L, rfl, ⟨_, SqL.of hLL⟩, for_list (K := K) (a := L) (xs := [V.ref ra, .ref rb]) (fun j σ H13 => Keep [] H12 H13 ∧ ∃ v6, σ = [some (.ref a), some (.ref d), some (.int (0 + i)), some (.ref sa), some (.str (textS st)), some (.ref oa), v6]) ⟨Keep.refl, _, rfl⟩ (fun j σ H13 _ ⟨k, _⟩ => SqL.of (k _ _ hLL (by simp))) ?_ ?_⟩
      · rintro j x σ H13 hx ⟨K13, v6, rfl⟩
        obtain ⟨a', r', rs', rfl, S'⟩ := all2 x (List.mem_of_getElem? hx)
        have S'13 := S'.keep K13
        have S13 := S12.keep K13
        refine ⟨_, rfl, _, rfl, _, _, Dp_st S'13, Dp_st S13, shaped_st _, shaped_st _, _, rfl, ?_⟩
        rw [eqv_S]
        refine iteF ?_
        refine ⟨_, rfl, a', r', rs', st, rfl, S'13, ow.ok, _, rfl, sa, r, rs, st, rfl, S13, ow.ok, rfl, _, rfl, ?_⟩
        rw [show (!decide (V.str (dS st).shown = V.str (dS st).shown)) = false from by simp]
        exact iteF ⟨K13, _, rfl⟩
      · rintro σ H13 ⟨K13, v6, rfl⟩
        have O13 := O12.keep K13
        refine ⟨_, rfl, oa, or_, ors, ost, rfl, O13, ook, fun H14 K14 => ⟨_, rfl, rfl, _, rfl, ?_⟩⟩
        have ne : decide (V.str (textS ost) = V.str (textS st)) = false := decide_eq_false fun z => one (text_inj ook ow.ok (by injection z))
        rw [ne]
        refine iteF ?_
        refine ⟨_, rfl, oa, or_, ors, ost, rfl, O13.keep K14, ook, fun H15 K15 => ?_⟩
        refine ⟨ost, rfl, ook, fun rc rd res H16 K16 R16 => ?_⟩
        have O16 := ((O13.keep K14).keep K15).keep K16
        refine ⟨_, rfl, _, _, Dp_st R16, Dp_st O16, shaped_st _, shaped_st _, _, rfl, ?_⟩
        rw [eqv_S]
        refine iteF ?_
        have KA := ((K7L.trans K13).trans K14).trans (K15.trans K16)
        exact ⟨_, _, _, _, _, rfl, D7.keep KA⟩
    · rintro σ H4 ⟨v2, v3, v4, v5, v6, rfl, D4⟩
      exact q H4
end
end My
set_option Elab.async false
set_option maxRecDepth 100000
set_option maxHeartbeats 4000000
namespace My
open PySem L2
section
variable {P : Program} {w : World} {K : PySem.W.Frag} {mg : Str → Option Value}
theorem fin {fa : Addr} (T : Txt K mg) (hmg : mg "law" = some (.ref fa)) : ∃ fd : FuncData, (∀ (s : Shared) (u : Value), BindsTo s fd ⟨[u], []⟩ [("script", u)]) ∧
    ∀ base : Heap, K.In base → base.Ns mainGlobals mg → FnG P w K mg base 9 fa fd ["script"] (sp_law K) := by
  obtain ⟨f, fd, D⟩ := T.d_law
  have e := hmg.symm.trans D.m
  cases e
  refine ⟨fd, fun s u => ?_, fun base _ _ => g_law T D.F⟩
  obtain ⟨oc, od, kV, doc, pm, an, cdv, ct, osl, rfl, lk, hcd⟩ := D.F.ex
  exact .of_eq rfl
end
theorem all_mk {K : PySem.W.Frag} {h : Heap} {mg : Str → Option Value} (X : K.In h) (G : h.Ns mainGlobals mg)
{f0 f1 f2 f3 f4 f5 f6 f7 f8 f9 f10 f11 f12 f13 f14 f15 f16 f17 f18 f19 f20 f21 f22 f23 : Addr} {od0 od1 od2 od3 od4 od5 od6 od7 od8 od9 od10 od11 od12 od13 od14 od15 od16 od17 od18 od19 od20 od21 od22 od23 an0 an1 an2 an3 an4 an5 an6 an7 an8 an9 an10 an11 an12 an13 an14 an15 an16 an17 an18 an19 an20 an21 an22 an23 : Option Addr} {sl0 sl1 sl2 sl3 sl4 sl5 sl6 sl7 sl8 sl9 sl10 sl11 sl12 sl13 sl14 sl15 sl16 sl17 sl18 sl19 sl20 sl21 sl22 sl23 : Array (Option Value)} {oc0 oc1 oc2 oc3 oc4 oc5 oc6 oc7 oc8 oc9 oc10 oc11 oc12 oc13 oc14 oc15 oc16 oc17 oc18 oc19 oc20 oc21 oc22 oc23 kV0 kV1 kV2 kV3 kV4 kV5 kV6 kV7 kV8 kV9 kV10 kV11 kV12 kV13 kV14 kV15 kV16 kV17 kV18 kV19 kV20 kV21 kV22 kV23 dc0 dc1 dc2 dc3 dc4 dc5 dc6 dc7 dc8 dc9 dc10 dc11 dc12 dc13 dc14 dc15 dc16 dc17 dc18 dc19 dc20 dc21 dc22 dc23 pm0 pm1 pm2 pm3 pm4 pm5 pm6 pm7 pm8 pm9 pm10 pm11 pm12 pm13 pm14 pm15 pm16 pm17 pm18 pm19 pm20 pm21 pm22 pm23 cd0 cd1 cd2 cd3 cd4 cd5 cd6 cd7 cd8 cd9 cd10 cd11 cd12 cd13 cd14 cd15 cd16 cd17 cd18 cd19 cd20 cd21 cd22 cd23 ct0 ct1 ct2 ct3 ct4 ct5 ct6 ct7 ct8 ct9 ct10 ct11 ct12 ct13 ct14 ct15 ct16 ct17 ct18 ct19 ct20 ct21 ct22 ct23 : Value}
{t0 t1 t2 t3 t4 t5 : Tok}
(a0 : PySem.W.nsIn K mainGlobals "is_number" = some (some (.ref f0))) (l0 : K.lookup f0 = some ⟨oc0, od0, .func (PySem.W.fnOf "is_number" "is_number" (defArgs s_is_number) (defBody s_is_number) (defScope s_is_number) .none kV0 dc0 pm0 an0 cd0 ct0), sl0⟩) (c0 : PySem.W.codeIn K cd0 "is_number" = true) (k0 : PySem.W.keepIn K (.ref f0) = true)
(a1 : PySem.W.nsIn K mainGlobals "is_count" = some (some (.ref f1))) (l1 : K.lookup f1 = some ⟨oc1, od1, .func (PySem.W.fnOf "is_count" "is_count" (defArgs s_is_count) (defBody s_is_count) (defScope s_is_count) .none kV1 dc1 pm1 an1 cd1 ct1), sl1⟩) (c1 : PySem.W.codeIn K cd1 "is_count" = true) (k1 : PySem.W.keepIn K (.ref f1) = true)
(a2 : PySem.W.nsIn K mainGlobals "is_amount" = some (some (.ref f2))) (l2 : K.lookup f2 = some ⟨oc2, od2, .func (PySem.W.fnOf "is_amount" "is_amount" (defArgs s_is_amount) (defBody s_is_amount) (defScope s_is_amount) .none kV2 dc2 pm2 an2 cd2 ct2), sl2⟩) (c2 : PySem.W.codeIn K cd2 "is_amount" = true) (k2 : PySem.W.keepIn K (.ref f2) = true)
(a3 : PySem.W.nsIn K mainGlobals "is_whole" = some (some (.ref f3))) (l3 : K.lookup f3 = some ⟨oc3, od3, .func (PySem.W.fnOf "is_whole" "is_whole" (defArgs s_is_whole) (defBody s_is_whole) (defScope s_is_whole) .none kV3 dc3 pm3 an3 cd3 ct3), sl3⟩) (c3 : PySem.W.codeIn K cd3 "is_whole" = true) (k3 : PySem.W.keepIn K (.ref f3) = true)
(a4 : PySem.W.nsIn K mainGlobals "is_time" = some (some (.ref f4))) (l4 : K.lookup f4 = some ⟨oc4, od4, .func (PySem.W.fnOf "is_time" "is_time" (defArgs s_is_time) (defBody s_is_time) (defScope s_is_time) .none kV4 dc4 pm4 an4 cd4 ct4), sl4⟩) (c4 : PySem.W.codeIn K cd4 "is_time" = true) (k4 : PySem.W.keepIn K (.ref f4) = true)
(a5 : PySem.W.nsIn K mainGlobals "is_digest" = some (some (.ref f5))) (l5 : K.lookup f5 = some ⟨oc5, od5, .func (PySem.W.fnOf "is_digest" "is_digest" (defArgs s_is_digest) (defBody s_is_digest) (defScope s_is_digest) .none kV5 dc5 pm5 an5 cd5 ct5), sl5⟩) (c5 : PySem.W.codeIn K cd5 "is_digest" = true) (k5 : PySem.W.keepIn K (.ref f5) = true)
(a6 : PySem.W.nsIn K mainGlobals "read_number" = some (some (.ref f6))) (l6 : K.lookup f6 = some ⟨oc6, od6, .func (PySem.W.fnOf "read_number" "read_number" (defArgs s_read_number) (defBody s_read_number) (defScope s_read_number) .none kV6 dc6 pm6 an6 cd6 ct6), sl6⟩) (c6 : PySem.W.codeIn K cd6 "read_number" = true) (k6 : PySem.W.keepIn K (.ref f6) = true)
(a7 : PySem.W.nsIn K mainGlobals "is_party" = some (some (.ref f7))) (l7 : K.lookup f7 = some ⟨oc7, od7, .func (PySem.W.fnOf "is_party" "is_party" (defArgs s_is_party) (defBody s_is_party) (defScope s_is_party) .none kV7 dc7 pm7 an7 cd7 ct7), sl7⟩) (c7 : PySem.W.codeIn K cd7 "is_party" = true) (k7 : PySem.W.keepIn K (.ref f7) = true)
(a8 : PySem.W.nsIn K mainGlobals "is_promise" = some (some (.ref f8))) (l8 : K.lookup f8 = some ⟨oc8, od8, .func (PySem.W.fnOf "is_promise" "is_promise" (defArgs s_is_promise) (defBody s_is_promise) (defScope s_is_promise) .none kV8 dc8 pm8 an8 cd8 ct8), sl8⟩) (c8 : PySem.W.codeIn K cd8 "is_promise" = true) (k8 : PySem.W.keepIn K (.ref f8) = true)
(a9 : PySem.W.nsIn K mainGlobals "is_state" = some (some (.ref f9))) (l9 : K.lookup f9 = some ⟨oc9, od9, .func (PySem.W.fnOf "is_state" "is_state" (defArgs s_is_state) (defBody s_is_state) (defScope s_is_state) .none kV9 dc9 pm9 an9 cd9 ct9), sl9⟩) (c9 : PySem.W.codeIn K cd9 "is_state" = true) (k9 : PySem.W.keepIn K (.ref f9) = true)
(a10 : PySem.W.nsIn K mainGlobals "_are_promises" = some (some (.ref f10))) (l10 : K.lookup f10 = some ⟨oc10, od10, .func (PySem.W.fnOf "_are_promises" "_are_promises" (defArgs s__are_promises) (defBody s__are_promises) (defScope s__are_promises) .none kV10 dc10 pm10 an10 cd10 ct10), sl10⟩) (c10 : PySem.W.codeIn K cd10 "_are_promises" = true) (k10 : PySem.W.keepIn K (.ref f10) = true)
(a11 : PySem.W.nsIn K mainGlobals "state_text" = some (some (.ref f11))) (l11 : K.lookup f11 = some ⟨oc11, od11, .func (PySem.W.fnOf "state_text" "state_text" (defArgs s_state_text) (defBody s_state_text) (defScope s_state_text) .none kV11 dc11 pm11 an11 cd11 ct11), sl11⟩) (c11 : PySem.W.codeIn K cd11 "state_text" = true) (k11 : PySem.W.keepIn K (.ref f11) = true)
(a12 : PySem.W.nsIn K mainGlobals "read_state" = some (some (.ref f12))) (l12 : K.lookup f12 = some ⟨oc12, od12, .func (PySem.W.fnOf "read_state" "read_state" (defArgs s_read_state) (defBody s_read_state) (defScope s_read_state) .none kV12 dc12 pm12 an12 cd12 ct12), sl12⟩) (c12 : PySem.W.codeIn K cd12 "read_state" = true) (k12 : PySem.W.keepIn K (.ref f12) = true)
(a13 : PySem.W.nsIn K mainGlobals "_look_at" = some (some (.ref f13))) (l13 : K.lookup f13 = some ⟨oc13, od13, .func (PySem.W.fnOf "_look_at" "_look_at" (defArgs s__look_at) (defBody s__look_at) (defScope s__look_at) .none kV13 dc13 pm13 an13 cd13 ct13), sl13⟩) (c13 : PySem.W.codeIn K cd13 "_look_at" = true) (k13 : PySem.W.keepIn K (.ref f13) = true)
(a14 : PySem.W.nsIn K mainGlobals "_row" = some (some (.ref f14))) (l14 : K.lookup f14 = some ⟨oc14, od14, .func (PySem.W.fnOf "_row" "_row" (defArgs s__row) (defBody s__row) (defScope s__row) .none kV14 dc14 pm14 an14 cd14 ct14), sl14⟩) (c14 : PySem.W.codeIn K cd14 "_row" = true) (k14 : PySem.W.keepIn K (.ref f14) = true)
(a15 : PySem.W.nsIn K mainGlobals "_numbers" = some (some (.ref f15))) (l15 : K.lookup f15 = some ⟨oc15, od15, .func (PySem.W.fnOf "_numbers" "_numbers" (defArgs s__numbers) (defBody s__numbers) (defScope s__numbers) .none kV15 dc15 pm15 an15 cd15 ct15), sl15⟩) (c15 : PySem.W.codeIn K cd15 "_numbers" = true) (k15 : PySem.W.keepIn K (.ref f15) = true)
(a16 : PySem.W.nsIn K mainGlobals "_law_begin" = some (some (.ref f16))) (l16 : K.lookup f16 = some ⟨oc16, od16, .func (PySem.W.fnOf "_law_begin" "_law_begin" (defArgs s__law_begin) (defBody s__law_begin) (defScope s__law_begin) .none kV16 dc16 pm16 an16 cd16 ct16), sl16⟩) (c16 : PySem.W.codeIn K cd16 "_law_begin" = true) (k16 : PySem.W.keepIn K (.ref f16) = true)
(a17 : PySem.W.nsIn K mainGlobals "_law_take" = some (some (.ref f17))) (l17 : K.lookup f17 = some ⟨oc17, od17, .func (PySem.W.fnOf "_law_take" "_law_take" (defArgs s__law_take) (defBody s__law_take) (defScope s__law_take) .none kV17 dc17 pm17 an17 cd17 ct17), sl17⟩) (c17 : PySem.W.codeIn K cd17 "_law_take" = true) (k17 : PySem.W.keepIn K (.ref f17) = true)
(a18 : PySem.W.nsIn K mainGlobals "_law_pick" = some (some (.ref f18))) (l18 : K.lookup f18 = some ⟨oc18, od18, .func (PySem.W.fnOf "_law_pick" "_law_pick" (defArgs s__law_pick) (defBody s__law_pick) (defScope s__law_pick) .none kV18 dc18 pm18 an18 cd18 ct18), sl18⟩) (c18 : PySem.W.codeIn K cd18 "_law_pick" = true) (k18 : PySem.W.keepIn K (.ref f18) = true)
(a19 : PySem.W.nsIn K mainGlobals "_law_promises" = some (some (.ref f19))) (l19 : K.lookup f19 = some ⟨oc19, od19, .func (PySem.W.fnOf "_law_promises" "_law_promises" (defArgs s__law_promises) (defBody s__law_promises) (defScope s__law_promises) .none kV19 dc19 pm19 an19 cd19 ct19), sl19⟩) (c19 : PySem.W.codeIn K cd19 "_law_promises" = true) (k19 : PySem.W.keepIn K (.ref f19) = true)
(a20 : PySem.W.nsIn K mainGlobals "_law_state" = some (some (.ref f20))) (l20 : K.lookup f20 = some ⟨oc20, od20, .func (PySem.W.fnOf "_law_state" "_law_state" (defArgs s__law_state) (defBody s__law_state) (defScope s__law_state) .none kV20 dc20 pm20 an20 cd20 ct20), sl20⟩) (c20 : PySem.W.codeIn K cd20 "_law_state" = true) (k20 : PySem.W.keepIn K (.ref f20) = true)
(a21 : PySem.W.nsIn K mainGlobals "_law_text" = some (some (.ref f21))) (l21 : K.lookup f21 = some ⟨oc21, od21, .func (PySem.W.fnOf "_law_text" "_law_text" (defArgs s__law_text) (defBody s__law_text) (defScope s__law_text) .none kV21 dc21 pm21 an21 cd21 ct21), sl21⟩) (c21 : PySem.W.codeIn K cd21 "_law_text" = true) (k21 : PySem.W.keepIn K (.ref f21) = true)
(a22 : PySem.W.nsIn K mainGlobals "_law_other" = some (some (.ref f22))) (l22 : K.lookup f22 = some ⟨oc22, od22, .func (PySem.W.fnOf "_law_other" "_law_other" (defArgs s__law_other) (defBody s__law_other) (defScope s__law_other) .none kV22 dc22 pm22 an22 cd22 ct22), sl22⟩) (c22 : PySem.W.codeIn K cd22 "_law_other" = true) (k22 : PySem.W.keepIn K (.ref f22) = true)
(a23 : PySem.W.nsIn K mainGlobals "law" = some (some (.ref f23))) (l23 : K.lookup f23 = some ⟨oc23, od23, .func (PySem.W.fnOf "law" "law" (defArgs s_law) (defBody s_law) (defScope s_law) .none kV23 dc23 pm23 an23 cd23 ct23), sl23⟩) (c23 : PySem.W.codeIn K cd23 "law" = true) (k23 : PySem.W.keepIn K (.ref f23) = true)
(z_abs : PySem.W.nsIn K mainGlobals "abs" = some none)
(z_range : PySem.W.nsIn K mainGlobals "range" = some none)
(z_max : PySem.W.nsIn K mainGlobals "max" = some none)
(z_len : PySem.W.nsIn K mainGlobals "len" = some none)
(z_tuple : PySem.W.nsIn K mainGlobals "tuple" = some none)
(z_min : PySem.W.nsIn K mainGlobals "min" = some none)
(z_all : PySem.W.nsIn K mainGlobals "all" = some none)
(z_sorted : PySem.W.nsIn K mainGlobals "sorted" = some none)
(z_isinstance : PySem.W.nsIn K mainGlobals "isinstance" = some none)
(z_set : PySem.W.nsIn K mainGlobals "set" = some none)
(z_int : PySem.W.nsIn K mainGlobals "int" = some none)
(z_bool : PySem.W.nsIn K mainGlobals "bool" = some none)
(z_str : PySem.W.nsIn K mainGlobals "str" = some none)
(z_repr : PySem.W.nsIn K mainGlobals "repr" = some none)
(gc0 : PySem.W.nsIn K mainGlobals "MOST_PROMISES" = some (some (Value.int 4 t0)))
(gc1 : PySem.W.nsIn K mainGlobals "MOST" = some (some (Value.int 1000000000 t1)))
(gc2 : PySem.W.nsIn K mainGlobals "MOST_DIGEST" = some (some (Value.int 1000000000000000000000000000000 t2)))
(gc3 : PySem.W.nsIn K mainGlobals "MOST_OF_ONE" = some (some (Value.int 10000000000 t3)))
(gc4 : PySem.W.nsIn K mainGlobals "MOST_FIGURES" = some (some (Value.int 900 t4)))
(gc5 : PySem.W.nsIn K mainGlobals "FIGURES" = some (some (Value.str "0123456789" t5)))
: Txt K mg := by
  have F0 := fun_mk (st := s_is_number) l0 c0 k0
  have b0 := F0.binds (ps := ["thing"]) fun _ _ _ _ _ _ us hl => match us, hl with | [_], _ => rfl
  have F1 := fun_mk (st := s_is_count) l1 c1 k1
  have b1 := F1.binds (ps := ["thing"]) fun _ _ _ _ _ _ us hl => match us, hl with | [_], _ => rfl
  have F2 := fun_mk (st := s_is_amount) l2 c2 k2
  have b2 := F2.binds (ps := ["thing"]) fun _ _ _ _ _ _ us hl => match us, hl with | [_], _ => rfl
  have F3 := fun_mk (st := s_is_whole) l3 c3 k3
  have b3 := F3.binds (ps := ["thing"]) fun _ _ _ _ _ _ us hl => match us, hl with | [_], _ => rfl
  have F4 := fun_mk (st := s_is_time) l4 c4 k4
  have b4 := F4.binds (ps := ["thing"]) fun _ _ _ _ _ _ us hl => match us, hl with | [_], _ => rfl
  have F5 := fun_mk (st := s_is_digest) l5 c5 k5
  have b5 := F5.binds (ps := ["thing"]) fun _ _ _ _ _ _ us hl => match us, hl with | [_], _ => rfl
  have F6 := fun_mk (st := s_read_number) l6 c6 k6
  have b6 := F6.binds (ps := ["word"]) fun _ _ _ _ _ _ us hl => match us, hl with | [_], _ => rfl
  have F7 := fun_mk (st := s_is_party) l7 c7 k7
  have b7 := F7.binds (ps := ["thing"]) fun _ _ _ _ _ _ us hl => match us, hl with | [_], _ => rfl
  have F8 := fun_mk (st := s_is_promise) l8 c8 k8
  have b8 := F8.binds (ps := ["thing"]) fun _ _ _ _ _ _ us hl => match us, hl with | [_], _ => rfl
  have F9 := fun_mk (st := s_is_state) l9 c9 k9
  have b9 := F9.binds (ps := ["thing"]) fun _ _ _ _ _ _ us hl => match us, hl with | [_], _ => rfl
  have F10 := fun_mk (st := s__are_promises) l10 c10 k10
  have b10 := F10.binds (ps := ["thing"]) fun _ _ _ _ _ _ us hl => match us, hl with | [_], _ => rfl
  have F11 := fun_mk (st := s_state_text) l11 c11 k11
  have b11 := F11.binds (ps := ["state"]) fun _ _ _ _ _ _ us hl => match us, hl with | [_], _ => rfl
  have F12 := fun_mk (st := s_read_state) l12 c12 k12
  have b12 := F12.binds (ps := ["text"]) fun _ _ _ _ _ _ us hl => match us, hl with | [_], _ => rfl
  have F13 := fun_mk (st := s__look_at) l13 c13 k13
  have b13 := F13.binds (ps := ["state"]) fun _ _ _ _ _ _ us hl => match us, hl with | [_], _ => rfl
  have F14 := fun_mk (st := s__row) l14 c14 k14
  have b14 := F14.binds (ps := ["word", "numbers"]) fun _ _ _ _ _ _ us hl => match us, hl with | [_, _], _ => rfl
  have F15 := fun_mk (st := s__numbers) l15 c15 k15
  have b15 := F15.binds (ps := ["words"]) fun _ _ _ _ _ _ us hl => match us, hl with | [_], _ => rfl
  have F16 := fun_mk (st := s__law_begin) l16 c16 k16
  have b16 := F16.binds (ps := ["script"]) fun _ _ _ _ _ _ us hl => match us, hl with | [_], _ => rfl
  have F17 := fun_mk (st := s__law_take) l17 c17 k17
  have b17 := F17.binds (ps := ["draw", "size"]) fun _ _ _ _ _ _ us hl => match us, hl with | [_, _], _ => rfl
  have F18 := fun_mk (st := s__law_pick) l18 c18 k18
  have b18 := F18.binds (ps := ["draw", "some"]) fun _ _ _ _ _ _ us hl => match us, hl with | [_, _], _ => rfl
  have F19 := fun_mk (st := s__law_promises) l19 c19 k19
  have b19 := F19.binds (ps := ["draw", "most"]) fun _ _ _ _ _ _ us hl => match us, hl with | [_, _], _ => rfl
  have F20 := fun_mk (st := s__law_state) l20 c20 k20
  have b20 := F20.binds (ps := ["draw"]) fun _ _ _ _ _ _ us hl => match us, hl with | [_], _ => rfl
  have F21 := fun_mk (st := s__law_text) l21 c21 k21
  have b21 := F21.binds (ps := ["state"]) fun _ _ _ _ _ _ us hl => match us, hl with | [_], _ => rfl
  have F22 := fun_mk (st := s__law_other) l22 c22 k22
  have b22 := F22.binds (ps := ["draw", "state"]) fun _ _ _ _ _ _ us hl => match us, hl with | [_, _], _ => rfl
  have F23 := fun_mk (st := s_law) l23 c23 k23
  have b23 := F23.binds (ps := ["script"]) fun _ _ _ _ _ _ us hl => match us, hl with | [_], _ => rfl
  exact ⟨⟨f0, _, F0, PySem.W.mg_of X G a0, b0⟩,
    ⟨f1, _, F1, PySem.W.mg_of X G a1, b1⟩,
    ⟨f2, _, F2, PySem.W.mg_of X G a2, b2⟩,
    ⟨f3, _, F3, PySem.W.mg_of X G a3, b3⟩,
    ⟨f4, _, F4, PySem.W.mg_of X G a4, b4⟩,
    ⟨f5, _, F5, PySem.W.mg_of X G a5, b5⟩,
    ⟨f6, _, F6, PySem.W.mg_of X G a6, b6⟩,
    ⟨f7, _, F7, PySem.W.mg_of X G a7, b7⟩,
    ⟨f8, _, F8, PySem.W.mg_of X G a8, b8⟩,
    ⟨f9, _, F9, PySem.W.mg_of X G a9, b9⟩,
    ⟨f10, _, F10, PySem.W.mg_of X G a10, b10⟩,
    ⟨f11, _, F11, PySem.W.mg_of X G a11, b11⟩,
    ⟨f12, _, F12, PySem.W.mg_of X G a12, b12⟩,
    ⟨f13, _, F13, PySem.W.mg_of X G a13, b13⟩,
    ⟨f14, _, F14, PySem.W.mg_of X G a14, b14⟩,
    ⟨f15, _, F15, PySem.W.mg_of X G a15, b15⟩,
    ⟨f16, _, F16, PySem.W.mg_of X G a16, b16⟩,
    ⟨f17, _, F17, PySem.W.mg_of X G a17, b17⟩,
    ⟨f18, _, F18, PySem.W.mg_of X G a18, b18⟩,
    ⟨f19, _, F19, PySem.W.mg_of X G a19, b19⟩,
    ⟨f20, _, F20, PySem.W.mg_of X G a20, b20⟩,
    ⟨f21, _, F21, PySem.W.mg_of X G a21, b21⟩,
    ⟨f22, _, F22, PySem.W.mg_of X G a22, b22⟩,
    ⟨f23, _, F23, PySem.W.mg_of X G a23, b23⟩,
    PySem.W.mg_none_of X G z_abs,
    PySem.W.mg_none_of X G z_range,
    PySem.W.mg_none_of X G z_max,
    PySem.W.mg_none_of X G z_len,
    PySem.W.mg_none_of X G z_tuple,
    PySem.W.mg_none_of X G z_min,
    PySem.W.mg_none_of X G z_all,
    PySem.W.mg_none_of X G z_sorted,
    PySem.W.mg_none_of X G z_isinstance,
    PySem.W.mg_none_of X G z_set,
    PySem.W.mg_none_of X G z_int,
    PySem.W.mg_none_of X G z_bool,
    PySem.W.mg_none_of X G z_str,
    PySem.W.mg_none_of X G z_repr,
    ⟨t0, PySem.W.mg_of X G gc0⟩,
    ⟨t1, PySem.W.mg_of X G gc1⟩,
    ⟨t2, PySem.W.mg_of X G gc2⟩,
    ⟨t3, PySem.W.mg_of X G gc3⟩,
    ⟨t4, PySem.W.mg_of X G gc4⟩,
    ⟨t5, PySem.W.mg_of X G gc5⟩⟩
end My
open PySem PySem.W PyProof.Rows
set_option maxRecDepth 100000 in
set_option maxHeartbeats 0 in
theorem PySem.Challenge.cw_clearyard_k38_texts_of_states_holds : PySem.Challenge.rw_clearyard_k38_texts_of_states.Holds := by
  w_on; o_law; k_head; (case hw => w_witness2)
  k_fill
  refine My.walkG (l := PySem.Challenge.rw_clearyard_k38_texts_of_states) (n := 63) (k := 9) (x := "script") (sp := My.sp_law) rfl (by decide) rfl ⟨rfl, by decide, by decide⟩ (fun w h Y => PySem.W.kIn_of Y) ?F (fun K H a ns hl hS => ⟨a, ns, rfl, hS, hl, fun _ => rfl⟩)
  case F =>
    intro w mg fa h KX G hmg
    refine My.fin ?T hmg
    refine' My.all_mk KX G ?a0 ?l0 ?c0 ?k0 ?a1 ?l1 ?c1 ?k1 ?a2 ?l2 ?c2 ?k2 ?a3 ?l3 ?c3 ?k3 ?a4 ?l4 ?c4 ?k4 ?a5 ?l5 ?c5 ?k5 ?a6 ?l6 ?c6 ?k6 ?a7 ?l7 ?c7 ?k7 ?a8 ?l8 ?c8 ?k8 ?a9 ?l9 ?c9 ?k9 ?a10 ?l10 ?c10 ?k10 ?a11 ?l11 ?c11 ?k11 ?a12 ?l12 ?c12 ?k12 ?a13 ?l13 ?c13 ?k13 ?a14 ?l14 ?c14 ?k14 ?a15 ?l15 ?c15 ?k15 ?a16 ?l16 ?c16 ?k16 ?a17 ?l17 ?c17 ?k17 ?a18 ?l18 ?c18 ?k18 ?a19 ?l19 ?c19 ?k19 ?a20 ?l20 ?c20 ?k20 ?a21 ?l21 ?c21 ?k21 ?a22 ?l22 ?c22 ?k22 ?a23 ?l23 ?c23 ?k23 ?z_abs ?z_range ?z_max ?z_len ?z_tuple ?z_min ?z_all ?z_sorted ?z_isinstance ?z_set ?z_int ?z_bool ?z_str ?z_repr ?gc0 ?gc1 ?gc2 ?gc3 ?gc4 ?gc5
    (case a0 => k_is); (case l0 => k_is); (case c0 => k_is); (case k0 => k_is); (case a1 => k_is); (case l1 => k_is)
    (case c1 => k_is); (case k1 => k_is); (case a2 => k_is); (case l2 => k_is); (case c2 => k_is); (case k2 => k_is)
    (case a3 => k_is); (case l3 => k_is); (case c3 => k_is); (case k3 => k_is); (case a4 => k_is); (case l4 => k_is)
    (case c4 => k_is); (case k4 => k_is); (case a5 => k_is); (case l5 => k_is); (case c5 => k_is); (case k5 => k_is)
    (case a6 => k_is); (case l6 => k_is); (case c6 => k_is); (case k6 => k_is); (case a7 => k_is); (case l7 => k_is)
    (case c7 => k_is); (case k7 => k_is); (case a8 => k_is); (case l8 => k_is); (case c8 => k_is); (case k8 => k_is)
    (case a9 => k_is); (case l9 => k_is); (case c9 => k_is); (case k9 => k_is); (case a10 => k_is); (case l10 => k_is)
    (case c10 => k_is); (case k10 => k_is); (case a11 => k_is); (case l11 => k_is); (case c11 => k_is); (case k11 => k_is)
    (case a12 => k_is); (case l12 => k_is); (case c12 => k_is); (case k12 => k_is); (case a13 => k_is); (case l13 => k_is)
    (case c13 => k_is); (case k13 => k_is); (case a14 => k_is); (case l14 => k_is); (case c14 => k_is); (case k14 => k_is)
    (case a15 => k_is); (case l15 => k_is); (case c15 => k_is); (case k15 => k_is); (case a16 => k_is); (case l16 => k_is)
    (case c16 => k_is); (case k16 => k_is); (case a17 => k_is); (case l17 => k_is); (case c17 => k_is); (case k17 => k_is)
    (case a18 => k_is); (case l18 => k_is); (case c18 => k_is); (case k18 => k_is); (case a19 => k_is); (case l19 => k_is)
    (case c19 => k_is); (case k19 => k_is); (case a20 => k_is); (case l20 => k_is); (case c20 => k_is); (case k20 => k_is)
    (case a21 => k_is); (case l21 => k_is); (case c21 => k_is); (case k21 => k_is); (case a22 => k_is); (case l22 => k_is)
    (case c22 => k_is); (case k22 => k_is); (case a23 => k_is); (case l23 => k_is); (case c23 => k_is); (case k23 => k_is)
    (case z_abs => k_is); (case z_range => k_is); (case z_max => k_is); (case z_len => k_is); (case z_tuple => k_is); (case z_min => k_is)
    (case z_all => k_is); (case z_sorted => k_is); (case z_isinstance => k_is); (case z_set => k_is); (case z_int => k_is); (case z_bool => k_is)
    (case z_str => k_is); (case z_repr => k_is); (case gc0 => k_is); (case gc1 => k_is); (case gc2 => k_is); (case gc3 => k_is)
    (case gc4 => k_is); (case gc5 => k_is)
