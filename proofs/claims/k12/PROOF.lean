import PyProof.Rows.All
import Wide.All
import OpenK.AllK
import Wide.FinOn
import HandS.ForMost
import HandS.Wide
import HandS.IsInst
import HandS.Conv
import HandS.Zip
import HandS.Deep
import HandS.Walk
import PyProof.NeKinds
import PyProof.NeData
import KE.KEqDict
import HandS.TupAny
import HandS.Style
import PyProof.ReprLen
import PyProof.ReprRoads
import PySem.Challenge.RW_clearyard_k12_what_is_an_order
set_option Elab.async false
set_option maxRecDepth 100000
set_option maxHeartbeats 4000000
namespace My
open PySem L2
def top (i : Nat) : Stmt := PySem.Challenge.pw_clearyard_k12_what_is_an_order.main.body.getD i (.Pass ⟨0, 0, 0, 0⟩)
abbrev s_is_number : Stmt := top 4
abbrev N_is_number : List Str := ["thing"]
theorem sc_is_number : FnScope N_is_number ["thing"] (defScope s_is_number) := ⟨rfl, rfl, rfl, by decide +kernel, rfl, by decide +kernel, by decide +kernel⟩
abbrev s_is_count : Stmt := top 5
abbrev N_is_count : List Str := ["thing"]
theorem sc_is_count : FnScope N_is_count ["thing"] (defScope s_is_count) := ⟨rfl, rfl, rfl, by decide +kernel, rfl, by decide +kernel, by decide +kernel⟩
abbrev s_is_amount : Stmt := top 6
abbrev N_is_amount : List Str := ["thing"]
theorem sc_is_amount : FnScope N_is_amount ["thing"] (defScope s_is_amount) := ⟨rfl, rfl, rfl, by decide +kernel, rfl, by decide +kernel, by decide +kernel⟩
abbrev s_is_whole : Stmt := top 7
abbrev N_is_whole : List Str := ["thing"]
theorem sc_is_whole : FnScope N_is_whole ["thing"] (defScope s_is_whole) := ⟨rfl, rfl, rfl, by decide +kernel, rfl, by decide +kernel, by decide +kernel⟩
abbrev s_is_time : Stmt := top 8
abbrev N_is_time : List Str := ["thing"]
theorem sc_is_time : FnScope N_is_time ["thing"] (defScope s_is_time) := ⟨rfl, rfl, rfl, by decide +kernel, rfl, by decide +kernel, by decide +kernel⟩
abbrev s_is_letters : Stmt := top 9
abbrev N_is_letters : List Str := ["thing", "longest", "sign"]
theorem sc_is_letters : FnScope N_is_letters ["thing", "longest"] (defScope s_is_letters) := ⟨rfl, rfl, rfl, by decide +kernel, rfl, by decide +kernel, by decide +kernel⟩
abbrev s_is_name : Stmt := top 10
abbrev N_is_name : List Str := ["thing"]
theorem sc_is_name : FnScope N_is_name ["thing"] (defScope s_is_name) := ⟨rfl, rfl, rfl, by decide +kernel, rfl, by decide +kernel, by decide +kernel⟩
abbrev s_is_order : Stmt := top 13
abbrev N_is_order : List Str := ["thing", "word", "payer", "payee", "amount", "rank", "begin", "until"]
theorem sc_is_order : FnScope N_is_order ["thing"] (defScope s_is_order) := ⟨rfl, rfl, rfl, by decide +kernel, rfl, by decide +kernel, by decide +kernel⟩
abbrev s__law_begin : Stmt := top 15
abbrev N__law_begin : List Str := ["script", "mixed", "cell"]
theorem sc__law_begin : FnScope N__law_begin ["script"] (defScope s__law_begin) := ⟨rfl, rfl, rfl, by decide +kernel, rfl, by decide +kernel, by decide +kernel⟩
abbrev s__law_more : Stmt := top 16
abbrev N__law_more : List Str := ["state", "k", "cell", "one", "two", "three"]
theorem sc__law_more : FnScope N__law_more ["state"] (defScope s__law_more) := ⟨rfl, rfl, rfl, by decide +kernel, rfl, by decide +kernel, by decide +kernel⟩
abbrev s__law_next : Stmt := top 17
abbrev N__law_next : List Str := ["state", "many", "found"]
theorem sc__law_next : FnScope N__law_next ["state", "many"] (defScope s__law_next) := ⟨rfl, rfl, rfl, by decide +kernel, rfl, by decide +kernel, by decide +kernel⟩
abbrev s__law_pick : Stmt := top 18
abbrev N__law_pick : List Str := ["state", "some"]
theorem sc__law_pick : FnScope N__law_pick ["state", "some"] (defScope s__law_pick) := ⟨rfl, rfl, rfl, by decide +kernel, rfl, by decide +kernel, by decide +kernel⟩
abbrev s__law_word : Stmt := top 19
abbrev N__law_word : List Str := ["state", "letters", "own", "size", "turn"]
theorem sc__law_word : FnScope N__law_word ["state"] (defScope s__law_word) := ⟨rfl, rfl, rfl, by decide +kernel, rfl, by decide +kernel, by decide +kernel⟩
abbrev s__law_crew : Stmt := top 20
abbrev N__law_crew : List Str := ["state", "many", "found", "turn", "word", "spare", "sign", "one"]
theorem sc__law_crew : FnScope N__law_crew ["state", "many"] (defScope s__law_crew) := ⟨rfl, rfl, rfl, by decide +kernel, rfl, by decide +kernel, by decide +kernel⟩
abbrev s__law_amount : Stmt := top 21
abbrev N__law_amount : List Str := ["state", "way"]
theorem sc__law_amount : FnScope N__law_amount ["state"] (defScope s__law_amount) := ⟨rfl, rfl, rfl, by decide +kernel, rfl, by decide +kernel, by decide +kernel⟩
abbrev s__law_one : Stmt := top 22
abbrev N__law_one : List Str := ["state", "crew", "one", "other", "start", "name"]
theorem sc__law_one : FnScope N__law_one ["state", "crew"] (defScope s__law_one) := ⟨rfl, rfl, rfl, by decide +kernel, rfl, by decide +kernel, by decide +kernel⟩
abbrev s__law_is_name : Stmt := top 25
abbrev N__law_is_name : List Str := ["item", "letters", "sign"]
theorem sc__law_is_name : FnScope N__law_is_name ["item"] (defScope s__law_is_name) := ⟨rfl, rfl, rfl, by decide +kernel, rfl, by decide +kernel, by decide +kernel⟩
abbrev s__law_is_number : Stmt := top 26
abbrev N__law_is_number : List Str := ["item", "low", "high"]
theorem sc__law_is_number : FnScope N__law_is_number ["item", "low", "high"] (defScope s__law_is_number) := ⟨rfl, rfl, rfl, by decide +kernel, rfl, by decide +kernel, by decide +kernel⟩
abbrev s__law_due : Stmt := top 27
abbrev N__law_due : List Str := ["item", "word", "one", "other", "many", "rank", "start", "stop"]
theorem sc__law_due : FnScope N__law_due ["item"] (defScope s__law_due) := ⟨rfl, rfl, rfl, by decide +kernel, rfl, by decide +kernel, by decide +kernel⟩
abbrev s__law_otherwise : Stmt := top 28
abbrev N__law_otherwise : List Str := ["state", "item", "odd", "way", "at"]
theorem sc__law_otherwise : FnScope N__law_otherwise ["state", "item"] (defScope s__law_otherwise) := ⟨rfl, rfl, rfl, by decide +kernel, rfl, by decide +kernel, by decide +kernel⟩
abbrev s_law : Stmt := top 29
abbrev N_law : List Str := ["script", "state", "crew", "turn", "item", "due", "kept", "found"]
theorem sc_law : FnScope N_law ["script"] (defScope s_law) := ⟨rfl, rfl, rfl, by decide +kernel, rfl, by decide +kernel, by decide +kernel⟩
/-- a def of the text as the top has left it -/
structure DefAt (K : PySem.W.Frag) (mg : Str → Option Value) (x : Str) (st : Stmt) (ps : List Str) (f : Addr) (fd : FuncData) : Prop where
  F : Fun K x x st f fd
  m : mg x = some (.ref f)
  b : Binds K fd ps []
def Pr (P : Program) (w : World) (K : PySem.W.Frag) (mg : Str → Option Value) (base : Heap) (x : Str) (st : Stmt) (ps : List Str) (k : Nat) (sp : Sp) : Prop :=
  ∃ (f : Addr) (fd : FuncData), DefAt K mg x st ps f fd ∧ FnOk P w K mg base CX0 k f fd ps sp
structure Txt (K : PySem.W.Frag) (mg : Str → Option Value) : Prop where
  d_is_number : ∃ f fd, DefAt K mg "is_number" s_is_number ["thing"] f fd
  d_is_count : ∃ f fd, DefAt K mg "is_count" s_is_count ["thing"] f fd
  d_is_amount : ∃ f fd, DefAt K mg "is_amount" s_is_amount ["thing"] f fd
  d_is_whole : ∃ f fd, DefAt K mg "is_whole" s_is_whole ["thing"] f fd
  d_is_time : ∃ f fd, DefAt K mg "is_time" s_is_time ["thing"] f fd
  d_is_letters : ∃ f fd, DefAt K mg "is_letters" s_is_letters ["thing", "longest"] f fd
  d_is_name : ∃ f fd, DefAt K mg "is_name" s_is_name ["thing"] f fd
  d_is_order : ∃ f fd, DefAt K mg "is_order" s_is_order ["thing"] f fd
  d__law_begin : ∃ f fd, DefAt K mg "_law_begin" s__law_begin ["script"] f fd
  d__law_more : ∃ f fd, DefAt K mg "_law_more" s__law_more ["state"] f fd
  d__law_next : ∃ f fd, DefAt K mg "_law_next" s__law_next ["state", "many"] f fd
  d__law_pick : ∃ f fd, DefAt K mg "_law_pick" s__law_pick ["state", "some"] f fd
  d__law_word : ∃ f fd, DefAt K mg "_law_word" s__law_word ["state"] f fd
  d__law_crew : ∃ f fd, DefAt K mg "_law_crew" s__law_crew ["state", "many"] f fd
  d__law_amount : ∃ f fd, DefAt K mg "_law_amount" s__law_amount ["state"] f fd
  d__law_one : ∃ f fd, DefAt K mg "_law_one" s__law_one ["state", "crew"] f fd
  d__law_is_name : ∃ f fd, DefAt K mg "_law_is_name" s__law_is_name ["item"] f fd
  d__law_is_number : ∃ f fd, DefAt K mg "_law_is_number" s__law_is_number ["item", "low", "high"] f fd
  d__law_due : ∃ f fd, DefAt K mg "_law_due" s__law_due ["item"] f fd
  d__law_otherwise : ∃ f fd, DefAt K mg "_law_otherwise" s__law_otherwise ["state", "item"] f fd
  d_law : ∃ f fd, DefAt K mg "law" s_law ["script"] f fd
  z_list : mg "list" = none
  z_range : mg "range" = none
  z_len : mg "len" = none
  z_min : mg "min" = none
  z_isinstance : mg "isinstance" = none
  z_bool : mg "bool" = none
  z_int : mg "int" = none
  z_tuple : mg "tuple" = none
  z_str : mg "str" = none
  z_repr : mg "repr" = none
  z_all : mg "all" = none
  g_LETTERS : ∃ t, mg "LETTERS" = some (Value.str "abcdefghijklmnopqrstuvwxyz" t)
  g_LONGEST : ∃ t, mg "LONGEST" = some (Value.int 8 t)
  g_MOST : ∃ t, mg "MOST" = some (Value.int 1000000000 t)
  g_TOP_RANK : ∃ t, mg "TOP_RANK" = some (Value.int 9 t)
end My
set_option Elab.async false
set_option maxRecDepth 100000
set_option maxHeartbeats 4000000
namespace My
open PySem L2
/-! the heap -/
/-- all that stands stays, but for what stands at one of ds -/
def Keep (ds : List Addr) (H H' : Hp) : Prop := ∀ b o, H b = some o → b ∉ ds → H' b = some o
theorem Keep.refl {ds H} : Keep ds H H := fun _ _ h _ => h
theorem Keep.trans {ds H H1 H2} (a : Keep ds H H1) (b : Keep ds H1 H2) : Keep ds H H2 := fun x o h n => b x o (a x o h n) n
theorem Keep.mono {ds es H H1} (a : Keep ds H H1) (s : ∀ x ∈ ds, x ∈ es) : Keep es H H1 := fun x o h n => a x o h fun q => n (s x q)
theorem Keep.upd_new {ds H p o} (h : H p = none) : Keep ds H (upd H p o) := fun b u e _ => by rw [upd_ne (ne_of_none e h)]; exact e
theorem Keep.upd_in {ds : List Addr} {H p o} (h : p ∈ ds) : Keep ds H (upd H p o) := fun b u e n => by
  rw [upd_ne (fun q => n (by rw [q]; exact h))]; exact e
theorem Keep.of_same {ds H H1} (h : Same H H1) : Keep ds H H1 := fun b o e _ => h b o e
theorem Keep.same {H H1} (h : Keep [] H H1) : Same H H1 := fun b o e => h b o e (by simp)

theorem mod_small {a b : Int} (h0 : 0 < b) (h1 : b < 2 ^ 64) : -(2 ^ 64) < a % b ∧ a % b < 2 ^ 64 := by
  have e1 := Int.emod_nonneg a (show b ≠ 0 by omega)
  have e2 := Int.emod_lt_of_pos a h0
  omega
/-! the rules that name the written part, for a comprehension's block -/
section
variable {X : Cx} {K : PySem.W.Frag}
theorem op_notIn_seqK (e : X.K = K) : OpR X (compareOp .NotIn) (rIn K true) := e ▸ op_notIn_seq
theorem op_in_seqK (e : X.K = K) : OpR X (compareOp .In) (rIn K false) := e ▸ op_in_seq
theorem ix_listK (e : X.K = K) : IxR X (rIxL K) := e ▸ ix_list
theorem ix_tupK (e : X.K = K) : IxR X (rIxT K) := e ▸ ix_tup
theorem ix_seqK (e : X.K = K) : IxR X (rIx K) := e ▸ ix_seq
theorem call_isiK2 (e : X.K = K) : CallR X (.builtin "isinstance") (rIsi K) := e ▸ call_isi
end
/-! dicts by texts -/
theorem valV_hd {k : Str} {v : V} {r : List (Key × V)} : valV ((Sum.inr k, v) :: r) (Sum.inr k) = some v := by
  unfold valV; simp
theorem valV_tl {k j : Str} {v : V} {r : List (Key × V)} (h : ¬ j = k) : valV ((Sum.inr j, v) :: r) (Sum.inr k : Key) = valV r (Sum.inr k) := by
  unfold valV
  rw [List.find?_cons_of_neg]
  simpa using h

theorem DGetS {H : Hp} {a : Addr} {kvs : List (Key × V)} {k : Str} {v : V} (e : H a = some (.dK kvs)) (h : valV kvs (Sum.inr k) = some v) : DGet H a (.str k) (some v) := h ▸ DGet.k (k := Sum.inr k) e
theorem DPutS {H : Hp} {a : Addr} {kvs : List (Key × V)} {k : Str} {v : V} (e : H a = some (.dK kvs)) (hl : kvs.length < sizeLine) : DPut H a (.str k) v (upd H a (.dK (putK kvs (Sum.inr k) v))) := DPut.k (k := Sum.inr k) e hl
theorem atI_of {α : Type} {xs : List α} {i : Int} (h0 : 0 ≤ i) (h1 : i < xs.length) : ∃ v, xs[i.toNat]? = some v ∧ atI xs i = some v := by
  have h : i.toNat < xs.length := by omega
  refine ⟨xs[i.toNat], List.getElem?_eq_getElem h, ?_⟩
  have e : ((i.toNat : Nat) : Int) = i := by omega
  have := atI_nat (xs := xs) (j := i.toNat) (List.getElem?_eq_getElem h)
  rwa [e] at this
theorem atI_int {ns : List Int} {i : Int} (h0 : 0 ≤ i) (h1 : i < ns.length) : ∃ z, atI (ns.map V.int) i = some (.int z) := by
  obtain ⟨v, e, h⟩ := atI_of (xs := ns.map V.int) h0 (by rw [List.length_map]; exact h1)
  rw [List.getElem?_map] at e
  cases q : ns[i.toNat]? with
  | none => rw [q] at e; cases e
  | some z => rw [q] at e; cases e; exact ⟨z, h⟩
/-- what is drawn from -/
def dkv (c : Addr) (k l m : Int) : List (Key × V) := [(Sum.inr "cells", .ref c), (Sum.inr "next", .int k), (Sum.inr "left", .int l), (Sum.inr "mixed", .int m)]
theorem dkv_cells (c k l m) : valV (dkv c k l m) (Sum.inr "cells") = some (.ref c) := valV_hd
theorem dkv_next (c k l m) : valV (dkv c k l m) (Sum.inr "next") = some (.int k) := by
  unfold dkv; rw [valV_tl (by decide +kernel)]; exact valV_hd
theorem dkv_left (c k l m) : valV (dkv c k l m) (Sum.inr "left") = some (.int l) := by
  unfold dkv; rw [valV_tl (by decide +kernel), valV_tl (by decide +kernel)]; exact valV_hd
theorem dkv_mixed (c k l m) : valV (dkv c k l m) (Sum.inr "mixed") = some (.int m) := by
  unfold dkv; rw [valV_tl (by decide +kernel), valV_tl (by decide +kernel), valV_tl (by decide +kernel)]; exact valV_hd
theorem dkv_put_next (c k l m k') : putK (dkv c k l m) (Sum.inr "next") (.int k') = dkv c k' l m := by rfl
theorem dkv_put_left (c k l m l') : putK (dkv c k l m) (Sum.inr "left") (.int l') = dkv c k l' m := by rfl
/-- the state of the draws stands at d -/
def DrawAt (H : Hp) (d c : Addr) : Prop := ∃ (ns : List Int) (k l m : Int), H d = some (.dK (dkv c k l m)) ∧ H c = some (.lst (ns.map V.int)) ∧ ns.length ≤ 63 ∧ 0 ≤ k
theorem DrawAt.ne {H d c} (D : DrawAt H d c) : c ≠ d := by
  obtain ⟨ns, a, b, e, h1, h2, h3⟩ := D
  exact ne_of h2 h1 (by intro z; cases z)
theorem DrawAt.keep {H H' d c} {ds : List Addr} (D : DrawAt H d c) (k : Keep ds H H') (hd : d ∉ ds := by first | exact List.not_mem_nil | simp_all) (hc : c ∉ ds := by first | exact List.not_mem_nil | simp_all) : DrawAt H' d c := by
  obtain ⟨ns, a, b, e, h1, h2, h3⟩ := D
  exact ⟨ns, a, b, e, k _ _ h1 hd, k _ _ h2 hc, h3⟩
/-- a new address is none of the draws' -/
theorem DrawAt.new {H d c} {p : Addr} (D : DrawAt H d c) (h : H p = none) : d ≠ p ∧ c ≠ p := by
  obtain ⟨ns, a, b, e, h1, h2, h3⟩ := D
  exact ⟨ne_of_none h1 h, ne_of_none h2 h⟩

section
variable {P : Program} {w : World} {K : PySem.W.Frag} {mg : Str → Option Value} {base : Heap}

def sp_more : Sp := fun vs H Q _ => ∃ d c, vs = [.ref d] ∧ DrawAt H d c ∧ ∀ r H', DrawAt H' d c → Keep [d] H H' → Q (.int r) H'
theorem p__law_more (T : Txt K mg) : Pr P w K mg base "_law_more" s__law_more ["state"] 1 sp_more := by
  obtain ⟨f, fd, D⟩ := T.d__law_more
  refine ⟨f, fd, D, D.F.ok sc__law_more (fun vs H Q E h => ?_) (fun cdv A outer s H vs Q E hr h => ?_)⟩
  · obtain ⟨d, c, rfl, _⟩ := h; rfl
  · obtain ⟨d, c, rfl, ⟨ns, k, l, m, h1, h2, h3, h4⟩, q⟩ := h
    have hu := hu_of hr
    refine ⟨_, (pss_cons (ps_set (i := 1) sc__law_more.nd rfl (Or.inl rfl) (pe_dget hu (pv 0) pe_str (fun _ _ => rfl)))
      (pss_cons (ps_dput hu (pv 0) pe_str (pe_op op_add (pv 1) pe_int) rfl)
      (pss_cons (ps_set (i := 2) sc__law_more.nd rfl (Or.inl rfl) (pe_op op_add (pe_dget hu (pv 0) pe_str (fun _ _ => rfl)) (pe_op op_mul pe_int (pv 1))))
      (pss_cons (ps_if (pt_cmpR op_lt (pv 1) (pe_callB call_len_seq (by rfl) T.z_len (by decide +kernel) (pa_cons (pe_dget hu (pv 0) pe_str (fun _ _ => rfl)) pa_nil)) (nomark _)) (pss_one (ps_set (i := 2) sc__law_more.nd rfl (Or.inl rfl) (pe_ix ix_list (pe_dget hu (pv 0) pe_str (fun _ _ => rfl)) (pv 1) (fun _ _ => rfl)))) pss_nil)
      (pss_cons (ps_if (pt_cmpR op_ge (pv 2) (pe_op op_pow pe_int pe_int) (nomark _)) (pss_one (ps_ret (pe_op op_sub (pv 2) (pe_op op_pow pe_int pe_int)))) pss_nil)
      (pss_cons (ps_set (i := 3) sc__law_more.nd rfl (Or.inl rfl) (pe_op op_mod (pe_op op_add (pe_op op_add (pe_op op_mul (pv 2) pe_int) (pe_op op_mul pe_int (pv 1))) pe_int) pe_int))
      (pss_cons (ps_set (i := 4) sc__law_more.nd rfl (Or.inl rfl) (pe_op op_mod (pe_op op_mul (pv 3) (pe_op op_add (pe_op op_add (pv 3) (pe_op op_mul pe_int (pv 1))) pe_int)) pe_int))
      (pss_cons (ps_set (i := 5) sc__law_more.nd rfl (Or.inl rfl) (pe_op op_mod (pe_op op_mul (pv 4) (pe_op op_add (pe_op op_add (pv 4) (pv 3)) pe_int)) pe_int))
      (pss_one (ps_ret (pe_op op_add (pe_op op_mul (pe_op op_add (pe_op op_mul (pv 3) pe_int) (pv 4)) pe_int) (pv 5)))))))))))), ?_⟩
    refine ⟨_, rfl, _, _, rfl, DGetS h1 (dkv_next ..), ?_⟩
    refine ⟨_, rfl, _, _, rfl, rfl, _, rfl, _, _, rfl, DPutS h1 (by show 4 < sizeLine; decide), ?_⟩
    have ncd : c ≠ d := fun e => by rw [e, h1] at h2; cases h2
    have g1 : (upd H d (.dK (dkv c (k + 1) l m))) d = some (.dK (dkv c (k + 1) l m)) := upd_same
    have g2 : (upd H d (.dK (dkv c (k + 1) l m))) c = some (.lst (ns.map V.int)) := by rw [upd_ne ncd]; exact h2
    have g3 : DrawAt (upd H d (.dK (dkv c (k + 1) l m))) d c := ⟨ns, k + 1, l, m, g1, g2, h3, by omega⟩
    have g4 : Keep [d] H (upd H d (.dK (dkv c (k + 1) l m))) := Keep.upd_in (by simp)
    refine ⟨_, rfl, _, _, rfl, DGetS g1 (dkv_mixed ..), _, rfl, _, _, rfl, rfl, Or.inl ⟨by decide, by decide⟩, _, _, rfl, rfl, ?_⟩
    refine ⟨_, rfl, _, rfl, _, _, rfl, DGetS g1 (dkv_cells ..), _, _, rfl, .inl (SqL.of g2), _, _, rfl, rfl, _, rfl, ?_⟩
    refine ite2 (fun hk => ?_) (fun hk => ?_)
    · rw [List.length_map] at hk
      obtain ⟨z, hz⟩ := atI_int h4 (of_decide_eq_true hk)
      refine ⟨_, rfl, _, _, rfl, DGetS g1 (dkv_cells ..), _, rfl, _, _, _, _, rfl, rfl, SqL.of g2, hz, ?_⟩
      refine ⟨_, rfl, _, _, rfl, rfl, ⟨by decide, by decide, by decide⟩, _, _, rfl, rfl, _, rfl, ?_⟩
      refine ite2 (fun hc => ?_) (fun hc => ?_)
      · refine ⟨_, rfl, _, _, rfl, rfl, ⟨by decide, by decide, by decide⟩, _, _, rfl, rfl, ?_⟩
        exact q _ _ g3 g4
      · refine ⟨_, rfl, _, _, rfl, rfl, Or.inr ⟨by decide, by decide⟩, _, rfl, _, _, rfl, rfl, Or.inl ⟨by decide, by decide⟩, _, _, rfl, rfl, _, _, rfl, rfl, _, _, rfl, rfl, (by show (0 : Int) < _; decide), ?_⟩
        refine ⟨_, rfl, _, rfl, _, rfl, _, _, rfl, rfl, Or.inl ⟨by decide, by decide⟩, _, _, rfl, rfl, _, _, rfl, rfl, _, _, rfl, rfl, Or.inl (mod_small (by decide) (by decide)), _, _, rfl, rfl, (by show (0 : Int) < _; decide), ?_⟩
        refine ⟨_, rfl, _, rfl, _, rfl, _, _, rfl, rfl, _, _, rfl, rfl, _, _, rfl, rfl, Or.inl (mod_small (by decide) (by decide)), _, _, rfl, rfl, (by show (0 : Int) < _; decide), ?_⟩
        refine ⟨_, rfl, _, _, rfl, rfl, Or.inr ⟨by decide, by decide⟩, _, rfl, _, _, rfl, rfl, _, _, rfl, rfl, Or.inr ⟨by decide, by decide⟩, _, rfl, _, _, rfl, rfl, ?_⟩
        exact q _ _ g3 g4
    · refine ⟨_, rfl, _, _, rfl, rfl, ⟨by decide, by decide, by decide⟩, _, _, rfl, rfl, _, rfl, ?_⟩
      refine ite2 (fun hc => ?_) (fun hc => ?_)
      · refine ⟨_, rfl, _, _, rfl, rfl, ⟨by decide, by decide, by decide⟩, _, _, rfl, rfl, ?_⟩
        exact q _ _ g3 g4
      · refine ⟨_, rfl, _, _, rfl, rfl, Or.inr ⟨by decide, by decide⟩, _, rfl, _, _, rfl, rfl, Or.inl ⟨by decide, by decide⟩, _, _, rfl, rfl, _, _, rfl, rfl, _, _, rfl, rfl, (by show (0 : Int) < _; decide), ?_⟩
        refine ⟨_, rfl, _, rfl, _, rfl, _, _, rfl, rfl, Or.inl ⟨by decide, by decide⟩, _, _, rfl, rfl, _, _, rfl, rfl, _, _, rfl, rfl, Or.inl (mod_small (by decide) (by decide)), _, _, rfl, rfl, (by show (0 : Int) < _; decide), ?_⟩
        refine ⟨_, rfl, _, rfl, _, rfl, _, _, rfl, rfl, _, _, rfl, rfl, _, _, rfl, rfl, Or.inl (mod_small (by decide) (by decide)), _, _, rfl, rfl, (by show (0 : Int) < _; decide), ?_⟩
        refine ⟨_, rfl, _, _, rfl, rfl, Or.inr ⟨by decide, by decide⟩, _, rfl, _, _, rfl, rfl, _, _, rfl, rfl, Or.inr ⟨by decide, by decide⟩, _, rfl, _, _, rfl, rfl, ?_⟩
        exact q _ _ g3 g4
end
end My
set_option Elab.async false
set_option maxRecDepth 100000
set_option maxHeartbeats 4000000
namespace My
open PySem L2 TL
section
variable {P : Program} {w : World} {K : PySem.W.Frag} {mg : Str → Option Value} {base : Heap}

def sp_next : Sp := fun vs H Q _ => ∃ d c n, vs = [.ref d, .int n] ∧ DrawAt H d c ∧ 0 < n ∧ n < 2 ^ 64 ∧ ∀ r H', 0 ≤ r → r < n → DrawAt H' d c → Keep [d] H H' → Q (.int r) H'
theorem p__law_next (T : Txt K mg) : Pr P w K mg base "_law_next" s__law_next ["state", "many"] 2 sp_next := by
  obtain ⟨f, fd, D⟩ := T.d__law_next
  obtain ⟨f__law_more, fd__law_more, D__law_more, G__law_more⟩ := p__law_more (P := P) (w := w) (base := base) T
  refine ⟨f, fd, D, D.F.ok sc__law_next (fun vs H Q E h => ?_) (fun cdv A outer s H vs Q E hr h => ?_)⟩
  · obtain ⟨d, c, n, rfl, _⟩ := h; rfl
  · obtain ⟨d, c, n, rfl, D0, n0, n1, q⟩ := h
    have hu := hu_of hr
    refine ⟨_, (pss_cons (ps_if (pt_cmpR op_eq (pe_dget hu (pv 0) pe_str (fun _ _ => rfl)) pe_int (nomark _)) (pss_one (ps_dput hu (pv 0) pe_str (pe_call G__law_more (hr.mono (by decide)) rfl D__law_more.m D__law_more.F.kp D__law_more.b .nil pass0 (pa_cons (pv 0) pa_nil)) rfl)) pss_nil)
      (pss_cons (ps_set (i := 2) sc__law_next.nd rfl (Or.inl rfl) (pe_op op_mod (pe_dget hu (pv 0) pe_str (fun _ _ => rfl)) (pv 1)))
      (pss_cons (ps_dput hu (pv 0) pe_str (pe_op op_fdivW (pe_dget hu (pv 0) pe_str (fun _ _ => rfl)) (pv 1)) rfl)
      (pss_one (ps_ret (pv 2)))))), ?_⟩
    obtain ⟨ns, k, l, m, h1, h2, h3, h4⟩ := id D0
    refine ⟨_, rfl, _, _, rfl, DGetS h1 (dkv_left ..), rfl, _, rfl, ?_⟩
    have rest : ∀ H1, DrawAt H1 d c → Keep [d] H H1 → ∃ k l m, H1 d = some (.dK (dkv c k l m)) ∧ (∀ l', DrawAt (upd H1 d (.dK (dkv c k l' m))) d c ∧ Keep [d] H (upd H1 d (.dK (dkv c k l' m)))) := fun H1 D1 K1 => by
      obtain ⟨ns, k, l, m, h1, h2, h3, h4⟩ := D1
      refine ⟨k, l, m, h1, fun l' => ⟨⟨ns, k, l', m, upd_same, ?_, h3, h4⟩, K1.trans (Keep.upd_in (by simp))⟩⟩
      rw [upd_ne (fun e => by rw [e, h1] at h2; cases h2)]; exact h2
    refine ite2 (fun _ => ?_) (fun _ => ?_)
    · refine ⟨_, rfl, d, c, rfl, D0, fun r H1 D1 K1 => ?_⟩
      obtain ⟨k, l, m, h1, z⟩ := rest H1 D1 K1
      refine ⟨_, rfl, _, _, rfl, DPutS h1 (by show 4 < sizeLine; decide), ?_⟩
      obtain ⟨k, l, m, h1, z⟩ := rest _ (z r).1 (z r).2
      refine ⟨_, rfl, _, _, rfl, DGetS h1 (dkv_left ..), _, rfl, _, _, rfl, rfl, n0, ?_⟩
      refine ⟨_, rfl, _, _, rfl, DGetS h1 (dkv_left ..), _, rfl, _, _, rfl, rfl, wide_div (b := 64) n0 (by omega) (by decide) (by decide), _, rfl, _, _, rfl, DPutS h1 (by show 4 < sizeLine; decide), ?_⟩
      exact ⟨_, rfl, q _ _ (Int.emod_nonneg _ (by omega)) (Int.emod_lt_of_pos _ n0) (z _).1 (z _).2⟩
    · obtain ⟨k, l, m, h1, z⟩ := rest H D0 Keep.refl
      refine ⟨_, rfl, _, _, rfl, DGetS h1 (dkv_left ..), _, rfl, _, _, rfl, rfl, n0, ?_⟩
      refine ⟨_, rfl, _, _, rfl, DGetS h1 (dkv_left ..), _, rfl, _, _, rfl, rfl, wide_div (b := 64) n0 (by omega) (by decide) (by decide), _, rfl, _, _, rfl, DPutS h1 (by show 4 < sizeLine; decide), ?_⟩
      exact ⟨_, rfl, q _ _ (Int.emod_nonneg _ (by omega)) (Int.emod_lt_of_pos _ n0) (z _).1 (z _).2⟩

/-- what may be picked from -/
def PickV (H : Hp) (x : V) (xs : List V) : Prop := (∃ a, x = .ref a ∧ (H a = some (.lst xs) ∨ H a = some (.tup xs))) ∨ ∃ z : Str, x = .str z ∧ z.length ≤ sizeLine ∧ xs = (tl z).map fun c => V.str ⟨#[c]⟩
theorem PickV.keep {H H' : Hp} {d c : Addr} {x : V} {xs : List V} (h : PickV H x xs) (D : DrawAt H d c) (k : Keep [d] H H') : PickV H' x xs := by
  obtain ⟨ns, k', l, m, h1, _⟩ := D
  rcases h with ⟨a, rfl, h⟩ | h
  · have na : a ∉ [d] := by
      simp only [List.mem_singleton]; rintro rfl; rw [h1] at h; rcases h with h | h <;> cases h
    exact .inl ⟨a, rfl, h.imp (fun h => k _ _ h na) fun h => k _ _ h na⟩
  · exact .inr h
def sp_pick : Sp := fun vs H Q _ => ∃ d c x xs, vs = [.ref d, x] ∧ DrawAt H d c ∧ PickV H x xs ∧ 0 < xs.length ∧ xs.length < 1000000000 ∧ ∀ v H', v ∈ xs → DrawAt H' d c → Keep [d] H H' → Q v H'
theorem p__law_pick (T : Txt K mg) : Pr P w K mg base "_law_pick" s__law_pick ["state", "some"] 3 sp_pick := by
  obtain ⟨f, fd, D⟩ := T.d__law_pick
  obtain ⟨f__law_next, fd__law_next, D__law_next, G__law_next⟩ := p__law_next (P := P) (w := w) (base := base) T
  refine ⟨f, fd, D, D.F.ok sc__law_pick (fun vs H Q E h => ?_) (fun cdv A outer s H vs Q E hr h => ?_)⟩
  · obtain ⟨d, c, n, xs, rfl, _⟩ := h; rfl
  · obtain ⟨d, c, x, xs, rfl, D0, PV, n0, n1, q⟩ := h
    have hu := hu_of hr
    refine ⟨_, (pss_one (ps_ret (pe_ix ix_seq (pv 1) (pe_call G__law_next (hr.mono (by decide)) rfl D__law_next.m D__law_next.F.kp D__law_next.b .nil pass0 (pa_cons (pv 0) (pa_cons (pe_callB call_len (by rfl) T.z_len (by decide +kernel) (pa_cons (pv 1) pa_nil)) pa_nil))) (fun _ _ => rfl)))), ?_⟩
    have hl : ∀ H1, PickV H1 x xs → LenV K x H1 xs.length := fun H1 h => by
      rcases h with ⟨a, rfl, h | h⟩ | ⟨z, rfl, hz, rfl⟩
      · exact .inl ⟨xs, SqL.of h, rfl⟩
      · exact .inr ⟨xs, SqT.of h, rfl⟩
      · refine ⟨hz, ?_⟩
        rw [List.length_map]; exact (len_tl z).symm
    refine ⟨_, rfl, _, rfl, _, rfl, x, xs.length, rfl, hl H PV, d, c, _, rfl, D0, by omega, by omega, fun r H1 r0 r1 D1 K1 => ?_⟩
    have PV1 := PV.keep D0 K1
    obtain ⟨v, e1, e2⟩ := atI_of (xs := xs) r0 r1
    have hm : v ∈ xs := List.mem_of_getElem? e1
    rcases id PV1 with ⟨a, rfl, h | h⟩ | ⟨z, rfl, hz, rfl⟩
    · exact .inl ⟨a, xs, r, v, rfl, rfl, SqL.of h, e2, q v H1 hm D1 K1⟩
    · exact .inr (.inl ⟨a, xs, r, v, rfl, rfl, SqT.of h, e2, q v H1 hm D1 K1⟩)
    · obtain ⟨c', hc, rfl⟩ := List.mem_map.mp hm
      refine .inr (.inr ⟨z, r, c', rfl, rfl, hz, ?_, q _ H1 hm D1 K1⟩)
      obtain ⟨c3, e3, e4⟩ := atI_of (xs := tl z) r0 (by rw [List.length_map] at r1; exact r1)
      rw [List.getElem?_map, e3] at e1
      cases e1
      exact e4
end
end My
set_option Elab.async false
set_option maxRecDepth 100000
set_option maxHeartbeats 4000000
namespace My
open PySem L2 TL
section
variable {P : Program} {w : World} {K : PySem.W.Frag} {mg : Str → Option Value} {base : Heap}

theorem yes {A B : Prop} (h : A) : if true = true then A else B := by rw [if_pos rfl]; exact h
theorem tYes_go {F : Bool → Hp → Prop} {σ : L2.St} {H : Hp} (h : F true H) : tYes σ H F := h
def sp_begin (K : PySem.W.Frag) : Sp := fun vs H Q _ => ∃ (a : Addr) (ns : List Int), vs = [.ref a] ∧ SqL K H a (ns.map V.int) ∧ ns.length ≤ 63 ∧ ∀ d c H', H d = none → H c = none → DrawAt H' d c → Keep [] H H' → Q (.ref d) H'
theorem p__law_begin (T : Txt K mg) : Pr P w K mg base "_law_begin" s__law_begin ["script"] 1 (sp_begin K) := by
  obtain ⟨f, fd, D⟩ := T.d__law_begin
  refine ⟨f, fd, D, D.F.ok sc__law_begin (fun vs H Q E h => ?_) (fun cdv A outer s H vs Q E hr h => ?_)⟩
  · obtain ⟨d, n, rfl, _⟩ := h; rfl
  · obtain ⟨a, ns, rfl, hS, hl, q⟩ := h
    refine ⟨_, (pss_cons (ps_set (i := 1) sc__law_begin.nd rfl (Or.inl rfl) pe_int)
      (pss_cons (ps_for PassesOwn.never rfl (pi_list (pv 0)) (pg_name (i := 2) sc__law_begin.nd rfl (Or.inl rfl)) (pss_one (ps_set (i := 1) sc__law_begin.nd rfl (Or.inl rfl) (pe_op op_mod (pe_op op_add (pe_op op_mul (pv 1) pe_int) (pv 2)) pe_int))))
      (pss_one (ps_ret (pe_disp (pps_cons pe_str (pe_callTy call_list_of (by rfl) T.z_list (by decide +kernel) (pa_cons (pv 0) pa_nil)) (pps_cons pe_str pe_int (pps_cons pe_str pe_int (pps_cons pe_str (pv 1) pps_nil)))) (by rfl) (by rfl) (fun z => by cases z) (by decide)))))), ?_⟩
    refine ⟨_, rfl, a, rfl, ⟨_, hS⟩, for_list (K := K) (a := a) (xs := ns.map V.int) (fun i σ H2 => H2 = H ∧ ∃ (m : Int) (v : Option V), -(2 ^ 64) < m ∧ m < 2 ^ 64 ∧ σ = [some (.ref a), some (.int m), v]) ⟨rfl, 11, none, by decide, by decide, rfl⟩ (fun i σ H2 _ ⟨e, _⟩ => e ▸ hS) ?_ ?_⟩
    · rintro i x σ H2 hi ⟨rfl, m, v, m0, m1, rfl⟩
      obtain ⟨z, _, rfl⟩ := List.mem_map.mp (List.mem_of_getElem? hi)
      refine ⟨_, rfl, _, _, rfl, rfl, Or.inl ⟨m0, m1⟩, _, rfl, _, _, rfl, rfl, _, _, rfl, rfl, (by show (0 : Int) < _; decide), ?_⟩
      exact ⟨rfl, _, _, (mod_small (by decide) (by decide)).1, (mod_small (by decide) (by decide)).2, rfl⟩
    · rintro σ H2 ⟨rfl, m, v, m0, m1, rfl⟩
      refine fun p hp => ?_
      have hS' : SqL K (upd H2 p (.dK [])) a (ns.map V.int) := Same.seq (Keep.same (Keep.upd_new hp)) hS
      refine ⟨_, rfl, _, _, rfl, .inl hS', fun l hl' => ?_⟩
      have npl : p ≠ l := ne_of_none upd_same hl'
      refine ⟨_, rfl, (by rw [upd_ne npl]; exact upd_same), dkv l 0 0 m, rfl, (by show 4 ≤ 15; decide), ?_⟩
      have nl0 : H2 l = none := by rw [upd_ne npl.symm] at hl'; exact hl'
      refine q p l _ hp nl0 ⟨ns, 0, 0, m, upd_same, (by rw [upd_ne npl.symm]; exact upd_same), hl, by decide⟩ fun b o e _ => ?_
      have nb : b ≠ p := ne_of_none e hp
      rw [upd_ne nb, upd_ne (ne_of_none (by rw [upd_ne nb]; exact e) hl'), upd_ne nb]; exact e

/-- a name's text -/
def NameS (z : Str) : Prop := 1 ≤ (tl z).length ∧ (tl z).length ≤ 8 ∧ ∀ c ∈ tl z, 97 ≤ c ∧ c ≤ 122
def nameB (z : Str) : Bool := decide (1 ≤ (tl z).length) && decide ((tl z).length ≤ 8) && (tl z).all fun c => decide (97 ≤ c) && decide (c ≤ 122)
theorem NameS.of {z : Str} (h : nameB z = true) : NameS z := by
  unfold nameB at h
  simp only [Bool.and_eq_true, decide_eq_true_eq, List.all_eq_true] at h
  exact ⟨h.1.1, h.1.2, h.2⟩
/-- a text of one letter -/
def SignS (z : Str) : Prop := ∃ c, z = ⟨#[c]⟩ ∧ 97 ≤ c ∧ c ≤ 122
theorem letter_ok : ∀ c ∈ tl ("abcdefghijklmnopqrstuvwxyz" : Str), SignS ⟨#[c]⟩ := fun c hc => by
  have h : (tl ("abcdefghijklmnopqrstuvwxyz" : Str)).all (fun c => decide (97 ≤ c) && decide (c ≤ 122)) = true := by decide +kernel
  have := List.all_eq_true.mp h c hc
  simp only [Bool.and_eq_true, decide_eq_true_eq] at this
  exact ⟨c, rfl, this.1, this.2⟩
theorem own_ok : ∀ z ∈ Txt.split ("order great best put take move enter lock share net claim back found wish act tick pay send all none" : Str) " ", nameB z = true := by decide +kernel
theorem joinL_signs : ∀ {zs : List Str}, (∀ z ∈ zs, SignS z) → (joinL [] (zs.map tl)).length = zs.length ∧ ∀ c ∈ joinL [] (zs.map tl), 97 ≤ c ∧ c ≤ 122
  | [], _ => ⟨rfl, by simp [joinL]⟩
  | [z], h => by
    obtain ⟨c, rfl, h1, h2⟩ := h z (by simp)
    refine ⟨rfl, fun d hd => ?_⟩
    have : d = c := by simpa [joinL, tl] using hd
    subst this; exact ⟨h1, h2⟩
  | z :: y :: r, h => by
    obtain ⟨c, rfl, h1, h2⟩ := h z (by simp)
    obtain ⟨e1, e2⟩ := joinL_signs (zs := y :: r) fun z hz => h z (List.mem_cons_of_mem _ hz)
    have e : joinL [] (((⟨#[c]⟩ : Str) :: y :: r).map tl) = c :: joinL [] ((y :: r).map tl) := rfl
    rw [e]
    refine ⟨by rw [List.length_cons, e1]; rfl, fun d hd => ?_⟩
    rcases List.mem_cons.mp hd with rfl | hd
    · exact ⟨h1, h2⟩
    · exact e2 d hd
theorem name_join {zs : List Str} (h : ∀ z ∈ zs, SignS z) (h1 : 1 ≤ zs.length) (h2 : zs.length ≤ 8) : NameS (Txt.join "" zs) := by
  obtain ⟨e1, e2⟩ := joinL_signs h
  have e : tl (Txt.join "" zs) = joinL [] (zs.map tl) := by rw [join_eq, tl_join]; rfl
  unfold NameS
  rw [e, e1]
  exact ⟨h1, h2, e2⟩
theorem sign_sum : ∀ {zs : List Str}, (∀ z ∈ zs, SignS z) → (zs.map fun x => x.length).sum = zs.length
  | [], _ => rfl
  | z :: r, h => by
    obtain ⟨c, rfl, _⟩ := h z (by simp)
    have e := sign_sum (zs := r) fun z hz => h z (List.mem_cons_of_mem _ hz)
    rw [List.map_cons, List.sum_cons, e, List.length_cons]
    show 1 + r.length = r.length + 1
    omega
def sp_word : Sp := fun vs H Q _ => ∃ d c, vs = [.ref d] ∧ DrawAt H d c ∧ ∀ z H', NameS z → DrawAt H' d c → Keep [d] H H' → Q (.str z) H'
theorem p__law_word (T : Txt K mg) : Pr P w K mg base "_law_word" s__law_word ["state"] 4 sp_word := by
  obtain ⟨f, fd, D⟩ := T.d__law_word
  obtain ⟨f__law_pick, fd__law_pick, D__law_pick, G__law_pick⟩ := p__law_pick (P := P) (w := w) (base := base) T; obtain ⟨f__law_next, fd__law_next, D__law_next, G__law_next⟩ := p__law_next (P := P) (w := w) (base := base) T
  refine ⟨f, fd, D, D.F.ok sc__law_word (fun vs H Q E h => ?_) (fun cdv A outer s H vs Q E hr h => ?_)⟩
  · obtain ⟨d, c, rfl, _⟩ := h; rfl
  · obtain ⟨d, c, rfl, D0, q⟩ := h
    refine ⟨_, (pss_cons (ps_set (i := 1) sc__law_word.nd rfl (Or.inr rfl) pe_str)
      (pss_cons (ps_set (i := 2) sc__law_word.nd rfl (Or.inl rfl) pe_str)
      (pss_cons (ps_if (pt_cmpR op_eq (pe_call G__law_next (hr.mono (by decide)) rfl D__law_next.m D__law_next.F.kp D__law_next.b .nil pass0 (pa_cons (pv 0) (pa_cons pe_int pa_nil))) pe_int (nomark _)) (pss_one (ps_ret (pe_call G__law_pick (hr.mono (by decide)) rfl D__law_pick.m D__law_pick.F.kp D__law_pick.b .nil pass0 (pa_cons (pv 0) (pa_cons (pe_split (pv 2) pe_str) pa_nil))))) pss_nil)
      (pss_cons (ps_set (i := 3) sc__law_word.nd rfl (Or.inl rfl) (pe_ix ix_list (pe_lst (pa_cons pe_int (pa_cons pe_int (pa_cons pe_int (pa_cons pe_int (pa_cons pe_int (pa_cons pe_int pa_nil))))))) (pe_call G__law_next (hr.mono (by decide)) rfl D__law_next.m D__law_next.F.kp D__law_next.b .nil pass0 (pa_cons (pv 0) (pa_cons pe_int pa_nil))) (fun _ _ => rfl)))
      (pss_one (ps_ret (pe_join pe_str (pe_lc (own := [("turn", 4)]) (g := gName 4) (tt := tYes) rfl sc__law_word.nd (pi_range1 rfl T.z_range (pa_cons (pv 3) pa_nil)) (blkOk_by (own := [("turn", 4)]) (N := N__law_word) (sc := defScope s__law_word) (by decide +kernel)) (fun _ _ _ _ _ => (pg_name (i := 4) sc__law_word.nd rfl (Or.inl rfl))) (fun _ _ _ _ _ => pts_nil) (fun _ _ _ _ _ => (pe_call G__law_pick (hr.mono (by decide)) rfl D__law_pick.m D__law_pick.F.kp D__law_pick.b .nil pass0 (pa_cons (pv 0) (pa_cons (pv 1) pa_nil)))))))))))), ?_⟩
    refine ⟨_, rfl, d, c, _, rfl, D0, by decide, by decide, fun r H1 r0 r1 D1 K1 => ⟨rfl, _, rfl, ite2 (fun _ => ?_) (fun _ => ?_)⟩⟩
    · refine ⟨_, rfl, _, rfl, ⟨_, rfl⟩, _, _, rfl, rfl, (by decide +kernel), (by decide +kernel), fun p hp => ?_⟩
      refine ⟨d, c, _, _, rfl, D1.keep (Keep.upd_new hp), .inl ⟨p, rfl, .inl upd_same⟩, by rw [List.length_map]; decide +kernel, by rw [List.length_map]; decide +kernel, fun v H2 hv D2 K2 => ?_⟩
      obtain ⟨z, hz, rfl⟩ := List.mem_map.mp hv
      exact q z H2 (NameS.of (own_ok z hz)) D2 ((K1.trans (Keep.upd_new hp)).trans K2)
    · refine ⟨by show 6 ≤ sizeLine; decide, fun l hl => ?_⟩
      refine ⟨_, rfl, d, c, _, rfl, D1.keep (Keep.upd_new hl), by decide, by decide, fun r2 H3 s0 s1 D3 K3 => ?_⟩
      have ln : l ≠ d := (D1.new hl).1.symm
      have hl3 : H3 l = some (.lst [.int 1, .int 1, .int 2, .int 3, .int 5, .int 8]) := K3 _ _ upd_same (by simpa using ln)
      obtain ⟨v, e1, e2⟩ := atI_of (xs := [V.int 1, .int 1, .int 2, .int 3, .int 5, .int 8]) (i := r2) s0 (by simpa using s1)
      obtain ⟨n, rfl, n0, n1⟩ : ∃ n : Int, v = .int n ∧ 1 ≤ n ∧ n ≤ 8 := by
        have hm := List.mem_of_getElem? e1
        simp only [List.mem_cons, List.not_mem_nil, or_false] at hm
        rcases hm with rfl | rfl | rfl | rfl | rfl | rfl <;> exact ⟨_, rfl, by decide, by decide⟩
      refine ⟨l, _, r2, _, rfl, rfl, SqL.of hl3, e2, ?_⟩
      have KA : Keep [d] H H3 := (K1.trans (Keep.upd_new hl)).trans K3
      refine ⟨⟨_, rfl⟩, _, rfl, n, rfl, by omega, by omega, fun L hL => ?_⟩
      have nL := (D3.new hL).1
      have cL := (D3.new hL).2
      refine lc_range (lo := 0) (n := n.toNat) (fun i H4 => DrawAt H4 d c ∧ Keep [d] H H4 ∧ ∃ zs : List Str, H4 L = some (.lst (zs.map V.str)) ∧ zs.length = i ∧ ∀ z ∈ zs, SignS z) ⟨D3.keep (Keep.upd_new hL), KA.trans (Keep.upd_new hL), [], upd_same, rfl, by simp⟩ ?_ ?_
      · rintro i H4 hi ⟨D4, K4, zs, h4, hz, ha⟩
        refine ⟨rfl, tYes_go (yes ?_)⟩
        refine ⟨_, rfl, _, rfl, d, c, _, _, rfl, D4, .inr ⟨_, rfl, by decide +kernel, rfl⟩, by rw [List.length_map]; decide +kernel, by rw [List.length_map]; decide +kernel, fun v H5 hv D5 K5 => ?_⟩
        obtain ⟨s, hs, rfl⟩ := List.mem_map.mp hv
        have h5 := K5 _ _ h4 (by simpa using nL.symm)
        refine ⟨_, h5, by rw [List.length_map, hz]; have : sizeLine = 16777216 := sizeLine_eq; omega, ?_⟩
        refine ⟨D5.keep (Keep.upd_in (ds := [L]) (by simp)) (by simpa using nL) (by simpa using cL), fun b o e hb => ?_, zs ++ [_], by rw [upd_same, List.map_append]; rfl, by simp [hz], fun z hm => ?_⟩
        · have := K5 _ _ (K4 b o e hb) hb
          rw [upd_ne]; exact this
          rintro rfl
          exact absurd (KA b o e hb) (by rw [hL]; simp)
        · rcases List.mem_append.mp hm with hm | hm
          · exact ha z hm
          · rw [List.mem_singleton] at hm; subst hm; exact letter_ok s hs
      · rintro H4 ⟨D4, K4, zs, h4, hz, ha⟩
        refine ⟨_, L, zs, rfl, rfl, .inl (SqL.of h4), ?_, q _ H4 (name_join ha (by omega) (by omega)) D4 K4⟩
        rw [sign_sum ha]
        have : ("" : Str).length = 0 := by decide +kernel
        rw [this]
        omega
end
end My
set_option Elab.async false
set_option maxRecDepth 100000
set_option maxHeartbeats 4000000
namespace My
open PySem L2 TL
section
variable {P : Program} {w : World} {K : PySem.W.Frag} {mg : Str → Option Value} {base : Heap}
abbrev ABC : Str := "abcdefghijklmnopqrstuvwxyz"
theorem take_succ_of {α : Type} {l : List α} {i : Nat} {x : α} (h : l[i]? = some x) : l.take (i + 1) = l.take i ++ [x] := by
  rw [List.take_add_one, h]; rfl
theorem cut_take {z : Str} {k : Nat} : tl (cutS z none (some (k : Int))) = (tl z).take k := by
  unfold cutS
  show List.take _ (List.drop (HT.sIx z.length 0 none) z.cps.toList) = _
  rw [HT.sIx_none, HT.sIx_nat, List.drop_zero]
  have e := len_tl z
  show List.take (min k z.length - 0) (tl z) = _
  rw [Nat.sub_zero]
  by_cases h : k ≤ z.length
  · rw [Nat.min_eq_left h]
  · rw [Nat.min_eq_right (by omega), List.take_of_length_le (by omega), List.take_of_length_le (by omega)]
theorem cut7_len {z : Str} (h : NameS z) : (tl (cutS z none (some 7))).length ≤ 7 := by
  have e : tl (cutS z none (some 7)) = (tl z).take 7 := cut_take (k := 7)
  rw [e, List.length_take]; omega
theorem cut7_name {z : Str} {c : Nat} (h : NameS z) (hc : 97 ≤ c ∧ c ≤ 122) : NameS (cutS z none (some 7) ++ ⟨#[c]⟩) := by
  have e : tl (cutS z none (some 7) ++ ⟨#[c]⟩) = (tl z).take 7 ++ [c] := by rw [tl_append, show tl (cutS z none (some 7)) = (tl z).take 7 from cut_take (k := 7)]
  unfold NameS
  rw [e]
  refine ⟨by simp, by simp; omega, fun d hd => ?_⟩
  rcases List.mem_append.mp hd with hd | hd
  · exact h.2.2 d (List.mem_of_mem_take hd)
  · rw [List.mem_singleton] at hd; subst hd; exact hc
theorem Keep.trans_new {H H1 : Hp} {L : Addr} {o : HO} (k : Keep [] H H1) (h : H L = none) : Keep [] H (upd H1 L o) := fun b u e n => by
  rw [upd_ne (ne_of_none e h)]; exact k b u e n
theorem inV_str (x : Str) : ∀ zs : List Str, inV (V.str x) (zs.map V.str) = decide (x ∈ zs)
  | [] => rfl
  | y :: r => by
    have e := inV_str x r
    unfold inV at e ⊢
    rw [List.map_cons, List.any_cons, e]
    show ((y == x) || decide (x ∈ r)) = _
    by_cases h : x = y
    · subst h; simp
    · have : (y == x) = false := beq_eq_false_iff_ne.mpr (Ne.symm h)
      rw [this]; simp [h]
theorem all_flat_str (zs : List Str) : (zs.map V.str).all flatV = true := by
  rw [List.all_eq_true]; intro v hv
  obtain ⟨z, _, rfl⟩ := List.mem_map.mp hv; rfl
/-- a list or tuple of names, no two alike -/
structure CrewL (zs : List Str) : Prop where
  ok : ∀ z ∈ zs, NameS z
  nd : zs.Nodup
theorem nodup_sub : ∀ {ys zs : List Str}, ys.Nodup → (∀ y ∈ ys, y ∈ zs) → ys.length ≤ zs.length
  | [], _, _, _ => Nat.zero_le _
  | y :: r, zs, nd, h => by
    have hy : y ∈ zs := h y (by simp)
    have e := List.length_erase_of_mem hy
    have nr := (List.nodup_cons.mp nd)
    have := nodup_sub (ys := r) (zs := zs.erase y) nr.2 fun x hx => by
      have : x ≠ y := fun e => nr.1 (e ▸ hx)
      exact (List.mem_erase_of_ne this).mpr (h x (List.mem_cons_of_mem _ hx))
    have p := List.length_pos_of_mem hy
    rw [List.length_cons]; omega
def spareL (z : Str) : List Str := z :: (tl ABC).map fun c => cutS z none (some 7) ++ ⟨#[c]⟩
theorem ABC_ok : ∀ c ∈ tl ABC, 97 ≤ c ∧ c ≤ 122 := fun c hc => by
  obtain ⟨c', e, h⟩ := letter_ok c hc
  have : c = c' := by injection e with e; simpa using e
  subst this; exact h
theorem spare_names {z : Str} (h : NameS z) : ∀ y ∈ spareL z, NameS y := fun y hy => by
  rcases List.mem_cons.mp hy with rfl | hy
  · exact h
  · obtain ⟨c, hc, rfl⟩ := List.mem_map.mp hy
    exact cut7_name h (ABC_ok c hc)
theorem spare_nd (z : Str) : ((tl ABC).map fun c => cutS z none (some 7) ++ (⟨#[c]⟩ : Str)).Nodup := by
  refine List.Pairwise.map _ (R := fun a b => a ≠ b) (fun a b hab e => hab ?_) (by decide +kernel)
  have e2 := congrArg tl e
  rw [tl_append, tl_append] at e2
  have e3 := List.append_cancel_left e2
  simpa [tl] using e3
theorem spare_left {z : Str} {zs : List Str} (h : NameS z) (hz : zs.length < 26) : ∃ y r, (spareL z).filter (fun y => !decide (y ∈ zs)) = y :: r ∧ NameS y ∧ y ∉ zs := by
  cases e : (spareL z).filter (fun y => !decide (y ∈ zs)) with
  | cons y r =>
    have hm : y ∈ (spareL z).filter (fun y => !decide (y ∈ zs)) := by rw [e]; simp
    obtain ⟨h1, h2⟩ := List.mem_filter.mp hm
    exact ⟨y, r, rfl, spare_names h y h1, by simpa using h2⟩
  | nil =>
    have hall : ∀ y ∈ spareL z, y ∈ zs := fun y hy => by
      have := List.filter_eq_nil_iff.mp e y hy
      simpa using this
    have := nodup_sub (spare_nd z) fun y hy => hall y (List.mem_cons_of_mem _ hy)
    rw [List.length_map, show (tl ABC).length = 26 by decide +kernel] at this
    omega
def sp_crew : Sp := fun vs H Q _ => ∃ d c m, vs = [.ref d, .int m] ∧ DrawAt H d c ∧ 0 ≤ m ∧ m ≤ 20 ∧ ∀ p zs H', H p = none → H' p = some (.lst (zs.map V.str)) → CrewL zs → (zs.length : Int) = m → DrawAt H' d c → Keep [d] H H' → Q (.ref p) H'
theorem p__law_crew (T : Txt K mg) : Pr P w K mg base "_law_crew" s__law_crew ["state", "many"] 5 sp_crew := by
  obtain ⟨f, fd, D⟩ := T.d__law_crew
  obtain ⟨f__law_word, fd__law_word, D__law_word, G__law_word⟩ := p__law_word (P := P) (w := w) (base := base) T
  refine ⟨f, fd, D, D.F.ok sc__law_crew (fun vs H Q E h => ?_) (fun cdv A outer s H vs Q E hr h => ?_)⟩
  · obtain ⟨d, c, m, rfl, _⟩ := h; rfl
  · obtain ⟨d, c, m, rfl, D0, m0, m1, q⟩ := h
    refine ⟨_, (pss_cons (ps_set (i := 2) sc__law_crew.nd rfl (Or.inr rfl) (pe_lst pa_nil))
      (pss_cons (ps_for PassesOwn.never rfl (pi_range1 rfl T.z_range (pa_cons (pv 1) pa_nil)) (pg_name (i := 3) sc__law_crew.nd rfl (Or.inl rfl)) (pss_cons (ps_set (i := 4) sc__law_crew.nd rfl (Or.inr rfl) (pe_call G__law_word (hr.mono (by decide)) rfl D__law_word.m D__law_word.F.kp D__law_word.b .nil pass0 (pa_cons (pv 0) pa_nil)))
      (pss_cons (ps_set (i := 5) sc__law_crew.nd rfl (Or.inl rfl) (pe_op op_cat (pe_lst (pa_cons (pv 4) pa_nil)) (pe_lc (own := [("sign", 6)]) (g := gName 6) (tt := tYes) rfl sc__law_crew.nd (pi_str pe_str) (blkOk_by (own := [("sign", 6)]) (N := N__law_crew) (sc := defScope s__law_crew) (by decide +kernel)) (fun _ _ _ _ _ => (pg_name (i := 6) sc__law_crew.nd rfl (Or.inl rfl))) (fun _ _ _ _ _ => pts_nil) (fun _ _ _ _ _ => (pe_op op_add_str (pe_slice sl_str (pv 4) po_none (po_some pe_int)) (pv 6))))))
      (pss_one (ps_expr (pe_bm PySem.F.plainAttrs_list PySem.F.slot_list_append PySem.F.type_list_append mt_append (pv 2) (pa_cons (pe_ix ix_list (pe_lc (own := [("one", 7)]) (g := gName 7) rfl sc__law_crew.nd (pi_list (pv 5)) (blkOk_by (own := [("one", 7)]) (N := N__law_crew) (sc := defScope s__law_crew) (by decide +kernel)) (fun _ _ _ _ _ => (pg_name (i := 7) sc__law_crew.nd rfl (Or.inl rfl))) (fun _ _ _ _ _ => pts_one (pt_cmpR (op_notIn_seqK (K := K) rfl) (pv 7) (pv 2) (by rfl))) (fun _ _ _ _ _ => (pv 7))) pe_int (fun _ _ => rfl)) pa_nil)))))))
      (pss_one (ps_ret (pv 2))))), ?_⟩
    refine ⟨Nat.zero_le _, fun p hp => ?_⟩
    refine ⟨_, rfl, m, rfl, by omega, by omega, ?_⟩
    refine for_range (lo := 0) (n := m.toNat) (fun i σ H2 => ∃ (a b e : Option V) (zs : List Str), σ = [some (.ref d), some (.int m), some (.ref p), a, b, e, none, none] ∧ H2 p = some (.lst (zs.map V.str)) ∧ CrewL zs ∧ zs.length = i ∧ DrawAt H2 d c ∧ Keep [d] H H2) ⟨none, none, none, [], rfl, upd_same, ⟨by simp, by simp⟩, rfl, D0.keep (Keep.upd_new hp), Keep.upd_new hp⟩ ?_ ?_
    · rintro i σ H2 hi ⟨a, b, e, zs, rfl, h2, C2, hz, D2, K2⟩
      have np := D0.new hp
      refine ⟨_, rfl, d, c, rfl, D2, fun z H3 hz3 D3 K3 => ?_⟩
      refine ⟨_, rfl, by show 1 ≤ sizeLine; decide, fun l hl => ?_⟩
      have K3' : Keep [d] H H3 := K2.trans K3
      have nl := D3.new hl
      refine ⟨_, rfl, fun L hL => lc_it walk_str (fun i H4 => Keep [] (upd H3 l (.lst [.str z])) H4 ∧ H4 L = some (.lst (((tl ABC).take i).map fun c => V.str (cutS z none (some 7) ++ ⟨#[c]⟩)))) ⟨Keep.upd_new hL, upd_same⟩ (fun _ _ _ _ => trivial) ?_ ?_⟩
      · rintro j x H4 H5 hj ⟨K4, h4⟩ ⟨rfl, ch, hch, rfl⟩
        refine ⟨rfl, tYes_go (yes ?_)⟩
        refine ⟨_, rfl, _, rfl, _, rfl, (by have := hz3.2.1; rw [len_tl]; have : sizeLine = 16777216 := sizeLine_eq; omega), _, rfl, _, _, rfl, rfl, ?_, _, h4, ?_, K4.trans_new hL, ?_⟩
        · have h7 := cut7_len hz3
          have : sizeLine = 16777216 := sizeLine_eq
          have e : (⟨#[ch]⟩ : Str).length = 1 := rfl
          rw [e, len_tl]; omega
        · rw [List.length_map, List.length_take]
          have : (tl ABC).length = 26 := by decide +kernel
          have : sizeLine = 16777216 := sizeLine_eq
          omega
        · have e : (tl ABC)[j]? = some ch := by rw [← hch]; exact (Array.getElem?_toList).symm ▸ rfl
          rw [upd_same, take_succ_of e, List.map_append]; rfl
      · rintro H4 ⟨K4, h4⟩
        have e26 : (ABC).cps.size = (tl ABC).length := len_tl ABC
        rw [show (Str.ofString "abcdefghijklmnopqrstuvwxyz").cps.size = (tl ABC).length from e26, List.take_length] at h4
        have hl4 : H4 l = some (.lst [.str z]) := K4 _ _ upd_same (by simp)
        have h26 : (tl ABC).length = 26 := by decide +kernel
        have hs : sizeLine = 16777216 := sizeLine_eq
        refine ⟨l, L, _, _, rfl, rfl, hl4, h4, by rw [List.length_map, h26]; simp [hs], fun S hS => ?_⟩
        have es : [V.str z] ++ (tl ABC).map (fun c => V.str (cutS z none (some 7) ++ ⟨#[c]⟩)) = (spareL z).map V.str := by
          unfold spareL; rw [List.map_cons, List.map_map]; rfl
        rw [es]
        have K5 : Keep [d] H3 (upd H4 S (.lst ((spareL z).map V.str))) := ((Keep.upd_new hl).trans (K4.mono (by simp))).trans (Keep.upd_new hS)
        generalize hH5 : upd H4 S (.lst ((spareL z).map V.str)) = H5 at K5
        have hS5 : H5 S = some (.lst ((spareL z).map V.str)) := by rw [← hH5]; exact upd_same
        have hp3 : H3 p = some (.lst (zs.map V.str)) := K3 _ _ h2 (by simpa using np.1.symm)
        have hp5 : H5 p = some (.lst (zs.map V.str)) := K5 _ _ hp3 (by simpa using np.1.symm)
        have D5 : DrawAt H5 d c := by
          rw [← hH5]
          exact ((D3.keep (Keep.upd_new (ds := []) hl)).keep K4).keep (Keep.upd_new (ds := []) hS)
        refine ⟨_, rfl, .inl ⟨rfl, _, SqL.of hp5⟩, _, rfl, S, rfl, ⟨_, SqL.of hS5⟩, fun L2 hL2 => ?_⟩
        refine lc_list (K := K) (a := S) (xs := (spareL z).map V.str) (fun i H6 => Keep [] H5 H6 ∧ H6 L2 = some (.lst ((((spareL z).take i).filter fun y => !decide (y ∈ zs)).map V.str))) ⟨Keep.upd_new hL2, upd_same⟩ (fun i H6 _ ⟨k, _⟩ => SqL.of (k _ _ hS5 (by simp))) ?_ ?_
        · rintro j x H6 hj ⟨K6, h6⟩
          rw [List.getElem?_map] at hj
          cases ej : (spareL z)[j]? with
          | none => rw [ej] at hj; cases hj
          | some y =>
            rw [ej] at hj; cases hj
            refine ⟨rfl, _, rfl, _, rfl, p, _, rfl, .inl (SqL.of (K6 _ _ hp5 (by simp))), rfl, all_flat_str zs, _, rfl, ?_⟩
            rw [take_succ_of ej, List.filter_append]
            have ei : inV (V.str y) (zs.map V.str) = decide (y ∈ zs) := inV_str y zs
            by_cases hy : y ∈ zs
            · have e1 : (if true = true then !inV (V.str y) (zs.map V.str) else inV (V.str y) (zs.map V.str)) = false := by rw [if_pos rfl, ei]; simp [hy]
              rw [e1]
              refine iteF ⟨K6, ?_⟩
              rw [h6]; simp [hy]
            · have e1 : (if true = true then !inV (V.str y) (zs.map V.str) else inV (V.str y) (zs.map V.str)) = true := by rw [if_pos rfl, ei]; simp [hy]
              rw [e1]
              refine iteT ⟨_, rfl, _, h6, ?_, K6.trans_new hL2, ?_⟩
              · rw [List.length_map]
                refine Nat.lt_of_le_of_lt (List.length_filter_le _ _) ?_
                rw [List.length_take]
                have : (spareL z).length = 27 := by unfold spareL; rw [List.length_cons, List.length_map, h26]
                omega
              · rw [upd_same, List.map_append]; simp [hy]
        · rintro H6 ⟨K6, h6⟩
          rw [List.length_map, List.take_length] at h6
          obtain ⟨y, r, er, hy1, hy2⟩ := spare_left (zs := zs) hz3 (by omega)
          rw [er] at h6
          refine ⟨L2, _, 0, V.str y, rfl, rfl, SqL.of h6, atI_nat (j := 0) rfl, ?_⟩
          refine ⟨p, _, _, rfl, rfl, K6 _ _ hp5 (by simp), by rw [List.length_map]; omega, ?_⟩
          have K7 : Keep [d] H H6 := (K3'.trans K5).trans (K6.mono (by simp))
          refine ⟨_, _, _, zs ++ [y], rfl, by rw [upd_same, List.map_append]; rfl, ⟨fun x hx => ?_, ?_⟩, by simp [hz], (D5.keep K6).keep (Keep.upd_in (ds := [p]) (by simp)) (by simpa using np.1) (by simpa using np.2), fun b o e hb => ?_⟩
          · rcases List.mem_append.mp hx with hx | hx
            · exact C2.ok x hx
            · rw [List.mem_singleton] at hx; subst hx; exact hy1
          · refine List.nodup_append.mpr ⟨C2.nd, by simp, fun a ha b hb => ?_⟩
            rw [List.mem_singleton] at hb; subst hb
            rintro rfl; exact hy2 ha
          · rw [upd_ne (ne_of_none e hp)]; exact K7 b o e hb
    · rintro σ H2 ⟨a, b, e, zs, rfl, h2, C2, hz, D2, K2⟩
      exact ⟨_, rfl, q p zs H2 hp h2 C2 (by omega) D2 K2⟩
end
end My
set_option Elab.async false
set_option maxRecDepth 100000
set_option maxHeartbeats 4000000
namespace My
open PySem PySem.Spec PyProof.Rows PySem.SeqAt
section
variable {prog : Program} {w : World} {A : Around} {E : Value → Shared → Prop} {s : Shared}
/-- str.__ne__ of a text and a dict: it declines -/
theorem str_ne_dict (b : Str) (u : Tok) (l : Addr) (c : Value) (es : Array DictEntry) (n : Nat) (dd : Option Addr) (sl : Array (Option Value)) :
    Meets (Builtin.«str.__ne__» ⟨[.str b u, .ref l], []⟩)
      (fun _ R s => s.heap.get? l = some ⟨c, dd, .dict es n, sl⟩ ∧ R (.ok (.ret .notImplemented)) s) :=
  .of_wp fun prog w A R s h => by
    obtain ⟨hp, g, d, tk, os⟩ := s
    obtain ⟨hl, h⟩ := h
    wp_walk using AutoSeq1.wpAny_loadPart' hl, wpAny_load hl
    exact ⟨_, rfl, h⟩
theorem ne_dict_str {a : Addr} {o : Obj} {es : Array DictEntry} {ep : Nat} {b : Str} {u : Tok} {Q : Value → Shared → Prop} (ha : s.heap.get? a = some o) (hc : o.cls = .type "dict") (hd : o.data = .dict es ep)
    (hu : A.units < cLine) (h : Q (.bool true) s) : wpAny (model prog w) A (compareOp .NotEq (.ref a) (.str b u)) Q E s := by
  have tI : s.TypeIs (.ref a) "dict" := ⟨o, ha, hc⟩
  obtain ⟨cls, dd, data, sl⟩ := id o
  refine rc_ne_decline_or (k := false) tI (typeIs_str s b u) (by decide) PySem.F.sub_str_dict PySem.F.slot_dict_ne PySem.F.slot_str_ne_refl (fun Q' hq => ?_) (fun Q' hq => ?_) (fun Q' hq => wpAny_of_eq (rfl : isSame (.ref a) (.str b u) = pure false) hq) (.inr hu) h
  · refine wpAny_call_entry PySem.F.slot_dict_ne tI PySem.F.entry_dict_ne ?_ (PySem.F.args_dict_ne_2 _ _)
    show wpAny _ _ (Builtin.Dict.dictSlotArgs "__ne__" ⟨[.ref a, .str b u], []⟩ >>= _) _ _ s
    unfold Builtin.Dict.dictSlotArgs
    refine wpAny_bind (wpAny_bind (wpAny_notOrdered_dict tI ?_))
    refine wpAny_pure (wpAny_bind (wpAny_isInstance (T := "str") (typeIs_str s b u) PySem.F.sub_str_dict ?_))
    rw [if_pos (by rfl)]
    exact wpAny_bind (wpAny_rule (wpAny_pure ⟨_, rfl, hq⟩))
  · obtain ⟨cls, dd, data, sl⟩ := o
    cases hc; cases hd
    exact call_meets PySem.F.slot_str_ne_refl (typeIs_str s b u) PySem.F.entry_str_ne (PySem.F.args_str_ne_2 _ _) (str_ne_dict b u a _ es ep dd sl) ⟨ha, hq⟩
end
open L2 TL
/-- a value of a kind that a law hands in, by its type's name -/
inductive Thing (H : Hp) : V → String → Prop where
  | non : Thing H .non "NoneType"
  | bl (b : Bool) : Thing H (.bl b) "bool"
  | int (i : Int) : Thing H (.int i) "int"
  | str (z : Str) (h : z.length ≤ sizeLine) : Thing H (.str z) "str"
  | lst {a : Addr} {xs : List V} (h : H a = some (.lst xs)) : Thing H (.ref a) "list"
  | tup {a : Addr} {xs : List V} (h : H a = some (.tup xs)) : Thing H (.ref a) "tuple"
  | dct {a : Addr} {kvs : List (Key × V)} (h : H a = some (.dK kvs)) : Thing H (.ref a) "dict"
theorem Thing.ty {K : PySem.W.Frag} {H : Hp} {v : V} {n : String} (h : Thing H v n) : TyX K H v (.type n) := by
  cases h with
  | non => exact .base .non
  | bl b => exact .base (.bl b)
  | int i => exact .base (.int i)
  | str z h => exact .base (.str z)
  | lst h => exact .base (.lst h)
  | tup h => exact .base (.tup h)
  | dct h => exact .base (.dK h)
theorem Thing.keep {H H' : Hp} {d : Addr} {v : V} {n : String} (h : Thing H v n) (k : Keep [d] H H') (hv : v ≠ .ref d) : Thing H' v n := by
  have na : ∀ a, v = .ref a → a ∉ [d] := fun a e => by simp only [List.mem_singleton]; rintro rfl; exact hv e
  cases h with
  | non => exact .non
  | bl b => exact .bl b
  | int i => exact .int i
  | str z h => exact .str z h
  | lst h => exact .lst (k _ _ h (na _ rfl))
  | tup h => exact .tup (k _ _ h (na _ rfl))
  | dct h => exact .dct (k _ _ h (na _ rfl))
def rNeStr : R2 := fun x y H Q => ∃ n z, Thing H x n ∧ y = .str z ∧ Q (.bl (!decide (x = .str z))) H
theorem op_neStr {X : Cx} (hu : X.A.units + 64 < cLine) : OpR X (compareOp .NotEq) rNeStr := by
  intro pins s σ H x y v u Q I rx ry h
  obtain ⟨n, z, T, rfl, q⟩ := h
  obtain ⟨t, rfl⟩ := ry
  have fin : ∀ k : Bool, (!decide (x = V.str z)) = k → EP X pins σ Q (.bool k) s := fun k e => ⟨.bl k, H, I, rfl, e ▸ q⟩
  cases T with
  | non => cases (show v = Value.none from rx); exact RcNeAt.none_str z t _ _ _ _ (fin _ (by simp))
  | bl b => cases (show v = Value.bool b from rx); exact RcNeAt.bool_str b z t _ _ _ _ (fin _ (by simp))
  | int i => obtain ⟨t', rfl⟩ := (show ∃ t, v = Value.int i t from rx); exact RcNeAt.int_str i t' z t _ _ _ _ (fin _ (by simp))
  | str y hy =>
    obtain ⟨t', rfl⟩ := (show ∃ t, v = Value.str y t from rx)
    refine RcNeAt.str_str y t' z t _ _ _ _ (fin _ ?_)
    by_cases e : y = z
    · subst e; simp
    · simp [e]
  | @lst a xs h =>
    cases (show v = Value.ref a from rx)
    obtain ⟨_, its, k, _, h1⟩ := (show ObjOk X.prog X.w H s.heap a (.lst xs) from I.hok a _ h)
    exact RcNeAt.list_str z t ⟨_, h1, rfl, _, rfl⟩ (by omega) _ _ _ _ (fin _ (by simp))
  | @tup a xs h =>
    cases (show v = Value.ref a from rx)
    obtain ⟨_, its, _, o, h1, h2, k, h3⟩ := (show ObjOk X.prog X.w H s.heap a (.tup xs) from I.hok a _ h)
    exact RcNeAt.tuple_str z t ⟨_, h1, h2, _, h3⟩ (by omega) _ _ _ _ (fin _ (by simp))
  | @dct a kvs h =>
    cases (show v = Value.ref a from rx)
    obtain ⟨_, _, vs, _, o, es, ep, h1, h2, h3, _⟩ := (show ObjOk X.prog X.w H s.heap a (.dK kvs) from I.hok a _ h)
    exact ne_dict_str h1 h2.1 h3 (by omega) (fin _ (by simp))

def intV : V → Bool
  | .int _ => true
  | _ => false
def geV (lo : Int) : V → Bool
  | .int i => decide (lo ≤ i)
  | _ => false
def rngV (lo hi : Int) : V → Bool
  | .int i => decide (lo ≤ i) && decide (i ≤ hi)
  | _ => false
def nameV : V → Bool
  | .str z => nameB z
  | _ => false
theorem intV_eq {v : V} (h : intV v = true) : ∃ i, v = .int i := by
  cases v <;> first | exact ⟨_, rfl⟩ | cases h

section
variable {P : Program} {w : World} {K : PySem.W.Frag} {mg : Str → Option Value} {base : Heap}
theorem isi_int {H : Hp} {v : V} {n : String} (h : Thing H v n) : ∃ b, PySem.W.kitOne K (.type n) (.type "int") = some b ∧ ((∃ i, v = .int i ∧ b = true) ∨ (∃ c, v = .bl c ∧ b = true) ∨ (intV v = false ∧ b = false)) := by
  cases h with
  | non => exact ⟨false, kit_ty (by decide +kernel), .inr (.inr ⟨rfl, rfl⟩)⟩
  | bl b => exact ⟨true, kit_ty (by decide +kernel), .inr (.inl ⟨b, rfl, rfl⟩)⟩
  | int i => exact ⟨true, kit_ty (by decide +kernel), .inl ⟨i, rfl, rfl⟩⟩
  | str z h => exact ⟨false, kit_ty (by decide +kernel), .inr (.inr ⟨rfl, rfl⟩)⟩
  | lst h => exact ⟨false, kit_ty (by decide +kernel), .inr (.inr ⟨rfl, rfl⟩)⟩
  | tup h => exact ⟨false, kit_ty (by decide +kernel), .inr (.inr ⟨rfl, rfl⟩)⟩
  | dct h => exact ⟨false, kit_ty (by decide +kernel), .inr (.inr ⟨rfl, rfl⟩)⟩
def sp_V (f : V → Bool) : Sp := fun vs H Q _ => ∃ v n, vs = [v] ∧ Thing H v n ∧ ∀ H', Keep [] H H' → Q (.bl (f v)) H'
theorem p_is_number (T : Txt K mg) : Pr P w K mg base "is_number" s_is_number ["thing"] 1 (sp_V intV) := by
  obtain ⟨f, fd, D⟩ := T.d_is_number
  refine ⟨f, fd, D, D.F.ok sc_is_number (fun vs H Q E h => ?_) (fun cdv A outer s H vs Q E hr h => ?_)⟩
  · obtain ⟨v, n, rfl, _⟩ := h; rfl
  · obtain ⟨v, n, rfl, Tv, q⟩ := h
    refine ⟨_, (pss_one (ps_ret (pe_and (pe_callB call_isi (by rfl) T.z_isinstance (by decide +kernel) (pa_cons (pv 0) (pa_cons (pe_bltn (by rfl) T.z_int (by decide +kernel) (v := .ty "int") rfl) pa_nil))) (pe_one (pe_not (pe_callB call_isi (by rfl) T.z_isinstance (by decide +kernel) (pa_cons (pv 0) (pa_cons (pe_bltn (by rfl) T.z_bool (by decide +kernel) (v := .ty "bool") rfl) pa_nil)))))))), ?_⟩
    obtain ⟨b, eb, hb⟩ := isi_int (K := K) Tv
    refine ⟨_, rfl, v, _, _, _, b, rfl, .ty _, Tv.ty, eb, b, rfl, ?_⟩
    rcases hb with ⟨i, rfl, rfl⟩ | ⟨c, rfl, rfl⟩ | ⟨e, rfl⟩
    · refine iteT ⟨_, rfl, _, _, _, _, false, rfl, .ty _, .base (.int i), kit_ty (by decide +kernel), _, rfl, ?_⟩
      exact q _ Keep.refl
    · refine iteT ⟨_, rfl, _, _, _, _, true, rfl, .ty _, .base (.bl c), kit_ty (by decide +kernel), _, rfl, ?_⟩
      exact q _ Keep.refl
    · refine iteF ?_
      rw [e] at q; exact q _ Keep.refl
theorem p_is_count (T : Txt K mg) : Pr P w K mg base "is_count" s_is_count ["thing"] 2 (sp_V (geV 1)) := by
  obtain ⟨f, fd, D⟩ := T.d_is_count
  obtain ⟨f_is_number, fd_is_number, D_is_number, G_is_number⟩ := p_is_number (P := P) (w := w) (base := base) T
  refine ⟨f, fd, D, D.F.ok sc_is_count (fun vs H Q E h => ?_) (fun cdv A outer s H vs Q E hr h => ?_)⟩
  · obtain ⟨v, n, rfl, _⟩ := h; rfl
  · obtain ⟨v, n, rfl, Tv, q⟩ := h
    refine ⟨_, (pss_one (ps_ret (pe_and (pe_call G_is_number (hr.mono (by decide)) rfl D_is_number.m D_is_number.F.kp D_is_number.b .nil pass0 (pa_cons (pv 0) pa_nil)) (pe_one (pe_cmpR op_ge (pv 0) pe_int (nomark _)))))), ?_⟩
    refine ⟨_, rfl, v, n, rfl, Tv, fun H1 K1 => ⟨_, rfl, ite2 (fun e => ?_) (fun e => ?_)⟩⟩
    · obtain ⟨i, rfl⟩ := intV_eq e
      exact ⟨_, rfl, _, _, rfl, rfl, q _ K1⟩
    · have : geV 1 v = false := by cases v <;> first | rfl | exact absurd rfl e
      rw [this] at q; exact q _ K1
theorem p_is_amount (T : Txt K mg) : Pr P w K mg base "is_amount" s_is_amount ["thing"] 3 (sp_V (rngV 1 1000000000)) := by
  obtain ⟨f, fd, D⟩ := T.d_is_amount
  obtain ⟨f_is_count, fd_is_count, D_is_count, G_is_count⟩ := p_is_count (P := P) (w := w) (base := base) T; obtain ⟨t_MOST, g_MOST⟩ := T.g_MOST
  refine ⟨f, fd, D, D.F.ok sc_is_amount (fun vs H Q E h => ?_) (fun cdv A outer s H vs Q E hr h => ?_)⟩
  · obtain ⟨v, n, rfl, _⟩ := h; rfl
  · obtain ⟨v, n, rfl, Tv, q⟩ := h
    refine ⟨_, (pss_one (ps_ret (pe_and (pe_call G_is_count (hr.mono (by decide)) rfl D_is_count.m D_is_count.F.kp D_is_count.b .nil pass0 (pa_cons (pv 0) pa_nil)) (pe_one (pe_cmpR op_le (pv 0) (pe_glob (v := .int 1000000000) rfl g_MOST ⟨_, rfl⟩) (nomark _)))))), ?_⟩
    refine ⟨_, rfl, v, n, rfl, Tv, fun H1 K1 => ⟨_, rfl, ite2 (fun e => ?_) (fun e => ?_)⟩⟩
    · obtain ⟨i, rfl⟩ : ∃ i, v = .int i := by cases v <;> first | exact ⟨_, rfl⟩ | cases e
      have e' : decide ((1 : Int) ≤ i) = true := e
      refine ⟨_, rfl, _, _, rfl, rfl, ?_⟩
      have : rngV 1 1000000000 (.int i) = decide (i ≤ 1000000000) := by show (decide ((1 : Int) ≤ i) && _) = _; rw [e']; rfl
      rw [this] at q; exact q _ K1
    · have : rngV 1 1000000000 v = false := by
        cases v <;> first | rfl | (show (decide _ && _) = false; rw [Bool.and_eq_false_iff]; exact .inl (Bool.eq_false_iff.mpr e))
      rw [this] at q; exact q _ K1
theorem p_is_whole (T : Txt K mg) : Pr P w K mg base "is_whole" s_is_whole ["thing"] 2 (sp_V (geV 0)) := by
  obtain ⟨f, fd, D⟩ := T.d_is_whole
  obtain ⟨f_is_number, fd_is_number, D_is_number, G_is_number⟩ := p_is_number (P := P) (w := w) (base := base) T
  refine ⟨f, fd, D, D.F.ok sc_is_whole (fun vs H Q E h => ?_) (fun cdv A outer s H vs Q E hr h => ?_)⟩
  · obtain ⟨v, n, rfl, _⟩ := h; rfl
  · obtain ⟨v, n, rfl, Tv, q⟩ := h
    refine ⟨_, (pss_one (ps_ret (pe_and (pe_call G_is_number (hr.mono (by decide)) rfl D_is_number.m D_is_number.F.kp D_is_number.b .nil pass0 (pa_cons (pv 0) pa_nil)) (pe_one (pe_cmpR op_ge (pv 0) pe_int (nomark _)))))), ?_⟩
    refine ⟨_, rfl, v, n, rfl, Tv, fun H1 K1 => ⟨_, rfl, ite2 (fun e => ?_) (fun e => ?_)⟩⟩
    · obtain ⟨i, rfl⟩ := intV_eq e
      exact ⟨_, rfl, _, _, rfl, rfl, q _ K1⟩
    · have : geV 0 v = false := by cases v <;> first | rfl | exact absurd rfl e
      rw [this] at q; exact q _ K1
theorem p_is_time (T : Txt K mg) : Pr P w K mg base "is_time" s_is_time ["thing"] 3 (sp_V (geV 0)) := by
  obtain ⟨f, fd, D⟩ := T.d_is_time
  obtain ⟨f_is_whole, fd_is_whole, D_is_whole, G_is_whole⟩ := p_is_whole (P := P) (w := w) (base := base) T
  refine ⟨f, fd, D, D.F.ok sc_is_time (fun vs H Q E h => ?_) (fun cdv A outer s H vs Q E hr h => ?_)⟩
  · obtain ⟨v, n, rfl, _⟩ := h; rfl
  · obtain ⟨v, n, rfl, Tv, q⟩ := h
    exact ⟨_, (pss_one (ps_ret (pe_call G_is_whole (hr.mono (by decide)) rfl D_is_whole.m D_is_whole.F.kp D_is_whole.b .nil pass0 (pa_cons (pv 0) pa_nil)))), _, rfl, v, n, rfl, Tv, q⟩
end
end My
set_option Elab.async false
set_option maxRecDepth 100000
set_option maxHeartbeats 4000000
namespace My
open PySem L2 TL
section
variable {P : Program} {w : World} {K : PySem.W.Frag} {mg : Str → Option Value} {base : Heap}
theorem isi_str {H : Hp} {v : V} {n : String} (h : Thing H v n) : ∃ b, PySem.W.kitOne K (.type n) (.type "str") = some b ∧ ((∃ z, v = .str z ∧ z.length ≤ sizeLine ∧ b = true) ∨ (nameV v = false ∧ b = false)) := by
  cases h with
  | str z h => exact ⟨true, kit_ty (by decide +kernel), .inl ⟨z, rfl, h, rfl⟩⟩
  | non => exact ⟨false, kit_ty (by decide +kernel), .inr ⟨rfl, rfl⟩⟩
  | bl b => exact ⟨false, kit_ty (by decide +kernel), .inr ⟨rfl, rfl⟩⟩
  | int i => exact ⟨false, kit_ty (by decide +kernel), .inr ⟨rfl, rfl⟩⟩
  | lst h => exact ⟨false, kit_ty (by decide +kernel), .inr ⟨rfl, rfl⟩⟩
  | tup h => exact ⟨false, kit_ty (by decide +kernel), .inr ⟨rfl, rfl⟩⟩
  | dct h => exact ⟨false, kit_ty (by decide +kernel), .inr ⟨rfl, rfl⟩⟩
theorem ABC_mem (c : Nat) : decide (c ∈ tl ABC) = (decide (97 ≤ c) && decide (c ≤ 122)) := by
  have e : tl ABC = (List.range 26).map (97 + ·) := by decide +kernel
  rw [e]
  by_cases h : 97 ≤ c ∧ c ≤ 122
  · rw [decide_eq_true h.1, decide_eq_true h.2]
    refine decide_eq_true (List.mem_map.mpr ⟨c - 97, List.mem_range.mpr (by omega), by omega⟩)
  · have : (decide (97 ≤ c) && decide (c ≤ 122)) = false := by
      rw [Bool.and_eq_false_iff, decide_eq_false_iff_not, decide_eq_false_iff_not]; omega
    rw [this]
    refine decide_eq_false fun q => h ?_
    obtain ⟨k, hk, rfl⟩ := List.mem_map.mp q
    have := List.mem_range.mp hk
    omega
def okc (c : Nat) : Bool := decide (97 ≤ c) && decide (c ≤ 122)
def sp_letters : Sp := fun vs H Q _ => ∃ v n, vs = [v, .int 8] ∧ Thing H v n ∧ ∀ H', Keep [] H H' → Q (.bl (nameV v)) H'
theorem p_is_letters (T : Txt K mg) : Pr P w K mg base "is_letters" s_is_letters ["thing", "longest"] 1 sp_letters := by
  obtain ⟨f, fd, D⟩ := T.d_is_letters
  obtain ⟨t_LETTERS, g_LETTERS⟩ := T.g_LETTERS
  refine ⟨f, fd, D, D.F.ok sc_is_letters (fun vs H Q E h => ?_) (fun cdv A outer s H vs Q E hr h => ?_)⟩
  · obtain ⟨v, n, rfl, _⟩ := h; rfl
  · obtain ⟨v, n, rfl, Tv, q⟩ := h
    refine ⟨_, (pss_cons (ps_if (PW.pt (pw_or (pt_not (pt_val (pe_callB call_isi (by rfl) T.z_isinstance (by decide +kernel) (pa_cons (pv 0) (pa_cons (pe_bltn (by rfl) T.z_str (by decide +kernel) (v := .ty "str") rfl) pa_nil))))) (pw_or1 (pt_not (pt_chain op_le op_le pe_int (pe_callB call_len (by rfl) T.z_len (by decide +kernel) (pa_cons (pv 0) pa_nil)) (pv 1)))))) (pss_one (ps_ret pe_bl)) pss_nil)
      (pss_one (ps_ret (pe_callB (cr_all rfl) (by rfl) T.z_all (by decide +kernel) (pa_cons (pe_lc (own := [("sign", 2)]) (g := gName 2) (tt := tYes) rfl sc_is_letters.nd (pi_str (pv 0)) (blkOk_by (own := [("sign", 2)]) (N := N_is_letters) (sc := defScope s_is_letters) (by decide +kernel)) (fun _ _ _ _ _ => (pg_name (i := 2) sc_is_letters.nd rfl (Or.inl rfl))) (fun _ _ _ _ _ => pts_nil) (fun _ _ _ _ _ => (pe_cmpR op_in_sign (pv 2) (pe_glob (v := .str "abcdefghijklmnopqrstuvwxyz") rfl g_LETTERS ⟨_, rfl⟩) (by rfl)))) pa_nil))))), ?_⟩
    obtain ⟨b, eb, hb⟩ := isi_str (K := K) Tv
    refine ⟨_, rfl, v, _, _, _, b, rfl, .ty _, Tv.ty, eb, b, rfl, ?_⟩
    rcases hb with ⟨z, rfl, hz, rfl⟩ | ⟨e, rfl⟩
    · refine iteF ?_
      refine ⟨_, rfl, _, _, rfl, ⟨hz, rfl⟩, ?_⟩
      have ez := len_tl z
      refine ⟨_, _, rfl, rfl, _, rfl, ite2 (fun h1 => ⟨_, rfl, _, _, rfl, rfl, _, rfl, ?_⟩) (fun h1 => ⟨_, rfl, ?_⟩)⟩
      · have h1' : 1 ≤ (tl z).length := by have := of_decide_eq_true h1; omega
        by_cases h2 : (tl z).length ≤ 8
        · rw [decide_eq_true (show (z.length : Int) ≤ 8 by omega)]
          refine iteF ?_
          refine ⟨_, rfl, _, rfl, fun L hL => lc_it walk_str (fun i H4 => Keep [] H H4 ∧ H4 L = some (.lst (((tl z).take i).map fun c => V.bl (okc c)))) ⟨Keep.upd_new hL, upd_same⟩ (fun _ _ _ _ => trivial) ?_ ?_⟩
          · rintro j x H4 H5 hj ⟨K4, h4⟩ ⟨rfl, ch, hch, rfl⟩
            have e : (tl z)[j]? = some ch := by rw [← hch]; exact (Array.getElem?_toList).symm ▸ rfl
            refine ⟨rfl, tYes_go (yes ⟨_, rfl, ch, _, rfl, rfl, _, h4, ?_, K4.trans_new hL, ?_⟩)⟩
            · rw [List.length_map, List.length_take]; have : sizeLine = 16777216 := sizeLine_eq; omega
            · rw [upd_same, take_succ_of e, List.map_append]
              show _ = some (HO.lst (_ ++ [V.bl (okc ch)]))
              rw [show okc ch = decide (ch ∈ tl ABC) from (ABC_mem ch).symm]
          · rintro H4 ⟨K4, h4⟩
            rw [show z.cps.size = (tl z).length from ez, List.take_length] at h4
            have h5 : H4 L = some (.lst (((tl z).map okc).map V.bl)) := by rw [h4, List.map_map]; rfl
            refine ⟨L, _, rfl, SqL.of h5, ?_⟩
            have e : nameV (.str z) = ((tl z).map okc).all id := by
              show nameB z = _
              unfold nameB
              rw [decide_eq_true h1', decide_eq_true h2, List.all_map]; rfl
            rw [e] at q
            exact q _ K4
        · rw [decide_eq_false (show ¬ (z.length : Int) ≤ 8 by omega)]
          refine iteT ?_
          have e : nameV (.str z) = false := by
            show nameB z = _
            unfold nameB
            rw [decide_eq_false h2, Bool.and_false, Bool.false_and]
          rw [e] at q; exact q _ Keep.refl
      · refine iteT ?_
        have e : nameV (.str z) = false := by
          show nameB z = _
          unfold nameB
          rw [decide_eq_false (show ¬ 1 ≤ (tl z).length from fun h => h1 (decide_eq_true (by omega)))]
          rfl
        rw [e] at q; exact q _ Keep.refl
    · refine iteT (iteT ?_)
      rw [e] at q; exact q _ Keep.refl
theorem p_is_name (T : Txt K mg) : Pr P w K mg base "is_name" s_is_name ["thing"] 2 (sp_V nameV) := by
  obtain ⟨f, fd, D⟩ := T.d_is_name
  obtain ⟨f_is_letters, fd_is_letters, D_is_letters, G_is_letters⟩ := p_is_letters (P := P) (w := w) (base := base) T; obtain ⟨t_LONGEST, g_LONGEST⟩ := T.g_LONGEST
  refine ⟨f, fd, D, D.F.ok sc_is_name (fun vs H Q E h => ?_) (fun cdv A outer s H vs Q E hr h => ?_)⟩
  · obtain ⟨v, n, rfl, _⟩ := h; rfl
  · obtain ⟨v, n, rfl, Tv, q⟩ := h
    refine ⟨_, (pss_one (ps_ret (pe_call G_is_letters (hr.mono (by decide)) rfl D_is_letters.m D_is_letters.F.kp D_is_letters.b .nil pass0 (pa_cons (pv 0) (pa_cons (pe_glob (v := .int 8) rfl g_LONGEST ⟨_, rfl⟩) pa_nil))))), ?_⟩
    exact ⟨_, rfl, _, _, rfl, Tv, fun H' K' => q _ K'⟩
end
end My
set_option Elab.async false
set_option maxRecDepth 100000
set_option maxHeartbeats 4000000
namespace My
open PySem L2 TL
theorem ifnot {c : Bool} {A B : Prop} (h1 : c = false → A) (h2 : c = true → B) : if (!c) = true then A else B := by
  cases c with
  | true => exact iteF (h2 rfl)
  | false => exact iteT (h1 rfl)
theorem Thing.keep0 {H H' : Hp} {v : V} {n : String} (h : Thing H v n) (k : Keep [] H H') : Thing H' v n := by
  cases h with
  | non => exact .non
  | bl b => exact .bl b
  | int i => exact .int i
  | str z h => exact .str z h
  | lst h => exact .lst (k _ _ h (by simp))
  | tup h => exact .tup (k _ _ h (by simp))
  | dct h => exact .dct (k _ _ h (by simp))
def ltV : V → V → Bool
  | .int i, .int j => decide (i < j)
  | _, _ => false
def isOrdL : List V → Bool
  | [w, p, q, a, r, b, u] => decide (w = .str "order") && (nameV p && (nameV q && (!decide (p = q) && (rngV 1 1000000000 a && (rngV 0 9 r && (geV 0 b && (geV 0 u && ltV b u)))))))
  | _ => false
theorem isOrdL_len {xs : List V} (h : xs.length ≠ 7) : isOrdL xs = false := by
  unfold isOrdL
  split
  · exact absurd rfl h
  · rfl
theorem seven {α : Type} {xs : List α} (h : xs.length = 7) : ∃ w p q a r b u, xs = [w, p, q, a, r, b, u] := by
  match xs, h with
  | [w, p, q, a, r, b, u], _ => exact ⟨w, p, q, a, r, b, u, rfl⟩
theorem geV_eq {lo : Int} {v : V} (h : geV lo v = true) : ∃ i, v = .int i := by
  cases v <;> first | exact ⟨_, rfl⟩ | cases h
theorem nameV_eq {v : V} (h : nameV v = true) : ∃ z, v = .str z := by
  cases v <;> first | exact ⟨_, rfl⟩ | cases h
section
variable {P : Program} {w : World} {K : PySem.W.Frag} {mg : Str → Option Value} {base : Heap}
theorem isi_tup {H : Hp} {v : V} {n : String} (h : Thing H v n) (hn : n ≠ "tuple") : PySem.W.kitOne K (.type n) (.type "tuple") = some false := by
  cases h <;> first | exact kit_ty (by decide +kernel) | exact absurd rfl hn
def sp_order : Sp := fun vs H Q _ => ∃ v, vs = [v] ∧ ((∃ n, Thing H v n ∧ n ≠ "tuple" ∧ ∀ H', Keep [] H H' → Q (.bl false) H') ∨
  (∃ a xs, v = .ref a ∧ H a = some (.tup xs) ∧ (∀ x ∈ xs, ∃ n, Thing H x n) ∧ ∀ H', Keep [] H H' → Q (.bl (isOrdL xs)) H'))
theorem p_is_order (T : Txt K mg) : Pr P w K mg base "is_order" s_is_order ["thing"] 4 sp_order := by
  obtain ⟨f, fd, D⟩ := T.d_is_order
  obtain ⟨f_is_time, fd_is_time, D_is_time, G_is_time⟩ := p_is_time (P := P) (w := w) (base := base) T; obtain ⟨f_is_amount, fd_is_amount, D_is_amount, G_is_amount⟩ := p_is_amount (P := P) (w := w) (base := base) T; obtain ⟨f_is_number, fd_is_number, D_is_number, G_is_number⟩ := p_is_number (P := P) (w := w) (base := base) T; obtain ⟨f_is_name, fd_is_name, D_is_name, G_is_name⟩ := p_is_name (P := P) (w := w) (base := base) T; obtain ⟨t_TOP_RANK, g_TOP_RANK⟩ := T.g_TOP_RANK
  refine ⟨f, fd, D, D.F.ok sc_is_order (fun vs H Q E h => ?_) (fun cdv A outer s H vs Q E hr h => ?_)⟩
  · obtain ⟨v, rfl, _⟩ := h; rfl
  · obtain ⟨v, rfl, ⟨n, Tv, nt, q⟩ | ⟨a, xs, rfl, ha, hx, q⟩⟩ := h
    · refine ⟨_, (pss_cons (ps_if (PW.pt (pw_or (pt_not (pt_val (pe_callB call_isi (by rfl) T.z_isinstance (by decide +kernel) (pa_cons (pv 0) (pa_cons (pe_bltn (by rfl) T.z_tuple (by decide +kernel) (v := .ty "tuple") rfl) pa_nil))))) (pw_or1 (pt_cmpR op_ne (pe_callB call_len_seq (by rfl) T.z_len (by decide +kernel) (pa_cons (pv 0) pa_nil)) pe_int (nomark _))))) (pss_one (ps_ret pe_bl)) pss_nil)
      (pss_cons (ps_asg (pv 0) (pg_tup rfl (pgs_cons (pg_name (i := 1) sc_is_order.nd rfl (Or.inl rfl)) (pgs_cons (pg_name (i := 2) sc_is_order.nd rfl (Or.inl rfl)) (pgs_cons (pg_name (i := 3) sc_is_order.nd rfl (Or.inl rfl)) (pgs_cons (pg_name (i := 4) sc_is_order.nd rfl (Or.inl rfl)) (pgs_cons (pg_name (i := 5) sc_is_order.nd rfl (Or.inl rfl)) (pgs_cons (pg_name (i := 6) sc_is_order.nd rfl (Or.inl rfl)) (pgs_cons (pg_name (i := 7) sc_is_order.nd rfl (Or.inl rfl)) pgs_nil)))))))))
      (pss_cons (ps_if (PW.pt (pw_or (pt_cmpR (op_neStr hr.units) (pv 1) pe_str (nomark _)) (pw_or (pt_not (pt_val (pe_call G_is_name (hr.mono (by decide)) rfl D_is_name.m D_is_name.F.kp D_is_name.b .nil pass0 (pa_cons (pv 2) pa_nil)))) (pw_or (pt_not (pt_val (pe_call G_is_name (hr.mono (by decide)) rfl D_is_name.m D_is_name.F.kp D_is_name.b .nil pass0 (pa_cons (pv 3) pa_nil)))) (pw_or1 (pt_cmpR op_eq (pv 2) (pv 3) (nomark _))))))) (pss_one (ps_ret pe_bl)) pss_nil)
      (pss_cons (ps_if (PW.pt (pw_or (pt_not (pt_val (pe_call G_is_amount (hr.mono (by decide)) rfl D_is_amount.m D_is_amount.F.kp D_is_amount.b .nil pass0 (pa_cons (pv 4) pa_nil)))) (pw_or (pt_not (pt_val (pe_call G_is_number (hr.mono (by decide)) rfl D_is_number.m D_is_number.F.kp D_is_number.b .nil pass0 (pa_cons (pv 5) pa_nil)))) (pw_or1 (pt_not (pt_chain op_le op_le pe_int (pv 5) (pe_glob (v := .int 9) rfl g_TOP_RANK ⟨_, rfl⟩))))))) (pss_one (ps_ret pe_bl)) pss_nil)
      (pss_one (ps_ret (pe_and (pe_call G_is_time (hr.mono (by decide)) rfl D_is_time.m D_is_time.F.kp D_is_time.b .nil pass0 (pa_cons (pv 6) pa_nil)) (pe_and (pe_call G_is_time (hr.mono (by decide)) rfl D_is_time.m D_is_time.F.kp D_is_time.b .nil pass0 (pa_cons (pv 7) pa_nil)) (pe_one (pe_cmpR op_lt (pv 6) (pv 7) (nomark _))))))))))), ?_⟩
      refine ⟨_, rfl, v, _, _, _, false, rfl, .ty _, Tv.ty, isi_tup Tv nt, _, rfl, iteT (iteT ?_)⟩
      exact q _ Keep.refl
    · refine ⟨_, (pss_cons (ps_if (PW.pt (pw_or (pt_not (pt_val (pe_callB call_isi (by rfl) T.z_isinstance (by decide +kernel) (pa_cons (pv 0) (pa_cons (pe_bltn (by rfl) T.z_tuple (by decide +kernel) (v := .ty "tuple") rfl) pa_nil))))) (pw_or1 (pt_cmpR op_ne (pe_callB call_len_seq (by rfl) T.z_len (by decide +kernel) (pa_cons (pv 0) pa_nil)) pe_int (nomark _))))) (pss_one (ps_ret pe_bl)) pss_nil)
      (pss_cons (ps_asg (pv 0) (pg_tup rfl (pgs_cons (pg_name (i := 1) sc_is_order.nd rfl (Or.inl rfl)) (pgs_cons (pg_name (i := 2) sc_is_order.nd rfl (Or.inl rfl)) (pgs_cons (pg_name (i := 3) sc_is_order.nd rfl (Or.inl rfl)) (pgs_cons (pg_name (i := 4) sc_is_order.nd rfl (Or.inl rfl)) (pgs_cons (pg_name (i := 5) sc_is_order.nd rfl (Or.inl rfl)) (pgs_cons (pg_name (i := 6) sc_is_order.nd rfl (Or.inl rfl)) (pgs_cons (pg_name (i := 7) sc_is_order.nd rfl (Or.inl rfl)) pgs_nil)))))))))
      (pss_cons (ps_if (PW.pt (pw_or (pt_cmpR (op_neStr hr.units) (pv 1) pe_str (nomark _)) (pw_or (pt_not (pt_val (pe_call G_is_name (hr.mono (by decide)) rfl D_is_name.m D_is_name.F.kp D_is_name.b .nil pass0 (pa_cons (pv 2) pa_nil)))) (pw_or (pt_not (pt_val (pe_call G_is_name (hr.mono (by decide)) rfl D_is_name.m D_is_name.F.kp D_is_name.b .nil pass0 (pa_cons (pv 3) pa_nil)))) (pw_or1 (pt_cmpR op_eq (pv 2) (pv 3) (nomark _))))))) (pss_one (ps_ret pe_bl)) pss_nil)
      (pss_cons (ps_if (PW.pt (pw_or (pt_not (pt_val (pe_call G_is_amount (hr.mono (by decide)) rfl D_is_amount.m D_is_amount.F.kp D_is_amount.b .nil pass0 (pa_cons (pv 4) pa_nil)))) (pw_or (pt_not (pt_val (pe_call G_is_number (hr.mono (by decide)) rfl D_is_number.m D_is_number.F.kp D_is_number.b .nil pass0 (pa_cons (pv 5) pa_nil)))) (pw_or1 (pt_not (pt_chain op_le op_le pe_int (pv 5) (pe_glob (v := .int 9) rfl g_TOP_RANK ⟨_, rfl⟩))))))) (pss_one (ps_ret pe_bl)) pss_nil)
      (pss_one (ps_ret (pe_and (pe_call G_is_time (hr.mono (by decide)) rfl D_is_time.m D_is_time.F.kp D_is_time.b .nil pass0 (pa_cons (pv 6) pa_nil)) (pe_and (pe_call G_is_time (hr.mono (by decide)) rfl D_is_time.m D_is_time.F.kp D_is_time.b .nil pass0 (pa_cons (pv 7) pa_nil)) (pe_one (pe_cmpR op_lt (pv 6) (pv 7) (nomark _))))))))))), ?_⟩
      have Tv : Thing H (.ref a) "tuple" := .tup ha
      refine ⟨_, rfl, _, _, _, _, true, rfl, .ty _, Tv.ty, kit_ty (by decide +kernel), _, rfl, iteF ?_⟩
      refine ⟨_, rfl, a, xs, rfl, .inr (SqT.of ha), rfl, _, rfl, ite2 (fun e => ?_) (fun e => ?_)⟩
      · have : xs.length ≠ 7 := fun h => by rw [h] at e; exact absurd e (by decide)
        rw [isOrdL_len this] at q
        exact q _ Keep.refl
      · have h7 : xs.length = 7 := by
          by_cases h : xs.length = 7
          · exact h
          · refine absurd ?_ e
            have : ¬ (V.int (xs.length : Int) = V.int 7) := fun z => h (by injection z with z; omega)
            rw [decide_eq_false this]; rfl
        obtain ⟨xw, xp, xq, xa, xr, xb, xu, rfl⟩ := seven h7
        obtain ⟨nw, Tw⟩ := hx xw (by simp)
        obtain ⟨np, Tp⟩ := hx xp (by simp)
        obtain ⟨nq, Tq⟩ := hx xq (by simp)
        obtain ⟨na, Ta⟩ := hx xa (by simp)
        obtain ⟨nr, Tr⟩ := hx xr (by simp)
        obtain ⟨nb, Tb⟩ := hx xb (by simp)
        obtain ⟨nu, Tu⟩ := hx xu (by simp)
        have e0 : isOrdL [xw, xp, xq, xa, xr, xb, xu] = (decide (xw = .str "order") && (nameV xp && (nameV xq && (!decide (xp = xq) && (rngV 1 1000000000 xa && (rngV 0 9 xr && (geV 0 xb && (geV 0 xu && ltV xb xu)))))))) := rfl
        rw [e0] at q
        refine ⟨_, rfl, a, _, rfl, SqT.of ha, rfl, _, _, rfl, _, _, rfl, _, _, rfl, _, _, rfl, _, _, rfl, _, _, rfl, _, _, rfl, rfl, ?_⟩
        refine ⟨_, rfl, nw, _, Tw, rfl, _, rfl, ite2 (fun e => iteT ?_) (fun e1 => ?_)⟩
        · have : decide (xw = V.str (Str.ofString "order")) = false := by simpa using e
          rw [this] at q
          exact q _ Keep.refl
        have e1 : decide (xw = V.str (Str.ofString "order")) = true := by simpa using e1
        rw [e1, Bool.true_and] at q
        refine ⟨_, rfl, xp, np, rfl, Tp, fun H1 K1 => ⟨_, rfl, ifnot (fun e2 => iteT ?_) (fun e2 => ?_)⟩⟩
        · rw [e2] at q; exact q _ K1
        rw [e2, Bool.true_and] at q
        refine ⟨_, rfl, xq, nq, rfl, Tq.keep0 K1, fun H2 K2 => ⟨_, rfl, ifnot (fun e3 => iteT ?_) (fun e3 => ?_)⟩⟩
        · rw [e3] at q; exact q _ (K1.trans K2)
        rw [e3, Bool.true_and] at q
        obtain ⟨zp, rfl⟩ := nameV_eq e2
        obtain ⟨zq, rfl⟩ := nameV_eq e3
        refine ⟨_, rfl, _, rfl, rfl, _, rfl, ite2 (fun e4 => ?_) (fun e4 => ?_)⟩
        · rw [e4] at q; exact q _ (K1.trans K2)
        have e4' : decide (V.str zp = V.str zq) = false := Bool.eq_false_iff.mpr e4
        rw [e4'] at q
        refine ⟨_, rfl, xa, na, rfl, (Ta.keep0 K1).keep0 K2, fun H3 K3 => ⟨_, rfl, ifnot (fun e5 => iteT ?_) (fun e5 => ?_)⟩⟩
        · rw [e5] at q; exact q _ ((K1.trans K2).trans K3)
        rw [e5] at q
        refine ⟨_, rfl, xr, nr, rfl, ((Tr.keep0 K1).keep0 K2).keep0 K3, fun H4 K4 => ⟨_, rfl, ifnot (fun e6 => iteT ?_) (fun e6 => ?_)⟩⟩
        have K14 : Keep [] H H4 := ((K1.trans K2).trans K3).trans K4
        · have : rngV 0 9 xr = false := by cases xr <;> first | rfl | cases e6
          rw [this] at q; exact q _ K14
        have K14 : Keep [] H H4 := ((K1.trans K2).trans K3).trans K4
        obtain ⟨ir, rfl⟩ := intV_eq e6
        refine ⟨_, rfl, _, _, rfl, rfl, _, rfl, ite2 (fun e7 => ⟨_, _, rfl, rfl, _, rfl, ifnot (fun e8 => ?_) (fun e8 => ?_)⟩) (fun e7 => ⟨_, rfl, iteT ?_⟩)⟩
        · have : rngV 0 9 (.int ir) = false := by show (_ && decide (ir ≤ 9)) = false; rw [e8, Bool.and_false]
          rw [this] at q; exact q _ K14
        rotate_left
        · have : rngV 0 9 (.int ir) = false := by show (decide (0 ≤ ir) && _) = false; rw [Bool.eq_false_iff.mpr e7, Bool.false_and]
          rw [this] at q; exact q _ K14
        have : rngV 0 9 (.int ir) = true := by show (decide (0 ≤ ir) && decide (ir ≤ 9)) = true; rw [e7, e8]; rfl
        rw [this] at q
        refine ⟨_, rfl, xb, nb, rfl, Tb.keep0 K14, fun H5 K5 => ⟨_, rfl, ite2 (fun e9 => ?_) (fun e9 => ?_)⟩⟩
        · rw [e9] at q
          refine ⟨_, rfl, xu, nu, rfl, (Tu.keep0 K14).keep0 K5, fun H6 K6 => ⟨_, rfl, ite2 (fun e10 => ?_) (fun e10 => ?_)⟩⟩
          · rw [e10] at q
            obtain ⟨ib, rfl⟩ := geV_eq e9
            obtain ⟨iu, rfl⟩ := geV_eq e10
            exact ⟨_, rfl, _, rfl, _, _, rfl, rfl, q _ ((K14.trans K5).trans K6)⟩
          · rw [Bool.eq_false_iff.mpr e10] at q
            exact q _ ((K14.trans K5).trans K6)
        · rw [Bool.eq_false_iff.mpr e9] at q
          exact q _ (K14.trans K5)
end
end My
set_option Elab.async false
set_option maxRecDepth 100000
set_option maxHeartbeats 4000000
namespace My
open PySem L2 TL
section
variable {P : Program} {w : World} {K : PySem.W.Frag} {mg : Str → Option Value} {base : Heap}
/-- a list == [] -/
def rEqNil : R2 := fun x y H Q => ∃ a b xs, x = .ref a ∧ y = .ref b ∧ H a = some (.lst xs) ∧ H b = some (.lst []) ∧ Q (.bl xs.isEmpty) H
theorem op_eqNil {X : Cx} (hu : X.A.units + 64 < cLine) : OpR X (compareOp .Eq) rEqNil := by
  intro pins s σ H x y v u Q I rx ry h
  obtain ⟨a, b, xs, rfl, rfl, ha, hb, q⟩ := h
  cases (show v = Value.ref a from rx)
  cases (show u = Value.ref b from ry)
  obtain ⟨_, its, k, rv, h1⟩ := (show ObjOk X.prog X.w H s.heap a (.lst xs) from I.hok a _ ha)
  obtain ⟨_, its2, k2, rv2, h2⟩ := (show ObjOk X.prog X.w H s.heap b (.lst []) from I.hok b _ hb)
  cases rv2
  cases xs with
  | nil =>
    cases rv
    exact SeqAt.RcAt.lists (e := fun _ => true) ⟨_, h1, rfl, _, rfl⟩ ⟨_, h2, rfl, _, rfl⟩ rfl (by omega) (fun j h => absurd h (by simp)) _ _ _ _ ⟨.bl true, H, I, rfl, q⟩
  | cons z r =>
    cases rv with
    | cons r1 r2 =>
      exact SeqAt.RcAt.lists_lengths ⟨_, h1, rfl, _, rfl⟩ ⟨_, h2, rfl, _, rfl⟩ (by simp) (by omega) _ _ _ _ ⟨.bl false, H, I, rfl, q⟩
theorem p__law_is_name (T : Txt K mg) : Pr P w K mg base "_law_is_name" s__law_is_name ["item"] 1 (sp_V nameV) := by
  obtain ⟨f, fd, D⟩ := T.d__law_is_name
  refine ⟨f, fd, D, D.F.ok sc__law_is_name (fun vs H Q E h => ?_) (fun cdv A outer s H vs Q E hr h => ?_)⟩
  · obtain ⟨v, n, rfl, _⟩ := h; rfl
  · obtain ⟨v, n, rfl, Tv, q⟩ := h
    refine ⟨_, (pss_cons (ps_set (i := 1) sc__law_is_name.nd rfl (Or.inr rfl) pe_str)
      (pss_cons (ps_if (PW.pt (pw_or (pt_not (pt_val (pe_callB call_isi (by rfl) T.z_isinstance (by decide +kernel) (pa_cons (pv 0) (pa_cons (pe_bltn (by rfl) T.z_str (by decide +kernel) (v := .ty "str") rfl) pa_nil))))) (pw_or1 (pt_not (pt_chain op_le op_le pe_int (pe_callB call_len (by rfl) T.z_len (by decide +kernel) (pa_cons (pv 0) pa_nil)) pe_int))))) (pss_one (ps_ret pe_bl)) pss_nil)
      (pss_one (ps_ret (pe_cmpR (op_eqNil hr.units) (pe_lc (own := [("sign", 2)]) (g := gName 2) rfl sc__law_is_name.nd (pi_str (pv 0)) (blkOk_by (own := [("sign", 2)]) (N := N__law_is_name) (sc := defScope s__law_is_name) (by decide +kernel)) (fun _ _ _ _ _ => (pg_name (i := 2) sc__law_is_name.nd rfl (Or.inl rfl))) (fun _ _ _ _ _ => pts_one (pt_cmpR op_notIn_sign (pv 2) (pv 1) (by rfl))) (fun _ _ _ _ _ => (pv 2))) (pe_lst pa_nil) (nomark _)))))), ?_⟩
    obtain ⟨b, eb, hb⟩ := isi_str (K := K) Tv
    refine ⟨_, rfl, v, _, _, _, b, rfl, .ty _, Tv.ty, eb, b, rfl, ?_⟩
    rcases hb with ⟨z, rfl, hz, rfl⟩ | ⟨e, rfl⟩
    · refine iteF ?_
      have ez := len_tl z
      refine ⟨_, rfl, _, _, rfl, ⟨hz, rfl⟩, ?_⟩
      refine ⟨_, _, rfl, rfl, _, rfl, ite2 (fun h1 => ⟨_, _, rfl, rfl, _, rfl, ?_⟩) (fun h1 => ⟨_, rfl, ?_⟩)⟩
      · have h1' : 1 ≤ (tl z).length := by have := of_decide_eq_true h1; omega
        by_cases h2 : (tl z).length ≤ 8
        · rw [decide_eq_true (show (z.length : Int) ≤ 8 by omega)]
          refine iteF ?_
          refine ⟨_, rfl, _, rfl, fun L hL => lc_it walk_str (fun i H4 => Keep [] H H4 ∧ H4 L = some (.lst (((((tl z).take i).filter fun c => !okc c).map fun c => (⟨#[c]⟩ : Str)).map V.str))) ⟨Keep.upd_new hL, upd_same⟩ (fun _ _ _ _ => trivial) ?_ ?_⟩
          · rintro j x H4 H5 hj ⟨K4, h4⟩ ⟨rfl, ch, hch, rfl⟩
            have e : (tl z)[j]? = some ch := by rw [← hch]; exact (Array.getElem?_toList).symm ▸ rfl
            refine ⟨rfl, _, rfl, _, rfl, ch, _, rfl, rfl, _, rfl, ?_⟩
            rw [take_succ_of e, List.filter_append, show decide (ch ∈ (Str.ofString "abcdefghijklmnopqrstuvwxyz").cps.toList) = okc ch from ABC_mem ch]
            cases eo : okc ch with
            | true =>
              refine iteF ⟨K4, ?_⟩
              rw [h4]; simp [eo]
            | false =>
              refine iteT ⟨_, rfl, _, h4, ?_, K4.trans_new hL, ?_⟩
              · rw [List.length_map, List.length_map]
                refine Nat.lt_of_le_of_lt (List.length_filter_le _ _) ?_
                rw [List.length_take]; have : sizeLine = 16777216 := sizeLine_eq; omega
              · rw [upd_same]; simp [eo]
          · rintro H4 ⟨K4, h4⟩
            rw [show z.cps.size = (tl z).length from ez, List.take_length] at h4
            refine ⟨Nat.zero_le _, fun p hp => ?_⟩
            refine ⟨L, p, _, rfl, rfl, (by rw [upd_ne (ne_of_none h4 hp)]; exact h4), upd_same, ?_⟩
            rw [List.isEmpty_map]
            have e : nameV (.str z) = (((tl z).filter fun c => !okc c).map fun c => (⟨#[c]⟩ : Str)).isEmpty := by
              show nameB z = _
              unfold nameB
              rw [decide_eq_true h1', decide_eq_true h2, List.isEmpty_map, Bool.and_self, Bool.true_and]
              rw [Bool.eq_iff_iff, List.all_eq_true, List.isEmpty_iff, List.filter_eq_nil_iff]
              refine forall_congr' fun c => forall_congr' fun _ => ?_
              show okc c = true ↔ _
              simp
            rw [e] at q
            exact q _ (K4.trans (Keep.upd_new hp))
        · rw [decide_eq_false (show ¬ (z.length : Int) ≤ 8 by omega)]
          refine iteT ?_
          have e : nameV (.str z) = false := by
            show nameB z = _
            unfold nameB
            rw [decide_eq_false h2, Bool.and_false, Bool.false_and]
          rw [e] at q; exact q _ Keep.refl
      · refine iteT ?_
        have e : nameV (.str z) = false := by
          show nameB z = _
          unfold nameB
          rw [decide_eq_false (show ¬ 1 ≤ (tl z).length from fun h => h1 (decide_eq_true (by omega)))]
          rfl
        rw [e] at q; exact q _ Keep.refl
    · refine iteT (iteT ?_)
      rw [e] at q; exact q _ Keep.refl

def sp_num : Sp := fun vs H Q _ => ∃ v n lo h, vs = [v, .int lo, h] ∧ Thing H v n ∧ ((h = .non ∧ Q (.bl (geV lo v)) H) ∨ ∃ hi, h = .int hi ∧ Q (.bl (rngV lo hi v)) H)
theorem p__law_is_number (T : Txt K mg) : Pr P w K mg base "_law_is_number" s__law_is_number ["item", "low", "high"] 1 sp_num := by
  obtain ⟨f, fd, D⟩ := T.d__law_is_number
  refine ⟨f, fd, D, D.F.ok sc__law_is_number (fun vs H Q E h => ?_) (fun cdv A outer s H vs Q E hr h => ?_)⟩
  · obtain ⟨v, n, lo, h, rfl, _⟩ := h; rfl
  · obtain ⟨v, n, lo, h, rfl, Tv, q⟩ := h
    refine ⟨_, (pss_cons (ps_if (PW.pt (pw_or (pt_not (pt_val (pe_callB call_isi (by rfl) T.z_isinstance (by decide +kernel) (pa_cons (pv 0) (pa_cons (pe_bltn (by rfl) T.z_int (by decide +kernel) (v := .ty "int") rfl) pa_nil))))) (pw_or (pt_val (pe_callB call_isi (by rfl) T.z_isinstance (by decide +kernel) (pa_cons (pv 0) (pa_cons (pe_bltn (by rfl) T.z_bool (by decide +kernel) (v := .ty "bool") rfl) pa_nil)))) (pw_or1 (pt_cmpR op_lt (pv 0) (pv 1) (nomark _)))))) (pss_one (ps_ret pe_bl)) pss_nil)
      (pss_one (ps_ret (pe_or (pe_cmpR op_isN (pv 2) pe_non (nomark _)) (pe_one (pe_cmpR op_le (pv 0) (pv 2) (nomark _))))))), ?_⟩
    obtain ⟨b, eb, hb⟩ := isi_int (K := K) Tv
    have bad : geV lo v = false → (∀ hi, rngV lo hi v = false) → Q (.bl false) H := fun h1 h2 => by
      rcases q with ⟨_, q⟩ | ⟨hi, _, q⟩
      · rw [h1] at q; exact q
      · rw [h2] at q; exact q
    refine ⟨_, rfl, v, _, _, _, b, rfl, .ty _, Tv.ty, eb, b, rfl, ?_⟩
    rcases hb with ⟨i, rfl, rfl⟩ | ⟨c, rfl, rfl⟩ | ⟨e, rfl⟩
    · refine iteF ⟨_, rfl, _, _, _, _, false, rfl, .ty _, .base (.int i), kit_ty (by decide +kernel), _, rfl, iteF ?_⟩
      refine ⟨_, rfl, _, rfl, _, _, rfl, rfl, _, rfl, ite2 (fun e => ?_) (fun e => ?_)⟩
      · have h0 : ¬ lo ≤ i := by have := of_decide_eq_true e; omega
        exact bad (decide_eq_false h0) fun hi => by show (_ && _) = _; rw [decide_eq_false h0]; rfl
      · have h0 : lo ≤ i := by have := mt (fun z => decide_eq_true z) e; omega
        rcases q with ⟨rfl, q⟩ | ⟨hi, rfl, q⟩
        · refine ⟨_, rfl, rfl, _, rfl, iteT ?_⟩
          rw [show geV lo (.int i) = true from decide_eq_true h0] at q
          exact q
        · refine ⟨_, rfl, rfl, _, rfl, iteF ⟨_, rfl, _, rfl, _, _, rfl, rfl, ?_⟩⟩
          rw [show rngV lo hi (.int i) = decide (i ≤ hi) by show (_ && _) = _; rw [decide_eq_true h0]; rfl] at q
          exact q
    · refine iteF ⟨_, rfl, _, _, _, _, true, rfl, .ty _, .base (.bl c), kit_ty (by decide +kernel), _, rfl, iteT ?_⟩
      exact bad rfl fun _ => rfl
    · refine iteT ?_
      exact bad (by cases v <;> first | rfl | cases e) fun hi => by cases v <;> first | rfl | cases e
end
end My
set_option Elab.async false
set_option maxRecDepth 100000
set_option maxHeartbeats 4000000
namespace My
open PySem L2 TL
section
variable {P : Program} {w : World} {K : PySem.W.Frag} {mg : Str → Option Value} {base : Heap}
theorem p__law_due (T : Txt K mg) : Pr P w K mg base "_law_due" s__law_due ["item"] 2 sp_order := by
  obtain ⟨f, fd, D⟩ := T.d__law_due
  obtain ⟨f__law_is_number, fd__law_is_number, D__law_is_number, G__law_is_number⟩ := p__law_is_number (P := P) (w := w) (base := base) T; obtain ⟨f__law_is_name, fd__law_is_name, D__law_is_name, G__law_is_name⟩ := p__law_is_name (P := P) (w := w) (base := base) T
  refine ⟨f, fd, D, D.F.ok sc__law_due (fun vs H Q E h => ?_) (fun cdv A outer s H vs Q E hr h => ?_)⟩
  · obtain ⟨v, rfl, _⟩ := h; rfl
  · obtain ⟨v, rfl, ⟨n, Tv, nt, q⟩ | ⟨a, xs, rfl, ha, hx, q⟩⟩ := h
    · refine ⟨_, (pss_cons (ps_if (PW.pt (pw_or (pt_not (pt_val (pe_callB call_isi (by rfl) T.z_isinstance (by decide +kernel) (pa_cons (pv 0) (pa_cons (pe_bltn (by rfl) T.z_tuple (by decide +kernel) (v := .ty "tuple") rfl) pa_nil))))) (pw_or (pt_cmpR op_ne (pe_callB call_len_seq (by rfl) T.z_len (by decide +kernel) (pa_cons (pv 0) pa_nil)) pe_int (nomark _)) (pw_or (pt_not (pt_val (pe_callB call_isi (by rfl) T.z_isinstance (by decide +kernel) (pa_cons (pe_ix ix_tup (pv 0) pe_int (fun _ _ => rfl)) (pa_cons (pe_bltn (by rfl) T.z_str (by decide +kernel) (v := .ty "str") rfl) pa_nil))))) (pw_or1 (pt_cmpR (op_neStr hr.units) (pe_ix ix_tup (pv 0) pe_int (fun _ _ => rfl)) pe_str (nomark _))))))) (pss_one (ps_ret pe_bl)) pss_nil)
      (pss_cons (ps_asg (pv 0) (pg_tup rfl (pgs_cons (pg_name (i := 1) sc__law_due.nd rfl (Or.inl rfl)) (pgs_cons (pg_name (i := 2) sc__law_due.nd rfl (Or.inl rfl)) (pgs_cons (pg_name (i := 3) sc__law_due.nd rfl (Or.inl rfl)) (pgs_cons (pg_name (i := 4) sc__law_due.nd rfl (Or.inl rfl)) (pgs_cons (pg_name (i := 5) sc__law_due.nd rfl (Or.inl rfl)) (pgs_cons (pg_name (i := 6) sc__law_due.nd rfl (Or.inl rfl)) (pgs_cons (pg_name (i := 7) sc__law_due.nd rfl (Or.inl rfl)) pgs_nil)))))))))
      (pss_cons (ps_if (PW.pt (pw_or (pt_not (pt_val (pe_call G__law_is_name (hr.mono (by decide)) rfl D__law_is_name.m D__law_is_name.F.kp D__law_is_name.b .nil pass0 (pa_cons (pv 2) pa_nil)))) (pw_or (pt_not (pt_val (pe_call G__law_is_name (hr.mono (by decide)) rfl D__law_is_name.m D__law_is_name.F.kp D__law_is_name.b .nil pass0 (pa_cons (pv 3) pa_nil)))) (pw_or1 (pt_cmpR op_eq (pv 2) (pv 3) (nomark _)))))) (pss_one (ps_ret pe_bl)) pss_nil)
      (pss_cons (ps_if (PW.pt (pw_or (pt_not (pt_val (pe_call G__law_is_number (hr.mono (by decide)) rfl D__law_is_number.m D__law_is_number.F.kp D__law_is_number.b .nil pass0 (pa_cons (pv 4) (pa_cons pe_int (pa_cons (pe_op op_pow pe_int pe_int) pa_nil)))))) (pw_or1 (pt_not (pt_val (pe_call G__law_is_number (hr.mono (by decide)) rfl D__law_is_number.m D__law_is_number.F.kp D__law_is_number.b .nil pass0 (pa_cons (pv 5) (pa_cons pe_int (pa_cons pe_int pa_nil))))))))) (pss_one (ps_ret pe_bl)) pss_nil)
      (pss_one (ps_ret (pe_and (pe_call G__law_is_number (hr.mono (by decide)) rfl D__law_is_number.m D__law_is_number.F.kp D__law_is_number.b .nil pass0 (pa_cons (pv 6) (pa_cons pe_int (pa_cons pe_non pa_nil)))) (pe_and (pe_call G__law_is_number (hr.mono (by decide)) rfl D__law_is_number.m D__law_is_number.F.kp D__law_is_number.b .nil pass0 (pa_cons (pv 7) (pa_cons pe_int (pa_cons pe_non pa_nil)))) (pe_one (pe_cmpR op_lt (pv 6) (pv 7) (nomark _))))))))))), ?_⟩
      refine ⟨_, rfl, v, _, _, _, false, rfl, .ty _, Tv.ty, isi_tup Tv nt, _, rfl, iteT (iteT ?_)⟩
      exact q _ Keep.refl
    · refine ⟨_, (pss_cons (ps_if (PW.pt (pw_or (pt_not (pt_val (pe_callB call_isi (by rfl) T.z_isinstance (by decide +kernel) (pa_cons (pv 0) (pa_cons (pe_bltn (by rfl) T.z_tuple (by decide +kernel) (v := .ty "tuple") rfl) pa_nil))))) (pw_or (pt_cmpR op_ne (pe_callB call_len_seq (by rfl) T.z_len (by decide +kernel) (pa_cons (pv 0) pa_nil)) pe_int (nomark _)) (pw_or (pt_not (pt_val (pe_callB call_isi (by rfl) T.z_isinstance (by decide +kernel) (pa_cons (pe_ix ix_tup (pv 0) pe_int (fun _ _ => rfl)) (pa_cons (pe_bltn (by rfl) T.z_str (by decide +kernel) (v := .ty "str") rfl) pa_nil))))) (pw_or1 (pt_cmpR (op_neStr hr.units) (pe_ix ix_tup (pv 0) pe_int (fun _ _ => rfl)) pe_str (nomark _))))))) (pss_one (ps_ret pe_bl)) pss_nil)
      (pss_cons (ps_asg (pv 0) (pg_tup rfl (pgs_cons (pg_name (i := 1) sc__law_due.nd rfl (Or.inl rfl)) (pgs_cons (pg_name (i := 2) sc__law_due.nd rfl (Or.inl rfl)) (pgs_cons (pg_name (i := 3) sc__law_due.nd rfl (Or.inl rfl)) (pgs_cons (pg_name (i := 4) sc__law_due.nd rfl (Or.inl rfl)) (pgs_cons (pg_name (i := 5) sc__law_due.nd rfl (Or.inl rfl)) (pgs_cons (pg_name (i := 6) sc__law_due.nd rfl (Or.inl rfl)) (pgs_cons (pg_name (i := 7) sc__law_due.nd rfl (Or.inl rfl)) pgs_nil)))))))))
      (pss_cons (ps_if (PW.pt (pw_or (pt_not (pt_val (pe_call G__law_is_name (hr.mono (by decide)) rfl D__law_is_name.m D__law_is_name.F.kp D__law_is_name.b .nil pass0 (pa_cons (pv 2) pa_nil)))) (pw_or (pt_not (pt_val (pe_call G__law_is_name (hr.mono (by decide)) rfl D__law_is_name.m D__law_is_name.F.kp D__law_is_name.b .nil pass0 (pa_cons (pv 3) pa_nil)))) (pw_or1 (pt_cmpR op_eq (pv 2) (pv 3) (nomark _)))))) (pss_one (ps_ret pe_bl)) pss_nil)
      (pss_cons (ps_if (PW.pt (pw_or (pt_not (pt_val (pe_call G__law_is_number (hr.mono (by decide)) rfl D__law_is_number.m D__law_is_number.F.kp D__law_is_number.b .nil pass0 (pa_cons (pv 4) (pa_cons pe_int (pa_cons (pe_op op_pow pe_int pe_int) pa_nil)))))) (pw_or1 (pt_not (pt_val (pe_call G__law_is_number (hr.mono (by decide)) rfl D__law_is_number.m D__law_is_number.F.kp D__law_is_number.b .nil pass0 (pa_cons (pv 5) (pa_cons pe_int (pa_cons pe_int pa_nil))))))))) (pss_one (ps_ret pe_bl)) pss_nil)
      (pss_one (ps_ret (pe_and (pe_call G__law_is_number (hr.mono (by decide)) rfl D__law_is_number.m D__law_is_number.F.kp D__law_is_number.b .nil pass0 (pa_cons (pv 6) (pa_cons pe_int (pa_cons pe_non pa_nil)))) (pe_and (pe_call G__law_is_number (hr.mono (by decide)) rfl D__law_is_number.m D__law_is_number.F.kp D__law_is_number.b .nil pass0 (pa_cons (pv 7) (pa_cons pe_int (pa_cons pe_non pa_nil)))) (pe_one (pe_cmpR op_lt (pv 6) (pv 7) (nomark _))))))))))), ?_⟩
      have Tv : Thing H (.ref a) "tuple" := .tup ha
      refine ⟨_, rfl, _, _, _, _, true, rfl, .ty _, Tv.ty, kit_ty (by decide +kernel), _, rfl, iteF ?_⟩
      refine ⟨_, rfl, a, xs, rfl, .inr (SqT.of ha), rfl, _, rfl, ite2 (fun e => iteT ?_) (fun e => ?_)⟩
      · have : xs.length ≠ 7 := fun h => by rw [h] at e; exact absurd e (by decide)
        rw [isOrdL_len this] at q
        exact q _ Keep.refl
      have h7 : xs.length = 7 := by
        by_cases h : xs.length = 7
        · exact h
        · refine absurd ?_ e
          have : ¬ (V.int (xs.length : Int) = V.int 7) := fun z => h (by injection z with z; omega)
          rw [decide_eq_false this]; rfl
      obtain ⟨xw, xp, xq, xa, xr, xb, xu, rfl⟩ := seven h7
      obtain ⟨nw, Tw⟩ := hx xw (by simp)
      obtain ⟨np, Tp⟩ := hx xp (by simp)
      obtain ⟨nq, Tq⟩ := hx xq (by simp)
      obtain ⟨na, Ta⟩ := hx xa (by simp)
      obtain ⟨nr, Tr⟩ := hx xr (by simp)
      obtain ⟨nb, Tb⟩ := hx xb (by simp)
      obtain ⟨nu, Tu⟩ := hx xu (by simp)
      have e0 : isOrdL [xw, xp, xq, xa, xr, xb, xu] = (decide (xw = .str "order") && (nameV xp && (nameV xq && (!decide (xp = xq) && (rngV 1 1000000000 xa && (rngV 0 9 xr && (geV 0 xb && (geV 0 xu && ltV xb xu)))))))) := rfl
      rw [e0] at q
      obtain ⟨bw, ew, hw⟩ := isi_str (K := K) Tw
      refine ⟨_, rfl, a, _, _, xw, rfl, rfl, SqT.of ha, atI_nat (j := 0) rfl, _, _, _, _, bw, rfl, .ty _, Tw.ty, ew, _, rfl, ?_⟩
      rcases hw with ⟨zw, rfl, _, rfl⟩ | ⟨hn, rfl⟩
      rotate_left
      · refine iteT (iteT ?_)
        have : decide (xw = V.str (Str.ofString "order")) = false := by
          refine decide_eq_false fun h => ?_
          subst h
          exact absurd hn (by decide +kernel)
        rw [this] at q
        exact q _ Keep.refl
      refine iteF ⟨_, rfl, a, _, _, V.str zw, rfl, rfl, SqT.of ha, atI_nat (j := 0) rfl, nw, _, Tw, rfl, _, rfl, ite2 (fun e => ?_) (fun e1 => ?_)⟩
      · have : decide (V.str zw = V.str (Str.ofString "order")) = false := by simpa using e
        rw [this] at q
        exact q _ Keep.refl
      have e1 : decide (V.str zw = V.str (Str.ofString "order")) = true := by simpa using e1
      rw [e1, Bool.true_and] at q
      refine ⟨_, rfl, a, _, rfl, SqT.of ha, rfl, _, _, rfl, _, _, rfl, _, _, rfl, _, _, rfl, _, _, rfl, _, _, rfl, _, _, rfl, rfl, ?_⟩
      refine ⟨_, rfl, xp, np, rfl, Tp, fun H1 K1 => ⟨_, rfl, ifnot (fun e2 => iteT ?_) (fun e2 => ?_)⟩⟩
      · rw [e2] at q; exact q _ K1
      rw [e2, Bool.true_and] at q
      refine ⟨_, rfl, xq, nq, rfl, Tq.keep0 K1, fun H2 K2 => ⟨_, rfl, ifnot (fun e3 => iteT ?_) (fun e3 => ?_)⟩⟩
      · rw [e3] at q; exact q _ (K1.trans K2)
      rw [e3, Bool.true_and] at q
      have K12 : Keep [] H H2 := K1.trans K2
      obtain ⟨zp, rfl⟩ := nameV_eq e2
      obtain ⟨zq, rfl⟩ := nameV_eq e3
      refine ⟨_, rfl, _, rfl, rfl, _, rfl, ite2 (fun e4 => ?_) (fun e4 => ?_)⟩
      · rw [e4] at q; exact q _ K12
      have e4' : decide (V.str zp = V.str zq) = false := Bool.eq_false_iff.mpr e4
      rw [e4'] at q
      have bigs : ((10 : Int) ^ (9 : Int).toNat) = 1000000000 := by decide +kernel
      refine ⟨_, rfl, _, _, rfl, rfl, ⟨by decide, by decide, by decide⟩, xa, na, 1, _, rfl, Ta.keep0 K12, .inr ⟨_, rfl, _, rfl, ?_⟩⟩
      rw [bigs]
      refine ifnot (fun e5 => iteT ?_) (fun e5 => ?_)
      · rw [e5] at q; exact q _ K12
      rw [e5] at q
      refine ⟨_, rfl, xr, nr, 0, _, rfl, Tr.keep0 K12, .inr ⟨9, rfl, _, rfl, ifnot (fun e6 => ?_) (fun e6 => ?_)⟩⟩
      · rw [e6] at q; exact q _ K12
      rw [e6] at q
      refine ⟨_, rfl, xb, nb, 0, _, rfl, Tb.keep0 K12, .inl ⟨rfl, _, rfl, ite2 (fun e9 => ?_) (fun e9 => ?_)⟩⟩
      · rw [e9] at q
        refine ⟨_, rfl, xu, nu, 0, _, rfl, Tu.keep0 K12, .inl ⟨rfl, _, rfl, ite2 (fun e10 => ?_) (fun e10 => ?_)⟩⟩
        · rw [e10] at q
          obtain ⟨ib, rfl⟩ := geV_eq e9
          obtain ⟨iu, rfl⟩ := geV_eq e10
          exact ⟨_, rfl, _, rfl, _, _, rfl, rfl, q _ K12⟩
        · rw [Bool.eq_false_iff.mpr e10] at q
          exact q _ K12
      · rw [Bool.eq_false_iff.mpr e9] at q
        exact q _ K12

def sp_amount : Sp := fun vs H Q _ => ∃ d c, vs = [.ref d] ∧ DrawAt H d c ∧ ∀ r H', 1 ≤ r → r ≤ 1000000000 → DrawAt H' d c → Keep [d] H H' → Q (.int r) H'
theorem p__law_amount (T : Txt K mg) : Pr P w K mg base "_law_amount" s__law_amount ["state"] 3 sp_amount := by
  obtain ⟨f, fd, D⟩ := T.d__law_amount
  obtain ⟨f__law_next, fd__law_next, D__law_next, G__law_next⟩ := p__law_next (P := P) (w := w) (base := base) T
  refine ⟨f, fd, D, D.F.ok sc__law_amount (fun vs H Q E h => ?_) (fun cdv A outer s H vs Q E hr h => ?_)⟩
  · obtain ⟨d, c, rfl, _⟩ := h; rfl
  · obtain ⟨d, c, rfl, D0, q⟩ := h
    refine ⟨_, (pss_cons (ps_set (i := 1) sc__law_amount.nd rfl (Or.inl rfl) (pe_call G__law_next (hr.mono (by decide)) rfl D__law_next.m D__law_next.F.kp D__law_next.b .nil pass0 (pa_cons (pv 0) (pa_cons pe_int pa_nil))))
      (pss_one (ps_ret (pe_ifExp (pt_cmpR op_eq (pv 1) pe_int (nomark _)) (pe_op op_pow pe_int pe_int) (pe_op op_add pe_int (pe_call G__law_next (hr.mono (by decide)) rfl D__law_next.m D__law_next.F.kp D__law_next.b .nil pass0 (pa_cons (pv 0) (pa_cons (pe_ix ix_list (pe_lst (pa_cons pe_int (pa_cons pe_int (pa_cons (pe_op op_pow pe_int pe_int) pa_nil)))) (pv 1) (fun _ _ => rfl)) pa_nil)))))))), ?_⟩
    refine ⟨_, rfl, d, c, _, rfl, D0, by decide, by decide, fun r H1 r0 r1 D1 K1 => ?_⟩
    refine ⟨_, rfl, rfl, _, rfl, ite2 (fun e => ?_) (fun e => ?_)⟩
    · exact ⟨_, _, rfl, rfl, ⟨by decide, by decide, by decide⟩, q _ H1 (by decide) (by decide) D1 K1⟩
    · have r3 : r < 3 := by
        have : ¬ (V.int r = V.int 3) := fun z => e (decide_eq_true z)
        have : r ≠ 3 := fun z => this (by rw [z])
        omega
      refine ⟨_, rfl, _, _, rfl, rfl, ⟨by decide, by decide, by decide⟩, by show 3 ≤ sizeLine; decide, fun l hl => ?_⟩
      obtain ⟨v, e1, e2⟩ := atI_of (xs := [V.int 5, V.int 1000, V.int 1000000000]) (i := r) r0 (by simpa using r3)
      obtain ⟨n, rfl, n0, n1⟩ : ∃ n : Int, v = .int n ∧ 1 ≤ n ∧ n ≤ 1000000000 := by
        have hm := List.mem_of_getElem? e1
        simp only [List.mem_cons, List.not_mem_nil, or_false] at hm
        rcases hm with rfl | rfl | rfl <;> exact ⟨_, rfl, by decide, by decide⟩
      refine ⟨_, rfl, l, _, r, _, rfl, rfl, SqL.of upd_same, e2, d, c, _, rfl, D1.keep (Keep.upd_new hl), by omega, by omega, fun r2 H2 s0 s1 D2 K2 => ?_⟩
      exact ⟨_, _, rfl, rfl, q _ H2 (by omega) (by omega) D2 ((K1.trans (Keep.upd_new hl)).trans K2)⟩
end
end My
set_option Elab.async false
set_option maxRecDepth 100000
set_option maxHeartbeats 4000000
namespace My
open PySem L2 TL
section
variable {P : Program} {w : World} {K : PySem.W.Frag} {mg : Str → Option Value} {base : Heap}
def ordV (x y : Str) (m r s e : Int) : List V := [.str "order", .str x, .str y, .int m, .int r, .int s, .int e]
theorem other_left {zs : List Str} {x : Str} (nd : zs.Nodup) (h : 2 ≤ zs.length) : 0 < (zs.filter fun y => !decide (V.str y = V.str x)).length := by
  match zs, nd, h with
  | a :: b :: r, nd, _ =>
    have hab : a ≠ b := by
      have := (List.nodup_cons.mp nd).1
      intro e; exact this (by simp [e])
    have : ∃ y ∈ (a :: b :: r), y ≠ x := by
      by_cases e : a = x
      · exact ⟨b, by simp, fun q => hab (e.trans q.symm)⟩
      · exact ⟨a, by simp, e⟩
    obtain ⟨y, hy, hn⟩ := this
    refine List.length_pos_of_mem (List.mem_filter.mpr ⟨hy, ?_⟩)
    have : ¬ V.str y = V.str x := fun q => hn (by injection q)
    rw [decide_eq_false this]; rfl
def sp_one : Sp := fun vs H Q _ => ∃ d c a zs, vs = [.ref d, .ref a] ∧ DrawAt H d c ∧ H a = some (.lst (zs.map V.str)) ∧ CrewL zs ∧ 2 ≤ zs.length ∧ zs.length ≤ 1000 ∧
  ∀ p x y m r s e H', H p = none → H' p = some (.tup (ordV x y m r s e)) → x ∈ zs → y ∈ zs → x ≠ y → 1 ≤ m → m ≤ 1000000000 → 0 ≤ r → r ≤ 9 → 0 ≤ s → s < 1000000000000 → s < e → e ≤ s + 9 → DrawAt H' d c → Keep [d] H H' → Q (.ref p) H'
theorem Keep.none_of {ds : List Addr} {H H' : Hp} {p : Addr} (k : Keep ds H H') (h : H' p = none) (hp : p ∉ ds) : H p = none := by
  cases e : H p with
  | none => rfl
  | some o => rw [k p o e hp] at h; cases h
theorem p__law_one (T : Txt K mg) : Pr P w K mg base "_law_one" s__law_one ["state", "crew"] 4 sp_one := by
  obtain ⟨f, fd, D⟩ := T.d__law_one
  obtain ⟨f__law_next, fd__law_next, D__law_next, G__law_next⟩ := p__law_next (P := P) (w := w) (base := base) T; obtain ⟨f__law_amount, fd__law_amount, D__law_amount, G__law_amount⟩ := p__law_amount (P := P) (w := w) (base := base) T; obtain ⟨f__law_pick, fd__law_pick, D__law_pick, G__law_pick⟩ := p__law_pick (P := P) (w := w) (base := base) T
  refine ⟨f, fd, D, D.F.ok sc__law_one (fun vs H Q E h => ?_) (fun cdv A outer s H vs Q E hr h => ?_)⟩
  · obtain ⟨d, c, a, zs, rfl, _⟩ := h; rfl
  · obtain ⟨d, c, a, zs, rfl, D0, ha, C0, z0, z1, q⟩ := h
    refine ⟨_, (pss_cons (ps_set (i := 2) sc__law_one.nd rfl (Or.inr rfl) (pe_call G__law_pick (hr.mono (by decide)) rfl D__law_pick.m D__law_pick.F.kp D__law_pick.b .nil pass0 (pa_cons (pv 0) (pa_cons (pv 1) pa_nil))))
      (pss_cons (ps_set (i := 3) sc__law_one.nd rfl (Or.inl rfl) (pe_call G__law_pick (hr.mono (by decide)) rfl D__law_pick.m D__law_pick.F.kp D__law_pick.b .nil pass0 (pa_cons (pv 0) (pa_cons (pe_lc (own := [("name", 5)]) (g := gName 5) rfl sc__law_one.nd (pi_list (pv 1)) (blkOk_by (own := [("name", 5)]) (N := N__law_one) (sc := defScope s__law_one) (by decide +kernel)) (fun _ _ _ _ _ => (pg_name (i := 5) sc__law_one.nd rfl (Or.inl rfl))) (fun _ _ _ _ _ => pts_one (pt_cmpR op_ne (pv 5) (pv 2) (nomark _))) (fun _ _ _ _ _ => (pv 5))) pa_nil))))
      (pss_cons (ps_set (i := 4) sc__law_one.nd rfl (Or.inl rfl) (pe_ix ix_list (pe_lst (pa_cons pe_int (pa_cons (pe_call G__law_next (hr.mono (by decide)) rfl D__law_next.m D__law_next.F.kp D__law_next.b .nil pass0 (pa_cons (pv 0) (pa_cons pe_int pa_nil))) (pa_cons (pe_call G__law_next (hr.mono (by decide)) rfl D__law_next.m D__law_next.F.kp D__law_next.b .nil pass0 (pa_cons (pv 0) (pa_cons (pe_op op_pow pe_int pe_int) pa_nil))) pa_nil)))) (pe_call G__law_next (hr.mono (by decide)) rfl D__law_next.m D__law_next.F.kp D__law_next.b .nil pass0 (pa_cons (pv 0) (pa_cons pe_int pa_nil))) (fun _ _ => rfl)))
      (pss_one (ps_ret (pe_tup (pa_cons pe_str (pa_cons (pv 2) (pa_cons (pv 3) (pa_cons (pe_call G__law_amount (hr.mono (by decide)) rfl D__law_amount.m D__law_amount.F.kp D__law_amount.b .nil pass0 (pa_cons (pv 0) pa_nil)) (pa_cons (pe_call G__law_next (hr.mono (by decide)) rfl D__law_next.m D__law_next.F.kp D__law_next.b .nil pass0 (pa_cons (pv 0) (pa_cons pe_int pa_nil))) (pa_cons (pv 4) (pa_cons (pe_op op_add (pe_op op_add (pv 4) pe_int) (pe_call G__law_next (hr.mono (by decide)) rfl D__law_next.m D__law_next.F.kp D__law_next.b .nil pass0 (pa_cons (pv 0) (pa_cons pe_int pa_nil)))) pa_nil))))))))))))), ?_⟩
    have nad : a ∉ [d] := by
      obtain ⟨ns, k, l, m, h1, _⟩ := D0
      simp only [List.mem_singleton]; exact ne_of ha h1 (by intro z; cases z)
    have hs : sizeLine = 16777216 := sizeLine_eq
    refine ⟨_, rfl, _, rfl, d, c, _, _, rfl, D0, .inl ⟨a, rfl, .inl ha⟩, by rw [List.length_map]; omega, by rw [List.length_map]; omega, fun v H1 hv D1 K1 => ?_⟩
    obtain ⟨x, hx, rfl⟩ := List.mem_map.mp hv
    have ha1 := K1 _ _ ha nad
    refine ⟨_, rfl, _, rfl, a, rfl, ⟨_, SqL.of ha1⟩, fun L hL => ?_⟩
    refine lc_list (K := K) (a := a) (xs := zs.map V.str) (fun i H2 => Keep [] H1 H2 ∧ H2 L = some (.lst (((zs.take i).filter fun y => !decide (V.str y = V.str x)).map V.str))) ⟨Keep.upd_new hL, upd_same⟩ (fun i H2 _ ⟨k, _⟩ => SqL.of (k _ _ ha1 (by simp))) ?_ ?_
    · rintro j v H2 hj ⟨K2, h2⟩
      rw [List.getElem?_map] at hj
      cases ej : zs[j]? with
      | none => rw [ej] at hj; cases hj
      | some y =>
        rw [ej] at hj; cases hj
        refine ⟨rfl, _, rfl, _, rfl, rfl, _, rfl, ?_⟩
        rw [take_succ_of ej, List.filter_append]
        cases eo : (!decide (V.str y = V.str x)) with
        | false =>
          refine iteF ⟨K2, ?_⟩
          rw [List.filter_cons_of_neg (by rw [eo]; exact Bool.false_ne_true), List.filter_nil, List.append_nil]; exact h2
        | true =>
          refine iteT ⟨_, rfl, _, h2, ?_, K2.trans_new hL, ?_⟩
          · rw [List.length_map]
            refine Nat.lt_of_le_of_lt (List.length_filter_le _ _) ?_
            rw [List.length_take]; omega
          · rw [List.filter_cons_of_pos (by rw [eo]), List.filter_nil, List.map_append]; exact upd_same
    · rintro H2 ⟨K2, h2⟩
      rw [List.length_map, List.take_length] at h2
      have hl := other_left (x := x) C0.nd z0
      have hl2 := List.length_filter_le (fun y => !decide (V.str y = V.str x)) zs
      refine ⟨d, c, _, _, rfl, D1.keep K2, .inl ⟨L, rfl, .inl h2⟩, by rw [List.length_map]; omega, by rw [List.length_map]; omega, fun v H3 hv D3 K3 => ?_⟩
      obtain ⟨y, hy, rfl⟩ := List.mem_map.mp hv
      obtain ⟨hy1, hy2⟩ := List.mem_filter.mp hy
      have hyx : x ≠ y := fun e => by subst e; simp at hy2
      have KA : Keep [d] H H3 := (K1.trans (K2.mono (by simp))).trans K3
      refine ⟨_, rfl, d, c, _, rfl, D3, by decide, by decide, fun s1 H4 s10 s11 D4 K4 => ?_⟩
      refine ⟨_, rfl, _, _, rfl, rfl, ⟨by decide, by decide, by decide⟩, d, c, _, rfl, D4, by decide, by decide, fun s2 H5 s20 s21 D5 K5 => ?_⟩
      refine ⟨by show 3 ≤ sizeLine; decide, fun l hl5 => ?_⟩
      refine ⟨_, rfl, d, c, _, rfl, D5.keep (Keep.upd_new hl5), by decide, by decide, fun i H6 i0 i1 D6 K6 => ?_⟩
      have nl := (D5.new hl5).1
      have hl6 := K6 _ _ upd_same (show l ∉ [d] by simpa using nl.symm)
      have s21' : s2 < 1000000000000 := by have e : ((fun i j : Int => i ^ j.toNat) 10 12) = 1000000000000 := by decide +kernel
                                           exact e ▸ s21
      obtain ⟨v, e1, e2⟩ := atI_of (xs := [V.int 0, V.int s1, V.int s2]) (i := i) i0 (by simpa using i1)
      obtain ⟨n, rfl, n0, n1⟩ : ∃ n : Int, v = .int n ∧ 0 ≤ n ∧ n < 1000000000000 := by
        have hm := List.mem_of_getElem? e1
        simp only [List.mem_cons, List.not_mem_nil, or_false] at hm
        rcases hm with rfl | rfl | rfl
        · exact ⟨_, rfl, by decide, by decide⟩
        · exact ⟨_, rfl, s10, by omega⟩
        · exact ⟨_, rfl, s20, s21'⟩
      refine ⟨l, _, i, _, rfl, rfl, SqL.of hl6, e2, ?_⟩
      have KB : Keep [d] H H6 := ((KA.trans K4).trans K5).trans ((Keep.upd_new hl5).trans K6)
      refine ⟨_, rfl, _, rfl, _, rfl, d, c, rfl, D6, fun m H7 m0 m1 D7 K7 => ?_⟩
      refine ⟨_, rfl, d, c, _, rfl, D7, by decide, by decide, fun r H8 r0 r1 D8 K8 => ?_⟩
      refine ⟨_, rfl, _, rfl, _, _, rfl, rfl, _, rfl, d, c, _, rfl, D8, by decide, by decide, fun g H9 g0 g1 D9 K9 => ?_⟩
      refine ⟨_, _, rfl, rfl, by show 7 ≤ sizeLine; decide, fun p hp => ?_⟩
      have KC : Keep [d] H H9 := ((KB.trans K7).trans K8).trans K9
      have pd := (D9.new hp).1
      exact q p x y m r n (n + 1 + g) _ (KC.none_of hp (by simpa using pd.symm)) upd_same hx hy1 hyx m0 m1 r0 (by omega) n0 n1 (by omega) (by omega) (D9.keep (Keep.upd_new hp)) (KC.trans (Keep.upd_new hp))
end
end My
set_option Elab.async false
set_option maxRecDepth 100000
set_option maxHeartbeats 800000
namespace My
open PySem PySem.Spec PyProof.Rows L2 HT
section
variable {prog : Program} {w : World} {A : Around} {E : Value → Shared → Prop} {s : Shared}
/-- t[:4:-1] of a tuple of seven -/
theorem back7 {t sl : Addr} {v0 v1 v2 v3 v4 v5 v6 : Value} {a b : Tok} {Q : Value → Shared → Prop}
    (ht : IsTup s.heap t #[v0, v1, v2, v3, v4, v5, v6])
    (hs : s.heap.IsSliceOf sl .none (.int 4 a) (.int (-1) b))
    (h : Q (.ref s.heap.objs.size) { s with heap := s.heap.push { cls := .type "tuple", data := .seq #[v6, v5] } }) :
    wpAny (model prog w) A (getItem (.ref t) (.ref sl)) Q E s := by
  obtain ⟨os, hos, hcs, hds⟩ := id hs
  have tyS : s.TypeIs (.ref sl) "slice" := ⟨os, hos, hcs⟩
  unfold getItem
  refine wpAny_holding ?_
  refine wpAny_bind (wpAny_sequenceKey ht.typeIs (by decide) ?_)
  refine wpAny_bind (wpAny_callSpecial?_slot ht.typeIs slot_tuple_getitem ?_)
  refine wpAny_call_entry slot_tuple_getitem ht.typeIs entry_tuple_getitem ?_ (args_tuple_getitem _ _)
  refine wpAny_bind (m := Builtin.Tuple.tupleItemsOf (.ref t)) (tupleItemsOf_ ht ?_)
  refine wpAny_bind (wpAny_typeOf tyS ?_)
  rw [if_pos (by decide)]
  refine wpAny_bind ?_
  unfold Builtin.Slice.sliceApplied Builtin.Slice.sliceFields
  refine wpAny_bind (wpAny_bind (wpAny_field hos hds (x := .none) rfl ?_))
  refine wpAny_bind (wpAny_field hos hds (x := .int 4 a) rfl ?_)
  refine wpAny_bind (wpAny_field hos hds (x := .int (-1) b) rfl (wpAny_pure ?_))
  refine wpAny_bind (slicePart_int ?_)
  show wpAny _ _ (if ((-1 : Int) == 0) = true then _ else _) _ _ s
  rw [if_neg (by decide)]
  refine wpAny_bind (slicePart_none (wpAny_bind (slicePart_int (wpAny_bind (wpAny_pure ?_)))))
  have e1 : Builtin.Slice.sliceAdjust Option.none (some 4) (-1) 7 = (6, 4) := by decide +kernel
  have e2 : Builtin.Slice.slicePlaces 6 4 (-1) = 2 := by decide +kernel
  show wpAny _ _ (match Builtin.Slice.sliceAdjust Option.none (some 4) (-1) 7 with | (lo, hi) => pure (lo, (-1 : Int), Builtin.Slice.slicePlaces lo hi (-1))) _ _ s
  rw [e1]
  show wpAny _ _ (pure ((6 : Int), (-1 : Int), Builtin.Slice.slicePlaces 6 4 (-1))) _ _ s
  rw [e2]
  refine wpAny_pure ?_
  show wpAny _ _ (if ((6 : Int) == 0 && (-1 : Int) == 1 && (2 : Nat) == 7) = true then _ else _) _ _ s
  rw [if_neg (by decide)]
  refine wpAny_bind (m := Builtin.Tuple.tupleExact _) ?_
  refine wpAny_newObj_type (wpAny_pure ⟨_, rfl, wpAny_pure h⟩) ?_
  show (2 : Nat) ≤ sizeLine
  decide
end
section
variable {X : Cx}
theorem part_none {v : Value} (h : IsPart v none) : v = .none := by cases h; rfl
theorem part_int {v : Value} {i : Int} (h : IsPart v (some i)) : ∃ t, v = .int i t := by cases h; exact ⟨_, rfl⟩
theorem vals7 {x0 x1 x2 x3 x4 x5 x6 : V} {its : List Value} (r : Vals [x0, x1, x2, x3, x4, x5, x6] its) : ∃ v0 v1 v2 v3 v4 v5 v6, its = [v0, v1, v2, v3, v4, v5, v6] ∧ RelV x5 v5 ∧ RelV x6 v6 := by
  obtain _ | ⟨r0, r⟩ := r
  obtain _ | ⟨r1, r⟩ := r
  obtain _ | ⟨r2, r⟩ := r
  obtain _ | ⟨r3, r⟩ := r
  obtain _ | ⟨r4, r⟩ := r
  obtain _ | ⟨r5, r⟩ := r
  obtain _ | ⟨r6, r⟩ := r
  obtain _ | _ := r
  exact ⟨_, _, _, _, _, _, _, rfl, r5, r6⟩
def tBack7 (K : PySem.W.Frag) (te : TE) : TE := fun σ H Q => te σ H fun x H1 => ∃ (t : Addr) (x0 x1 x2 x3 x4 x5 x6 : V), x = .ref t ∧ SqT K H1 t [x0, x1, x2, x3, x4, x5, x6] ∧
  ∀ p, H1 p = none → Q (.ref p) (upd H1 p (.tup [x6, x5]))
theorem pe_back7 {e : Expr} {te : TE} {k0 k : Nat} {q0 q1 q2 q3 pos : Pos} (he : PE X e te) :
    PE X (.Subscript e (.Slice none (some (.Constant (.int 4) k0 q0)) (some (.UnaryOp .USub (.Constant (.int 1) k q1) q2)) q3) pos) (tBack7 X.K te) := by
  refine ⟨fun pins s σ H Q I h => Subscript_ (thn (he.run pins s σ H _ I h) fun v s1 ⟨x, H1, I1, r1, q1⟩ => ?_)⟩
  obtain ⟨t, x0, x1, x2, x3, x4, x5, x6, rfl, hx, q⟩ := q1
  cases r1
  have stop : PO X (some (.Constant (.int 4) k0 q0)) (tPart (tC (.int 4))) := po_some pe_int
  refine wpAny_Slice (thn (po_none.run pins s1 σ H1 (fun o G => o = none ∧ G = H1) I1 ⟨rfl, rfl⟩) fun vl s2 ⟨_, _, I2, pl, rfl, rfl⟩ => ?_)
  refine thn (stop.run pins s2 σ _ (fun o G => o = some 4 ∧ G = H1) I2 ⟨4, rfl, rfl, rfl⟩) fun vu s3 ⟨_, _, I3, pu, rfl, rfl⟩ => ?_
  refine thn ((po_some (pe_un un_neg pe_int)).run pins s3 σ _ (fun o G => o = some (-1) ∧ G = H1) I3 ⟨1, rfl, -1, rfl, rfl, rfl⟩) fun vs s4 ⟨_, _, I4, ps, rfl, rfl⟩ => ?_
  obtain rfl := part_none pl
  obtain ⟨a, rfl⟩ := part_int pu
  obtain ⟨b, rfl⟩ := part_int ps
  have J := I4.kept (t' := s4.toks) (h' := s4.heap.push ⟨.type "slice", none, .fields #[.none, .int 4 a, .int (-1) b], #[]⟩) fun c o z => Heap.get?_push_of_some _ z
  obtain ⟨its, r, ht, hz⟩ := J.tuple hx
  obtain ⟨v0, v1, v2, v3, v4, v5, v6, rfl, r5, r6⟩ := vals7 r
  refine tail_any (ops := [.ref t, .ref s4.heap.objs.size]) ht.typeIs slot_tuple_getitem.lookup ?_ (by with_unfolding_all rfl)
  refine back7 ht (Heap.IsSliceOf.new _ _ _ _) ?_
  refine ⟨.ref _, _, J.laid (t' := s4.toks) (o := .tup [x6, x5]) (fun c o z => Heap.get?_push_of_some _ z) (Nat.le_refl _) ?_, rfl, q _ (J.hok.fresh (Nat.le_refl _))⟩
  exact ⟨by show 2 ≤ sizeLine; decide, [v6, v5], .cons r6 (.cons r5 .nil), _, Heap.get?_push_size _ rfl, rfl, _, rfl⟩
end
end My
set_option Elab.async false
set_option maxRecDepth 100000
set_option maxHeartbeats 800000
namespace My
open PySem L2 TL
/-! what is handed in as an order, as data -/
inductive FB : V → PyData → Prop where
  | non : FB .non .none
  | bl (b : Bool) : FB (.bl b) (.bool b)
  | int (i : Int) (h : i.natAbs < 2000000000000) : FB (.int i) (.int i)
  | str (z : Str) (h1 : (tl z).length ≤ 30) (h2 : (tl z).all (fun c => decide (c < 1000)) = true) : FB (.str z) (.str z)
inductive One (H : Hp) : V → PyData → Prop where
  | flat {v : V} {d : PyData} (h : FB v d) : One H v d
  | tupF {a : Addr} {xs : List V} {ds : List PyData} (h : H a = some (.tup xs)) (p : Paired FB xs ds) (l : xs.length ≤ 10) : One H (.ref a) (.tuple ds)
  | lstF {a : Addr} {xs : List V} {ds : List PyData} (h : H a = some (.lst xs)) (p : Paired FB xs ds) (l : xs.length ≤ 10) : One H (.ref a) (.list ds)
  | dct0 {a : Addr} (h : H a = some (.dK [])) : One H (.ref a) (.dict [])
def isLst : PyData → Bool
  | .list _ => true
  | _ => false
inductive Item (H : Hp) : V → PyData → Prop where
  | one {v : V} {d : PyData} (h : One H v d) : Item H v d
  | tup {a : Addr} {xs : List V} {ds : List PyData} (h : H a = some (.tup xs)) (p : Paired (One H) xs ds) (l : xs.length ≤ 10) (q : PyData.hasDictAll ds = true → ∀ d ∈ ds, isLst d = false) : Item H (.ref a) (.tuple ds)
theorem One.keep0 {H H' : Hp} {v : V} {d : PyData} (h : One H v d) (k : Keep [] H H') : One H' v d := by
  cases h with
  | flat h => exact .flat h
  | tupF h p l => exact .tupF (k _ _ h (by simp)) p l
  | lstF h p l => exact .lstF (k _ _ h (by simp)) p l
  | dct0 h => exact .dct0 (k _ _ h (by simp))
theorem Item.keep0 {H H' : Hp} {v : V} {d : PyData} (h : Item H v d) (k : Keep [] H H') : Item H' v d := by
  cases h with
  | one h => exact .one (h.keep0 k)
  | tup h p l q => exact .tup (k _ _ h (by simp)) (Paired.mapP p fun _ _ x => x.keep0 k) l q
theorem FB.thing {H : Hp} {v : V} {d : PyData} (h : FB v d) : ∃ n, Thing H v n ∧ n ≠ "tuple" := by
  cases h with
  | non => exact ⟨_, .non, by decide⟩
  | bl b => exact ⟨_, .bl b, by decide⟩
  | int i h => exact ⟨_, .int i, by decide⟩
  | str z h1 h2 => exact ⟨_, .str z (by rw [len_tl]; have : sizeLine = 16777216 := sizeLine_eq; omega), by decide⟩
theorem One.thing {H : Hp} {v : V} {d : PyData} (h : One H v d) : ∃ n, Thing H v n := by
  cases h with
  | flat h => exact (h.thing).imp fun _ h => h.1
  | tupF h p l => exact ⟨_, .tup h⟩
  | lstF h p l => exact ⟨_, .lst h⟩
  | dct0 h => exact ⟨_, .dct h⟩
theorem paired_mem {α β : Type} {R : α → β → Prop} : ∀ {xs : List α} {ys : List β}, Paired R xs ys → ∀ x ∈ xs, ∃ y, R x y
  | _, _, .nil, x, h => absurd h (by simp)
  | _, _, .cons r t, x, h => by
    rcases List.mem_cons.mp h with rfl | h
    · exact ⟨_, r⟩
    · exact paired_mem t x h
/-- what is_order asks -/
theorem Item.things {H : Hp} {v : V} {d : PyData} (h : Item H v d) : (∃ n, Thing H v n ∧ n ≠ "tuple") ∨ ∃ a xs, v = .ref a ∧ H a = some (.tup xs) ∧ ∀ x ∈ xs, ∃ n, Thing H x n := by
  cases h with
  | one h =>
    cases h with
    | flat h => exact .inl h.thing
    | tupF h p l => exact .inr ⟨_, _, rfl, h, fun x hx => let ⟨_, r⟩ := paired_mem p x hx; (r.thing).imp fun _ h => h.1⟩
    | lstF h p l => exact .inl ⟨_, .lst h, by decide⟩
    | dct0 h => exact .inl ⟨_, .dct h, by decide⟩
  | tup h p l q => exact .inr ⟨_, _, rfl, h, fun x hx => let ⟨_, r⟩ := paired_mem p x hx; r.thing⟩

/-! its text -/
structure Fits (d : PyData) (w k : Nat) : Prop where
  sh : d.showable = true
  ls : d.leavesShort 20 = true
  wt : d.weight ≤ w
  dp : d.depth ≤ k
structure FitsA (ds : List PyData) (w k : Nat) : Prop where
  sh : PyData.showableAll ds = true
  ls : PyData.leavesShortAll 20 ds = true
  wt : PyData.weightAll ds ≤ ds.length * (w + 1)
  dp : PyData.depthAll ds ≤ k
theorem FitsA.of {w k : Nat} : ∀ {ds : List PyData}, (∀ d ∈ ds, Fits d w k) → FitsA ds w k
  | [], _ => ⟨rfl, rfl, Nat.zero_le _, Nat.zero_le _⟩
  | d :: ds, h => by
    have h1 := h d (by simp)
    have h2 := FitsA.of (ds := ds) fun x hx => h x (List.mem_cons_of_mem _ hx)
    refine ⟨?_, ?_, ?_, ?_⟩
    · simp only [PyData.showableAll, h1.sh, h2.sh, Bool.and_self]
    · simp only [PyData.leavesShortAll, h1.ls, h2.ls, Bool.and_self]
    · simp only [PyData.weightAll, List.length_cons]
      have a := h1.wt; have b := h2.wt
      rw [Nat.add_mul, Nat.one_mul]; omega
    · simp only [PyData.depthAll]
      exact Nat.max_le.mpr ⟨h1.dp, h2.dp⟩
theorem FB.fits {v : V} {d : PyData} (h : FB v d) : Fits d 50 0 := by
  cases h with
  | non => exact ⟨rfl, rfl, Nat.zero_le _, Nat.le_refl _⟩
  | bl b => exact ⟨rfl, rfl, Nat.zero_le _, Nat.le_refl _⟩
  | int i h =>
    have hl : i.natAbs.log2 < 41 := by
      by_cases e : i.natAbs = 0
      · rw [e]; decide
      · exact (Nat.log2_lt e).mpr (by omega)
    refine ⟨?_, ?_, ?_, Nat.le_refl _⟩
    · simp only [PyData.showable, decide_eq_true_eq]; omega
    · simp only [PyData.leavesShort, decide_eq_true_eq]
      have := PySem.int_text_length_le10 (k := 13) (a := i) (by decide) (by omega)
      simp only [PyData.shown]
      show (Str.ofString (toString i)).length ≤ 20
      rw [PySem.ofString_length]; omega
    · simp only [PyData.weight]; split <;> omega
  | str z h1 h2 =>
    refine ⟨rfl, ?_, ?_, Nat.le_refl _⟩
    · simp only [PyData.leavesShort]
      refine List.all_eq_true.mpr fun c hc => ?_
      have := of_decide_eq_true (List.all_eq_true.mp h2 c hc)
      exact decide_eq_true (by have : (16 : Nat) ^ 8 = 4294967296 := by decide
                               omega)
    · simp only [PyData.weight]
      have : z.cps.size = (tl z).length := len_tl z
      omega
theorem paired_fits {R : V → PyData → Prop} {w k : Nat} (f : ∀ v d, R v d → Fits d w k) : ∀ {xs : List V} {ds : List PyData}, Paired R xs ds → (∀ d ∈ ds, Fits d w k) ∧ ds.length = xs.length
  | _, _, .nil => ⟨by simp, rfl⟩
  | _, _, .cons r t => by
    obtain ⟨h1, h2⟩ := paired_fits f t
    refine ⟨fun d hd => ?_, by simp [h2]⟩
    rcases List.mem_cons.mp hd with rfl | hd
    · exact f _ _ r
    · exact h1 d hd
theorem Fits.seqT {ds : List PyData} {w k n : Nat} (h : FitsA ds w k) (l : ds.length ≤ n) : Fits (.tuple ds) (n * (w + 1)) (k + 1) := by
  refine ⟨by simpa only [PyData.showable] using h.sh, by simpa only [PyData.leavesShort] using h.ls, ?_, ?_⟩
  · simp only [PyData.weight]; exact Nat.le_trans h.wt (Nat.mul_le_mul_right _ l)
  · simp only [PyData.depth]; have := h.dp; omega
theorem Fits.seqL {ds : List PyData} {w k n : Nat} (h : FitsA ds w k) (l : ds.length ≤ n) : Fits (.list ds) (n * (w + 1)) (k + 1) := by
  refine ⟨by simpa only [PyData.showable] using h.sh, by simpa only [PyData.leavesShort] using h.ls, ?_, ?_⟩
  · simp only [PyData.weight]; exact Nat.le_trans h.wt (Nat.mul_le_mul_right _ l)
  · simp only [PyData.depth]; have := h.dp; omega
theorem One.fits {H : Hp} {v : V} {d : PyData} (h : One H v d) : Fits d 510 1 := by
  cases h with
  | flat h => have x := h.fits; exact ⟨x.sh, x.ls, Nat.le_trans x.wt (by decide), Nat.le_trans x.dp (by decide)⟩
  | tupF h p l => obtain ⟨a, b⟩ := paired_fits (fun _ _ => FB.fits) p; exact Fits.seqT (n := 10) (FitsA.of a) (by omega)
  | lstF h p l => obtain ⟨a, b⟩ := paired_fits (fun _ _ => FB.fits) p; exact Fits.seqL (n := 10) (FitsA.of a) (by omega)
  | dct0 h => exact ⟨rfl, rfl, Nat.zero_le _, Nat.le_refl _⟩
theorem Item.fits {H : Hp} {v : V} {d : PyData} (h : Item H v d) : Fits d 5110 2 := by
  cases h with
  | one h => have x := h.fits; exact ⟨x.sh, x.ls, Nat.le_trans x.wt (by decide), Nat.le_trans x.dp (by decide)⟩
  | tup h p l q => obtain ⟨a, b⟩ := paired_fits (fun _ _ => One.fits) p; exact Fits.seqT (n := 10) (FitsA.of a) (by omega)
theorem Fits.size {d : PyData} {w k : Nat} (h : Fits d w k) (hw : w ≤ 10000) : d.shown.length ≤ sizeLine := by
  have := PyData.shown_le 20 (by decide) d h.ls
  have h2 : (20 + 2) * d.weight ≤ 22 * 10000 := Nat.mul_le_mul (by decide) (Nat.le_trans h.wt hw)
  rw [sizeLine_eq]; omega

section
variable {X : Cx} {pins : List (Addr × Obj)} {σ : L2.St} {H : Hp} {s : Shared}
theorem FB.reads {v : V} {d : PyData} {u : Value} (h : FB v d) (r : RelV v u) : Reads s.heap u d [] ∧ d.hasDict = false := by
  cases h with
  | non => cases (show u = Value.none from r); exact ⟨.none, rfl⟩
  | bl b => cases (show u = Value.bool b from r); exact ⟨.bool b, rfl⟩
  | int i h => obtain ⟨t, rfl⟩ := (show ∃ t, u = Value.int i t from r); exact ⟨.int i t, rfl⟩
  | str z h1 h2 => obtain ⟨t, rfl⟩ := (show ∃ t, u = Value.str z t from r); exact ⟨.str z t, rfl⟩
theorem FB.readsAll : ∀ {xs : List V} {ds : List PyData} {us : List Value}, Paired FB xs ds → Vals xs us → ReadsAll s.heap us ds [] ∧ PyData.hasDictAll ds = false
  | _, _, _, .nil, .nil => ⟨.nil, rfl⟩
  | _, _, _, .cons h t, .cons r q => by
    obtain ⟨a1, a2⟩ := FB.reads (s := s) h r
    obtain ⟨b1, b2⟩ := FB.readsAll t q
    exact ⟨.cons a1 b1, by simp only [PyData.hasDictAll, a2, b2, Bool.or_self]⟩
/-- the addresses that a reading of data leans on: those of dicts are not sys.modules' -/
theorem One.reads (I : Inv X pins σ H s) {v : V} {d : PyData} {u : Value} (h : One H v d) (r : RelV v u) : ∃ as, Reads s.heap u d as ∧ (isLst d = false → sysModules ∉ as) ∧ (d.hasDict = true → sysModules ∉ as) := by
  cases h with
  | flat h => exact ⟨[], (FB.reads h r).1, fun _ => by simp, fun _ => by simp⟩
  | @tupF a xs ds h p l =>
    cases (show u = Value.ref a from r)
    obtain ⟨_, its, rv, o, h1, h2, n, h3⟩ := (show ObjOk X.prog X.w H s.heap a (.tup xs) from I.hok a _ h)
    exact ⟨[], .tuple h1 h2 h3 (FB.readsAll p rv).1, fun _ => by simp, fun _ => by simp⟩
  | @lstF a xs ds h p l =>
    cases (show u = Value.ref a from r)
    obtain ⟨_, its, n, rv, h1⟩ := (show ObjOk X.prog X.w H s.heap a (.lst xs) from I.hok a _ h)
    obtain ⟨q1, q2⟩ := FB.readsAll (s := s) p rv
    refine ⟨[a], .list h1 rfl rfl q1, fun z => (nomatch (show true = false from z)), fun z => ?_⟩
    have z : PyData.hasDictAll ds = true := by simpa only [PyData.hasDict] using z
    rw [q2] at z; cases z
  | @dct0 a h =>
    cases (show u = Value.ref a from r)
    obtain ⟨_, hs, vs, kv, o, es, ep, h1, h2, h3, h4, h5, h6⟩ := (show ObjOk X.prog X.w H s.heap a (.dK []) from I.hok a _ h)
    cases kv
    have he : es.toList = [] := by cases e : es.toList with
      | nil => rfl
      | cons x r => rw [e] at h5; cases h5
    refine ⟨[a], .dict h1 h2.1 h3 (as := []) (bs := []) (by rw [he]; exact .nil) (by rw [he]; exact .nil), fun _ => ?_, fun _ => ?_⟩ <;>
    · simp only [List.mem_singleton]; rintro rfl; simp at hs
theorem One.readsAll (I : Inv X pins σ H s) : ∀ {xs : List V} {ds : List PyData} {us : List Value}, Paired (One H) xs ds → Vals xs us → ∃ as, ReadsAll s.heap us ds as ∧ ((∀ d ∈ ds, isLst d = false) → sysModules ∉ as)
  | _, _, _, .nil, .nil => ⟨[], .nil, fun _ => by simp⟩
  | _, _, _, .cons h t, .cons r q => by
    obtain ⟨as, a1, a2, _⟩ := One.reads I h r
    obtain ⟨bs, b1, b2⟩ := One.readsAll I t q
    refine ⟨as ++ bs, .cons a1 b1, fun z => ?_⟩
    rw [List.mem_append, not_or]
    exact ⟨a2 (z _ (by simp)), b2 fun d hd => z d (List.mem_cons_of_mem _ hd)⟩
theorem Item.reads (I : Inv X pins σ H s) {v : V} {d : PyData} {u : Value} (h : Item H v d) (r : RelV v u) : ∃ as, Reads s.heap u d as ∧ (d.hasDict = true → sysModules ∉ as) := by
  cases h with
  | one h => obtain ⟨as, a1, _, a3⟩ := One.reads I h r; exact ⟨as, a1, a3⟩
  | @tup a xs ds h p l q =>
    cases (show u = Value.ref a from r)
    obtain ⟨_, its, rv, o, h1, h2, n, h3⟩ := (show ObjOk X.prog X.w H s.heap a (.tup xs) from I.hok a _ h)
    obtain ⟨as, a1, a2⟩ := One.readsAll I p rv
    exact ⟨as, .tuple h1 h2 h3 a1, fun z => a2 (q (by simpa only [PyData.hasDict] using z))⟩
/-- repr(x), where nothing is being shown around -/
theorem call_reprI (hg : X.A.guards = some []) (hu : X.A.units + 64 < cLine) : CallR X (.builtin "repr") (fun vs H Q => ∃ v d, vs = [v] ∧ Item H v d ∧ Q (.str d.shown) H) := by
  intro pins s σ H xs us Q I r h
  obtain ⟨v, d, rfl, it, q⟩ := h
  obtain ⟨u, rfl, rx⟩ := vals1 r
  have fi := it.fits
  have sz := fi.size (by decide)
  obtain ⟨as, rd, hs⟩ := it.reads I rx
  have fin : ∀ t k, EP X pins σ Q (.str d.shown t) { s with toks := k } := fun t k => ⟨.str _, H, I.tok _, ⟨_, rfl⟩, q⟩
  cases rd with
  | none => simp only [PyData.shown] at fin; exact PySem.P.repr_of_none (fin _ _)
  | bool b => simp only [PyData.shown] at fin; exact PySem.P.repr_of_bool (fin _ _)
  | int i t => simp only [PyData.shown] at fin; exact PySem.P.repr_of_int (by simpa [PyData.showable] using fi.sh) (fin _ _)
  | str x t => simp only [PyData.shown] at fin sz; exact PySem.P.repr_of_str (fin _ _) sz
  | list h1 h2 h3 h4 =>
    refine repr_of_reads' (.list h1 h2 h3 h4) fi.sh hs hg (by have := fi.dp; omega) (fun _ _ e => e) (fun h' u tk hk => ?_) sz
    exact ⟨.str _, H, I.kept (t' := tk) hk, ⟨_, rfl⟩, q⟩
  | tuple h1 h2 h3 h4 =>
    refine repr_of_reads' (.tuple h1 h2 h3 h4) fi.sh hs hg (by have := fi.dp; omega) (fun _ _ e => e) (fun h' u tk hk => ?_) sz
    exact ⟨.str _, H, I.kept (t' := tk) hk, ⟨_, rfl⟩, q⟩
  | dict h1 h2 h3 h4 h5 =>
    refine repr_of_reads' (.dict h1 h2 h3 h4 h5) fi.sh hs hg (by have := fi.dp; omega) (fun _ _ e => e) (fun h' u tk hk => ?_) sz
    exact ⟨.str _, H, I.kept (t' := tk) hk, ⟨_, rfl⟩, q⟩
end
end My
set_option Elab.async false
set_option maxRecDepth 100000
set_option maxHeartbeats 800000
namespace My
open PySem L2 TL
section
variable {P : Program} {w : World} {K : PySem.W.Frag} {mg : Str → Option Value} {base : Heap}
theorem catA_all {H : Hp} {a b : Addr} {xs ys : List V} {Q : VK} (ha : H a = some (.tup xs)) (hb : H b = some (.tup ys)) (hl : xs.length + ys.length ≤ 1000)
    (q : ∀ p H', Keep [] H H' → H' p = some (.tup (xs ++ ys)) → Q (.ref p) H') : rCatA K (.ref a) (.ref b) H Q := by
  refine ⟨a, b, xs, ys, rfl, rfl, SqT.of ha, SqT.of hb, by have : sizeLine = 16777216 := sizeLine_eq; omega, fun e => ?_, fun _ e => ?_, fun _ _ p hp => q p _ (Keep.upd_new hp) upd_same⟩
  · subst e; exact q b H Keep.refl hb
  · subst e; exact q a H Keep.refl (by rw [List.append_nil]; exact ha)
theorem slA_all {H : Hp} {a : Addr} {xs : List V} {lo hi : Option Int} {Q : VK} (ha : H a = some (.tup xs)) (q : ∀ p H', Keep [] H H' → H' p = some (.tup (cutV xs lo hi)) → Q (.ref p) H') : rSlA K (.ref a) lo hi H Q := by
  refine ⟨a, xs, rfl, SqT.of ha, fun e => ?_, fun _ p hp => q p _ (Keep.upd_new hp) upd_same⟩
  refine q a H Keep.refl ?_
  have : cutV xs lo hi = xs := by
    unfold cutV
    rw [e.1, e.2, List.drop_zero, Nat.sub_zero, List.take_length]
  rw [this]; exact ha
theorem noPart {σ : L2.St} {H : Hp} {F : Option Int → Hp → Prop} (h : F none H) : tNoPart σ H F := h
theorem cutV_to {xs : List V} {r : Int} (h0 : 0 ≤ r) (h1 : r ≤ xs.length) : cutV xs none (some r) = xs.take r.toNat := by
  unfold cutV
  have e : r = ((r.toNat : Nat) : Int) := by omega
  rw [e, HT.sIx_nat, HT.sIx_none, List.drop_zero, Nat.sub_zero, Nat.min_eq_left (by omega)]
  rfl
theorem cutV_from {xs : List V} {r : Int} (h0 : 0 ≤ r) (h1 : r ≤ xs.length) : cutV xs (some r) none = xs.drop r.toNat := by
  unfold cutV
  have e : r = ((r.toNat : Nat) : Int) := by omega
  rw [e, HT.sIx_nat, HT.sIx_none, Nat.min_eq_left (by omega), List.take_of_length_le (by rw [List.length_drop]; omega)]
  rfl
theorem paired_append {α β : Type} {R : α → β → Prop} : ∀ {xs xs' : List α} {ys ys' : List β}, Paired R xs ys → Paired R xs' ys' → Paired R (xs ++ xs') (ys ++ ys')
  | _, _, _, _, .nil, q => q
  | _, _, _, _, .cons r t, q => .cons r (paired_append t q)
theorem paired_take {α β : Type} {R : α → β → Prop} : ∀ (n : Nat) {xs : List α} {ys : List β}, Paired R xs ys → Paired R (xs.take n) (ys.take n)
  | 0, _, _, _ => .nil
  | _ + 1, _, _, .nil => .nil
  | n + 1, _, _, .cons r t => .cons r (paired_take n t)
theorem paired_drop {α β : Type} {R : α → β → Prop} : ∀ (n : Nat) {xs : List α} {ys : List β}, Paired R xs ys → Paired R (xs.drop n) (ys.drop n)
  | 0, _, _, h => h
  | _ + 1, _, _, .nil => .nil
  | n + 1, _, _, .cons r t => paired_drop n t
theorem FB.plain {v : V} {d : PyData} (h : FB v d) : isLst d = false ∧ d.hasDict = false := by
  cases h <;> exact ⟨rfl, rfl⟩
theorem fb_plain : ∀ {xs : List V} {ds : List PyData}, Paired FB xs ds → ∀ d ∈ ds, isLst d = false ∧ d.hasDict = false
  | _, _, .nil, d, h => absurd h (by simp)
  | _, _, .cons r t, d, h => by
    rcases List.mem_cons.mp h with rfl | h
    · exact r.plain
    · exact fb_plain t d h
theorem hasDictAll_mem : ∀ {ds : List PyData}, PyData.hasDictAll ds = true → ∃ d ∈ ds, d.hasDict = true
  | [], h => by simp [PyData.hasDictAll] at h
  | d :: r, h => by
    simp only [PyData.hasDictAll, Bool.or_eq_true] at h
    rcases h with h | h
    · exact ⟨d, by simp, h⟩
    · obtain ⟨x, hx, e⟩ := hasDictAll_mem h
      exact ⟨x, List.mem_cons_of_mem _ hx, e⟩
theorem fb_noDict {xs : List V} {ds : List PyData} (p : Paired FB xs ds) : PyData.hasDictAll ds = false := by
  cases e : PyData.hasDictAll ds with
  | false => rfl
  | true =>
    obtain ⟨d, hd, h⟩ := hasDictAll_mem e
    rw [(fb_plain p d hd).2] at h; cases h
theorem One.lst_or {H : Hp} {v : V} {d : PyData} (h : One H v d) : d.hasDict = true → isLst d = false := by
  cases h with
  | flat h => exact fun _ => h.plain.1
  | tupF h p l => exact fun _ => rfl
  | lstF h p l => intro z; simp only [PyData.hasDict] at z; rw [fb_noDict p] at z; cases z
  | dct0 h => exact fun _ => rfl
/-- a tuple of plain parts around one that may be any -/
theorem item_splice {H : Hp} {p : Addr} {xs ys : List V} {v : V} {ds es : List PyData} {dv : PyData} (h : H p = some (.tup (xs ++ [v] ++ ys))) (px : Paired FB xs ds) (py : Paired FB ys es) (ov : One H v dv) (l : (xs ++ [v] ++ ys).length ≤ 10) :
    Item H (.ref p) (.tuple (ds ++ [dv] ++ es)) := by
  refine .tup h (paired_append (paired_append (Paired.mapP px fun _ _ x => .flat x) (.cons ov .nil)) (Paired.mapP py fun _ _ x => .flat x)) l fun z d hd => ?_
  have hp : ∀ d ∈ ds ++ [dv] ++ es, d = dv ∨ (isLst d = false ∧ d.hasDict = false) := fun d hd => by
    rcases List.mem_append.mp hd with hd | hd
    · rcases List.mem_append.mp hd with hd | hd
      · exact .inr (fb_plain px d hd)
      · exact .inl (by simpa using hd)
    · exact .inr (fb_plain py d hd)
  rcases hp d hd with rfl | q
  · obtain ⟨x, hx, e⟩ := hasDictAll_mem z
    rcases hp x hx with rfl | q
    · exact ov.lst_or e
    · rw [q.2] at e; cases e
  · exact q.1
theorem item_flat {H : Hp} {p : Addr} {xs : List V} {ds : List PyData} (h : H p = some (.tup xs)) (px : Paired FB xs ds) (l : xs.length ≤ 10) : Item H (.ref p) (.tuple ds) := .one (.tupF h px l)
theorem DrawAt.neT {H : Hp} {d c p : Addr} {xs : List V} (D : DrawAt H d c) (h : H p = some (.tup xs)) : V.ref p ≠ V.ref d := by
  obtain ⟨ns, k, l, m, h1, _⟩ := D
  intro e; injection e with e; subst e; rw [h1] at h; cases h
theorem DrawAt.neL {H : Hp} {d c p : Addr} {xs : List V} (D : DrawAt H d c) (h : H p = some (.lst xs)) : V.ref p ≠ V.ref d := by
  obtain ⟨ns, k, l, m, h1, _⟩ := D
  intro e; injection e with e; subst e; rw [h1] at h; cases h
theorem DrawAt.neD {H : Hp} {d c p : Addr} (D : DrawAt H d c) (h : H p = some (.dK [])) : V.ref p ≠ V.ref d := by
  obtain ⟨ns, k, l, m, h1, _⟩ := D
  intro e; injection e with e; subst e; rw [h1] at h; cases h
theorem ref_notin {p d : Addr} (h : V.ref p ≠ V.ref d) : p ∉ [d] := by
  simp only [List.mem_singleton]; exact fun e => h (by rw [e])
def oddV (pt pl pd : Addr) (x : Str) (s e : Int) : List V := [.non, .str "", .str "A", .int 5, .int (-1), .int 0, .bl true, .str "1", .ref pt, .ref pl, .ref pd, .int (10 ^ 9 + 1), .int 10, .int 9, .str x, .int s, .int e]
theorem odd_one {H : Hp} {pt pl pd : Addr} {x y : Str} {m r s e : Int} (ht : H pt = some (.tup [.str "a"])) (hl : H pl = some (.lst [.str "a"])) (hd : H pd = some (.dK []))
    (pf : Paired FB (ordV x y m r s e) [.str "order", .str x, .str y, .int m, .int r, .int s, .int e]) : ∀ v ∈ oddV pt pl pd x s e ++ [.str "ninelette", .str "orders", .str "eightlet"], ∃ dv, One H v dv := by
  have fa : Paired FB [V.str "a"] [.str "a"] := .cons (.str _ (by decide +kernel) (by decide +kernel)) .nil
  obtain _ | ⟨-, _ | ⟨fx, _ | ⟨-, _ | ⟨-, _ | ⟨-, _ | ⟨fs, _ | ⟨fe, -⟩⟩⟩⟩⟩⟩⟩ := pf
  intro v hv
  unfold oddV at hv
  simp only [List.cons_append, List.nil_append, List.mem_cons, List.not_mem_nil, or_false] at hv
  rcases hv with rfl | rfl | rfl | rfl | rfl | rfl | rfl | rfl | rfl | rfl | rfl | rfl | rfl | rfl | rfl | rfl | rfl | rfl | rfl | rfl
  · exact ⟨_, .flat .non⟩
  · exact ⟨_, .flat (.str _ (by decide +kernel) (by decide +kernel))⟩
  · exact ⟨_, .flat (.str _ (by decide +kernel) (by decide +kernel))⟩
  · exact ⟨_, .flat (.int _ (by decide))⟩
  · exact ⟨_, .flat (.int _ (by decide))⟩
  · exact ⟨_, .flat (.int _ (by decide))⟩
  · exact ⟨_, .flat (.bl _)⟩
  · exact ⟨_, .flat (.str _ (by decide +kernel) (by decide +kernel))⟩
  · exact ⟨_, .tupF ht fa (by decide)⟩
  · exact ⟨_, .lstF hl fa (by decide)⟩
  · exact ⟨_, .dct0 hd⟩
  · exact ⟨_, .flat (.int _ (by decide))⟩
  · exact ⟨_, .flat (.int _ (by decide))⟩
  · exact ⟨_, .flat (.int _ (by decide))⟩
  · exact ⟨_, .flat fx⟩
  · exact ⟨_, .flat fs⟩
  · exact ⟨_, .flat fe⟩
  · exact ⟨_, .flat (.str _ (by decide +kernel) (by decide +kernel))⟩
  · exact ⟨_, .flat (.str _ (by decide +kernel) (by decide +kernel))⟩
  · exact ⟨_, .flat (.str _ (by decide +kernel) (by decide +kernel))⟩
def sp_otherwise : Sp := fun vs H Q _ => ∃ d c a x y m r s e, vs = [.ref d, .ref a] ∧ DrawAt H d c ∧ H a = some (.tup (ordV x y m r s e)) ∧ Paired FB (ordV x y m r s e) [.str "order", .str x, .str y, .int m, .int r, .int s, .int e] ∧
  ∀ v dt H', Item H' v dt → v ≠ .ref d → DrawAt H' d c → Keep [d] H H' → Q v H'
theorem p__law_otherwise (T : Txt K mg) : Pr P w K mg base "_law_otherwise" s__law_otherwise ["state", "item"] 4 sp_otherwise := by
  obtain ⟨f, fd, D⟩ := T.d__law_otherwise
  obtain ⟨f__law_pick, fd__law_pick, D__law_pick, G__law_pick⟩ := p__law_pick (P := P) (w := w) (base := base) T; obtain ⟨f__law_next, fd__law_next, D__law_next, G__law_next⟩ := p__law_next (P := P) (w := w) (base := base) T
  refine ⟨f, fd, D, D.F.ok sc__law_otherwise (fun vs H Q E h => ?_) (fun cdv A outer s H vs Q E hr h => ?_)⟩
  · obtain ⟨d, c, a, x, y, m, r, s, e, rfl, _⟩ := h; rfl
  · obtain ⟨d, c, a, x, y, m, r, s, e, rfl, D0, ha, pf, q⟩ := h
    refine ⟨_, (pss_cons (ps_set (i := 2) sc__law_otherwise.nd rfl (Or.inl rfl) (pe_lst (pa_cons pe_non (pa_cons pe_str (pa_cons pe_str (pa_cons pe_int (pa_cons (pe_un un_neg pe_int) (pa_cons pe_int (pa_cons pe_bl (pa_cons pe_str (pa_cons (pe_tup (pa_cons pe_str pa_nil)) (pa_cons (pe_lst (pa_cons pe_str pa_nil)) (pa_cons pe_dnewK (pa_cons (pe_op op_add (pe_op op_pow pe_int pe_int) pe_int) (pa_cons pe_int (pa_cons pe_int (pa_cons (pe_ix ix_tup (pv 1) pe_int (fun _ _ => rfl)) (pa_cons (pe_ix ix_tup (pv 1) pe_int (fun _ _ => rfl)) (pa_cons (pe_ix ix_tup (pv 1) pe_int (fun _ _ => rfl)) pa_nil)))))))))))))))))))
      (pss_cons (ps_par (i := 3) (j := 4) (by rfl) sc__law_otherwise.nd rfl rfl (by decide) rfl rfl (pa_cons (pe_call G__law_next (hr.mono (by decide)) rfl D__law_next.m D__law_next.F.kp D__law_next.b .nil pass0 (pa_cons (pv 0) (pa_cons pe_int pa_nil))) (pa_cons (pe_call G__law_next (hr.mono (by decide)) rfl D__law_next.m D__law_next.F.kp D__law_next.b .nil pass0 (pa_cons (pv 0) (pa_cons pe_int pa_nil))) pa_nil)) (by rfl))
      (pss_cons (ps_if (pt_cmpR op_lt (pv 3) pe_int (nomark _)) (pss_one (ps_ret (pe_op op_catA (pe_op op_catA (pe_slice sl_tupA (pv 1) po_none (po_some (pv 4))) (pe_tup (pa_cons (pe_call G__law_pick (hr.mono (by decide)) rfl D__law_pick.m D__law_pick.F.kp D__law_pick.b .nil pass0 (pa_cons (pv 0) (pa_cons (pe_op op_cat (pv 2) (pe_lst (pa_cons pe_str (pa_cons pe_str (pa_cons pe_str pa_nil))))) pa_nil))) pa_nil))) (pe_slice sl_tupA (pv 1) (po_some (pe_op op_add (pv 4) pe_int)) po_none)))) pss_nil)
      (pss_cons (ps_if (pt_cmpR op_eq (pv 3) pe_int (nomark _)) (pss_one (ps_ret (pe_call G__law_pick (hr.mono (by decide)) rfl D__law_pick.m D__law_pick.F.kp D__law_pick.b .nil pass0 (pa_cons (pv 0) (pa_cons (pe_lst (pa_cons (pe_callTy call_list_of (by rfl) T.z_list (by decide +kernel) (pa_cons (pv 1) pa_nil)) (pa_cons (pe_op op_catA (pe_slice sl_tupA (pv 1) po_none (po_some (pv 4))) (pe_slice sl_tupA (pv 1) (po_some (pe_op op_add (pv 4) pe_int)) po_none)) (pa_cons (pe_op op_catA (pv 1) (pe_tup (pa_cons pe_int pa_nil))) (pa_cons (pe_op op_catA (pe_slice sl_tupA (pv 1) po_none (po_some pe_int)) (pe_back7 (pv 1))) pa_nil))))) pa_nil))))) pss_nil)
      (pss_one (ps_ret (pe_call G__law_pick (hr.mono (by decide)) rfl D__law_pick.m D__law_pick.F.kp D__law_pick.b .nil pass0 (pa_cons (pv 0) (pa_cons (pe_lst (pa_cons pe_non (pa_cons pe_int (pa_cons pe_str (pa_cons (pe_tup pa_nil) (pa_cons (pe_lst pa_nil) (pa_cons pe_dnewK (pa_cons pe_bl (pa_cons pe_str pa_nil))))))))) pa_nil))))))))), ?_⟩
    refine ⟨_, rfl, by show 1 ≤ sizeLine; decide, fun pt hpt => ⟨by show 1 ≤ sizeLine; decide, fun pl hpl => fun pd hpd => ?_⟩⟩
    obtain ⟨H3, hH3⟩ : ∃ G, G = upd (upd (upd H pt (.tup [.str "a"])) pl (.lst [.str "a"])) pd (.dK []) := ⟨_, rfl⟩
    have K3 : Keep [] H H3 := hH3 ▸ ((Keep.upd_new hpt).trans (Keep.upd_new hpl)).trans (Keep.upd_new hpd)
    have h3t : H3 pt = some (.tup [.str "a"]) := hH3 ▸ Keep.upd_new (ds := []) hpd _ _ (Keep.upd_new (ds := []) hpl _ _ upd_same (by simp)) (by simp)
    have h3l : H3 pl = some (.lst [.str "a"]) := hH3 ▸ Keep.upd_new (ds := []) hpd _ _ upd_same (by simp)
    have h3d : H3 pd = some (.dK []) := hH3 ▸ upd_same
    rw [← hH3]
    clear hH3 hpt hpl hpd
    have ha3 := K3 _ _ ha (by simp)
    have D3 := D0.keep K3
    refine ⟨_, _, rfl, rfl, ⟨by decide, by decide, by decide⟩, _, _, rfl, rfl, _, rfl, a, _, _, _, rfl, rfl, SqT.of ha3, atI_nat (j := 1) rfl, _, rfl, a, _, _, _, rfl, rfl, SqT.of ha3, atI_nat (j := 5) rfl, _, rfl, a, _, _, _, rfl, rfl, SqT.of ha3, atI_nat (j := 6) rfl, by show 17 ≤ sizeLine; decide, fun po hpo => ?_⟩
    have K4 : Keep [] H3 (upd H3 po (.lst (oddV pt pl pd x s e))) := Keep.upd_new hpo
    have h4o : (upd H3 po (.lst (oddV pt pl pd x s e))) po = some (.lst (oddV pt pl pd x s e)) := upd_same
    refine ⟨_, rfl, d, c, _, rfl, D3.keep K4, by decide, by decide, fun wy H5 w0 w1 D5 K5 => ?_⟩
    refine ⟨_, rfl, d, c, _, rfl, D5, by decide, by decide, fun k H6 k0 k1 D6 K6 => ⟨_, _, rfl, ?_⟩⟩
    have K46 : Keep [d] (upd H3 po (.lst (oddV pt pl pd x s e))) H6 := K5.trans K6
    have D4 := D3.keep K4
    have up : ∀ {p : Addr} {o : HO}, H3 p = some o → V.ref p ≠ V.ref d → H6 p = some o := fun h n => K46 _ _ (K4 _ _ h (by simp)) (ref_notin n)
    have h6t := up h3t (D3.neT h3t)
    have h6l := up h3l (D3.neL h3l)
    have h6d := up h3d (D3.neD h3d)
    have ha6 := up ha3 (D3.neT ha3)
    have h6o := K46 _ _ h4o (ref_notin (D4.neL h4o))
    have KH6 : Keep [d] H H6 := ((K3.trans K4).mono (by simp)).trans K46
    clear up K46 K5 K6 K4 h4o hpo D4 D5 D3 ha3 h3t h3l h3d K3
    have l7 : (ordV x y m r s e).length = 7 := rfl
    have k7 : k.toNat < 7 := by omega
    refine ⟨_, rfl, _, _, rfl, rfl, _, rfl, ite2 (fun _ => ?_) (fun _ => ?_)⟩
    · refine ⟨_, rfl, _, rfl, _, rfl, slA_all ha6 fun p1 H7 K7 h7 => ?_⟩
      have h7o := K7 _ _ h6o (by simp)
      refine ⟨_, rfl, _, rfl, by show 3 ≤ sizeLine; decide, fun pn hpn => ?_⟩
      have K8 : Keep [] H7 (upd H7 pn (.lst [V.str "ninelette", .str "orders", .str "eightlet"])) := Keep.upd_new hpn
      refine ⟨po, pn, _, _, rfl, rfl, K8 _ _ h7o (by simp), upd_same, by show 20 ≤ sizeLine; decide, fun pm hpm => ?_⟩
      have D9 := ((D6.keep K7).keep K8).keep (Keep.upd_new (ds := []) hpm (o := .lst (oddV pt pl pd x s e ++ [V.str "ninelette", .str "orders", .str "eightlet"])))
      refine ⟨d, c, _, _, rfl, D9, .inl ⟨pm, rfl, .inl upd_same⟩, by show 0 < 20; decide, by show 20 < 1000000000; decide, fun v H10 hv D10 K10 => ?_⟩
      have K6A : Keep [d] H6 H10 := (((K7.trans K8).trans (Keep.upd_new hpm)).mono (by simp)).trans K10
      have up : ∀ {p : Addr} {o : HO}, H6 p = some o → V.ref p ≠ V.ref d → H10 p = some o := fun h n => K6A _ _ h (ref_notin n)
      obtain ⟨dv, ov⟩ := odd_one (up h6t (D6.neT h6t)) (up h6l (D6.neL h6l)) (up h6d (D6.neD h6d)) pf v hv
      have ha10 := up ha6 (D6.neT ha6)
      have D7 := D6.keep K7
      have h10 : H10 p1 = some (.tup (cutV (ordV x y m r s e) none (some k))) := K10 _ _ (Keep.upd_new (ds := []) hpm _ _ (K8 _ _ h7 (by simp)) (by simp)) (ref_notin (D7.neT h7))
      refine ⟨by show 1 ≤ sizeLine; decide, fun p2 hp2 => ?_⟩
      have K11 : Keep [] H10 (upd H10 p2 (.tup [v])) := Keep.upd_new hp2
      have lc := cutV_length (ordV x y m r s e) none (some k)
      refine catA_all (K11 _ _ h10 (by simp)) upd_same (by show _ + 1 ≤ 1000; omega) fun p3 H12 K12 h12 => ?_
      have K1012 : Keep [] H10 H12 := K11.trans K12
      refine ⟨_, rfl, _, rfl, _, _, rfl, rfl, _, rfl, ?_⟩
      refine noPart ?_
      refine slA_all (K1012 _ _ ha10 (by simp)) fun p4 H13 K13 h13 => ?_
      have lc2 := cutV_length (ordV x y m r s e) (some (k + 1)) none
      refine catA_all (K13 _ _ h12 (by simp)) h13 (by rw [List.length_append]; show _ + 1 + _ ≤ 1000; omega) fun p5 H14 K14 h14 => ?_
      have K1014 : Keep [] H10 H14 := (K1012.trans K13).trans K14
      rw [cutV_to k0 (by omega), cutV_from (by omega) (by omega)] at h14
      have D14 := D10.keep K1014
      refine q _ _ _ (item_splice h14 (paired_take _ pf) (paired_drop _ pf) (ov.keep0 K1014) ?_) (D14.neT h14) D14 ((KH6.trans K6A).trans (K1014.mono (by simp)))
      rw [List.length_append, List.length_append, List.length_take, List.length_drop]
      show _ + 1 + _ ≤ 10
      omega
    refine ⟨_, rfl, rfl, _, rfl, ite2 (fun _ => ?_) (fun _ => ?_)⟩
    · -- one of four
      refine ⟨_, rfl, _, rfl, a, _, rfl, .inr (SqT.of ha6), fun pA hA => ?_⟩
      have KA : Keep [] H6 (upd H6 pA (.lst (ordV x y m r s e))) := Keep.upd_new hA
      have hpA : (upd H6 pA (.lst (ordV x y m r s e))) pA = some (.lst (ordV x y m r s e)) := upd_same
      refine ⟨_, rfl, _, rfl, _, rfl, slA_all (KA _ _ ha6 (by simp)) fun p1 H7 K7 h7 => ?_⟩
      refine ⟨_, rfl, _, rfl, _, _, rfl, rfl, _, rfl, ?_⟩
      refine noPart ?_
      refine slA_all (K7 _ _ (KA _ _ ha6 (by simp)) (by simp)) fun p2 H8 K8 h8 => ?_
      have lc := cutV_length (ordV x y m r s e) none (some k)
      have lc2 := cutV_length (ordV x y m r s e) (some (k + 1)) none
      refine catA_all (K8 _ _ h7 (by simp)) h8 (by omega) fun pB H9 KB hB => ?_
      rw [cutV_to k0 (by omega), cutV_from (by omega) (by omega)] at hB
      have K69 : Keep [] H6 H9 := ((KA.trans K7).trans K8).trans KB
      refine ⟨_, rfl, by show 1 ≤ sizeLine; decide, fun pz hz => ?_⟩
      have Kz : Keep [] H9 (upd H9 pz (.tup [V.int 0])) := Keep.upd_new hz
      refine catA_all (Kz _ _ (K69 _ _ ha6 (by simp)) (by simp)) upd_same (by show 7 + 1 ≤ 1000; decide) fun pC H10 KC hC => ?_
      have K910 : Keep [] H9 H10 := Kz.trans KC
      have ha10 := K910 _ _ (K69 _ _ ha6 (by simp)) (by simp)
      refine ⟨_, rfl, _, rfl, slA_all ha10 fun p5 H11 K11 h11 => ?_⟩
      refine ⟨_, rfl, a, .str "order", .str x, .str y, .int m, .int r, .int s, .int e, rfl, SqT.of (K11 _ _ ha10 (by simp)), fun p6 hp6 => ?_⟩
      have K12 : Keep [] H11 (upd H11 p6 (.tup [V.int e, .int s])) := Keep.upd_new hp6
      rw [show cutV (ordV x y m r s e) none (some 5) = (ordV x y m r s e).take 5 from cutV_to (r := 5) (by decide) (by omega)] at h11
      refine catA_all (K12 _ _ h11 (by simp)) upd_same (by show 5 + 2 ≤ 1000; decide) fun pD H13 KD hD => ?_
      refine ⟨by show 4 ≤ sizeLine; decide, fun po2 hpo2 => ?_⟩
      have Kp : Keep [] H13 (upd H13 po2 (.lst [V.ref pA, .ref pB, .ref pC, .ref pD])) := Keep.upd_new hpo2
      have K1013 : Keep [] H10 H13 := (K11.trans K12).trans KD
      have K6D : Keep [] H6 H13 := (K69.trans K910).trans K1013
      have D13 := (D6.keep K6D)
      refine ⟨d, c, _, _, rfl, D13.keep Kp, .inl ⟨po2, rfl, .inl upd_same⟩, by show 0 < 4; decide, by show 4 < 1000000000; decide, fun v H14 hv D14 K14 => ?_⟩
      have KF : Keep [d] H H14 := (KH6.trans ((K6D.trans Kp).mono (by simp))).trans K14
      have up : ∀ {p : Addr} {o : HO}, H13 p = some o → V.ref p ≠ V.ref d → H14 p = some o := fun h n => K14 _ _ (Kp _ _ h (by simp)) (ref_notin n)
      simp only [List.mem_cons, List.not_mem_nil, or_false] at hv
      rcases hv with rfl | rfl | rfl | rfl
      · have h := KD _ _ (K12 _ _ (K11 _ _ (K910 _ _ (KB _ _ (K8 _ _ (K7 _ _ hpA (by simp)) (by simp)) (by simp)) (by simp)) (by simp)) (by simp)) (by simp)
        exact q _ _ _ (.one (.lstF (up h (D13.neL h)) pf (by show 7 ≤ 10; decide))) (D13.neL h) D14 KF
      · have h := K1013 _ _ (K910 _ _ hB (by simp)) (by simp)
        refine q _ _ _ (item_flat (up h (D13.neT h)) (paired_append (paired_take _ pf) (paired_drop _ pf)) ?_) (D13.neT h) D14 KF
        rw [List.length_append, List.length_take, List.length_drop]; omega
      · have h := K1013 _ _ hC (by simp)
        exact q _ _ _ (item_flat (up h (D13.neT h)) (paired_append pf (.cons (.int 0 (by decide)) .nil)) (by show 8 ≤ 10; decide)) (D13.neT h) D14 KF
      · obtain _ | ⟨-, _ | ⟨-, _ | ⟨-, _ | ⟨-, _ | ⟨-, _ | ⟨fs, _ | ⟨fe, -⟩⟩⟩⟩⟩⟩⟩ := id pf
        exact q _ _ _ (item_flat (up hD (D13.neT hD)) (paired_append (paired_take 5 pf) (.cons fe (.cons fs .nil))) (by show 7 ≤ 10; decide)) (D13.neT hD) D14 KF
    · -- no order at all
      refine ⟨_, rfl, Nat.zero_le _, fun pA hA => ⟨Nat.zero_le _, fun pB hB => fun pC hC => ?_⟩⟩
      obtain ⟨H7, hH7⟩ : ∃ G, G = upd (upd (upd H6 pA (.tup [])) pB (.lst [])) pC (.dK []) := ⟨_, rfl⟩
      have K7 : Keep [] H6 H7 := hH7 ▸ ((Keep.upd_new hA).trans (Keep.upd_new hB)).trans (Keep.upd_new hC)
      have h7a : H7 pA = some (.tup []) := hH7 ▸ Keep.upd_new (ds := []) hC _ _ (Keep.upd_new (ds := []) hB _ _ upd_same (by simp)) (by simp)
      have h7b : H7 pB = some (.lst []) := hH7 ▸ Keep.upd_new (ds := []) hC _ _ upd_same (by simp)
      have h7c : H7 pC = some (.dK []) := hH7 ▸ upd_same
      rw [← hH7]
      refine ⟨by show 8 ≤ sizeLine; decide, fun po2 hpo2 => ?_⟩
      have Kp : Keep [] H7 (upd H7 po2 (.lst [V.non, .int 5, .str "order", .ref pA, .ref pB, .ref pC, .bl true, .str "order a b 1 0 0 1"])) := Keep.upd_new hpo2
      have D7 := D6.keep K7
      refine ⟨d, c, _, _, rfl, D7.keep Kp, .inl ⟨po2, rfl, .inl upd_same⟩, by show 0 < 8; decide, by show 8 < 1000000000; decide, fun v H14 hv D14 K14 => ?_⟩
      have KF : Keep [d] H H14 := (KH6.trans ((K7.trans Kp).mono (by simp))).trans K14
      have up : ∀ {p : Addr} {o : HO}, H7 p = some o → V.ref p ≠ V.ref d → H14 p = some o := fun h n => K14 _ _ (Kp _ _ h (by simp)) (ref_notin n)
      simp only [List.mem_cons, List.not_mem_nil, or_false] at hv
      rcases hv with rfl | rfl | rfl | rfl | rfl | rfl | rfl | rfl
      · exact q _ _ _ (.one (.flat .non)) (by intro z; cases z) D14 KF
      · exact q _ _ _ (.one (.flat (.int 5 (by decide)))) (by intro z; cases z) D14 KF
      · exact q _ _ _ (.one (.flat (.str _ (by decide +kernel) (by decide +kernel)))) (by intro z; cases z) D14 KF
      · exact q _ _ _ (item_flat (up h7a (D7.neT h7a)) .nil (by decide)) (D7.neT h7a) D14 KF
      · exact q _ _ _ (.one (.lstF (up h7b (D7.neL h7b)) .nil (by decide))) (D7.neL h7b) D14 KF
      · exact q _ _ _ (.one (.dct0 (up h7c (D7.neD h7c)))) (D7.neD h7c) D14 KF
      · exact q _ _ _ (.one (.flat (.bl true))) (by intro z; cases z) D14 KF
      · exact q _ _ _ (.one (.flat (.str _ (by decide +kernel) (by decide +kernel)))) (by intro z; cases z) D14 KF
end
end My
set_option Elab.async false
set_option maxRecDepth 100000
set_option maxHeartbeats 800000
namespace My
open PySem PySem.Spec PyProof.Rows L2
/-! a def's promise where nothing is being shown around (what repr asks) -/
structure FnG (P : Program) (w : World) (K : PySem.W.Frag) (mg : Str → Option Value) (base : Heap) (k : Nat) (f : Addr) (fd : FuncData) (ps : List Str) (sp : Sp) : Prop where
  len : ∀ vs H Q E, sp vs H Q E → vs.length = ps.length
  run : ∀ (A : Around) (outer : List Env) (s : Shared) (H : Hp) (args : Args) (us : List Value) (vs : List V) (Q : VK) (E : XK), Room k A → A.guards = some [] →
    Env0 P w K mg base A outer s H → BindsTo s fd args (ps.zip us) → Vals vs us → sp vs H Q E → codeAny (model P w) A (.call (.ref f) args) (CR CX0 outer P w H s Q E) s
section
variable {P : Program} {w : World} {K : PySem.W.Frag} {mg : Str → Option Value} {base : Heap}
theorem okG {x qual : Str} {st : Stmt} {f : Addr} {fd : FuncData} {N ps : List Str} {k : Nat} {sp : Sp} (F : Fun K x qual st f fd) (S : FnScope N ps (defScope st)) (len : ∀ vs H Q E, sp vs H Q E → vs.length = ps.length)
    (body : ∀ (cdv : Value) (A : Around) (outer : List Env) (s : Shared) (H : Hp) (vs : List V) (Q : VK) (E : XK), Room k (A.deeper (envOfC qual (defScope st) s.heap.objs.size f cdv)) →
      (A.deeper (envOfC qual (defScope st) s.heap.objs.size f cdv)).guards = some [] → sp vs H Q E →
      ∃ t, PSs (cxOf CX0 P w K mg base N qual (defScope st) f cdv A outer s H E).nox (defBody st) t ∧ t { nx := fun _ H' => Q .non H', rt := Q } (start N vs) H) :
    FnG P w K mg base (k + 1) f fd ps sp := by
  obtain ⟨oc, od, kV, doc, pm, an, cdv, ct, osl, rfl, lk, hcd⟩ := F.ex
  refine ⟨len, fun A outer s H args us vs Q E room g0 e0 bind rel hsp => ?_⟩
  have ll := len _ _ _ _ hsp
  have inK : K.In s.heap := e0.mod.kin.keeps fun b o z => (e0.bs b o z).1
  have noLim : s.heap.NoLimit := e0.mod.nolimit.keeps fun b o z => (e0.bs b o z).1
  have kinds : ∀ y ∈ ps.zip us, (defScope st).names.lookup y.1 = some .local ∨
      ((defScope st).names.lookup y.1 = some .cell ∧ ((cellsFrom (s.heap.objs.size + 1) (defScope st).names []).lookup y.1).isSome = true) := by
    rintro ⟨n, v⟩ hy
    exact (S.par n (List.of_mem_zip hy).1).imp id fun q => ⟨q, PySem.W.cellsFrom_some _ _ _ (.inl q)⟩
  refine codeAny_call_function room.depth (inK _ _ lk) rfl S.co S.gen rfl (PySem.W.codeRec_of inK hcd) (bind _ _ _ _ ?_)
  refine wpAny_newFunctionEnv_cells S.kind kinds fun env he s1 x => ?_
  subst he
  refine ⟨noLim.keeps x.toInCall.keep, codeAny_func ?_⟩
  obtain ⟨t, ht, hq⟩ := body cdv A outer s H vs Q E (room.deeper _) g0 hsp
  have I := inv_start (CX := CX0) (cd := cdv) (f := f) (qual := qual) (E := E) S room.hd e0 ll rel x
  refine wpAny_mono (ht.nox.run [] s1 (start N vs) H _ I hq) (fun fl s' z => ?_) fun _ _ z => z
  match fl, z with
  | .ret u, ⟨v, σ', H', J, rv, q⟩ => exact ⟨v, H', J.os, J.bare, J.base, J.hok, rv, q⟩
  | .next, ⟨σ', H', J, q⟩ => exact ⟨V.non, H', J.os, J.bare, J.base, J.hok, rfl, q⟩
  | .brk, ⟨_, _, _, q⟩ => exact False.elim q
  | .cont, ⟨_, _, _, q⟩ => exact False.elim q
/-- the law's call, from its def's promise -/
theorem law_callG {mb : Str → Option Value} {k : Nat} {fa a : Addr} {fd : FuncData} {x : Str} {sp : Sp} {s₁ : Shared} {vs : List Value} {ns : List Int}
    (KX : K.In s₁.heap) (nsG : s₁.heap.Ns mainGlobals mg) (nsB : s₁.heap.Ns builtinsNs mb) (boot : ∀ x : Str, x ≠ "__name__" → mb x = bootBuiltins x) (lim : s₁.heap.NoLimit) (gens : s₁.gens = #[])
    (la : s₁.heap.get? a = some ⟨.type "list", none, .seq vs.toArray 0, #[]⟩) (isI : IntsAre vs ns) (few : ns.length ≤ sizeLine) (room : Room k callerA)
    (F : ∀ base : Heap, K.In base → base.Ns mainGlobals mg → FnG P w K mg base k fa fd [x] sp) (bind : ∀ (s : Shared) (u : Value), BindsTo s fd ⟨[u], []⟩ [(x, u)])
    (hsp : ∀ H : Hp, SqL K H a (ns.map V.int) → sp [.ref a] H (fun v _ => v = .bl true) fun _ _ _ => False) :
    codeAny (model P w) callerA (.call (.ref fa) ⟨[.ref a], []⟩) (fun r s' => r = .ok (.ret (.bool true)) ∧ OldK s₁.heap s'.heap ∧ s'.os = s₁.os ∧ AllBare s'.gens) s₁ := by
  have vals := vals_ints isI
  -- the heap where nothing but the script is told, and where it is told, the module's part hasn't it
  have main : ∀ H : Hp, (∀ b o, H b = some o → b = a ∧ K.lookup a = none ∧ ∃ ob u, o = .frz ob u) → HOk P w H s₁.heap → SqL K H a (ns.map V.int) →
      codeAny (model P w) callerA (.call (.ref fa) ⟨[.ref a], []⟩) (fun r s' => r = .ok (.ret (.bool true)) ∧ OldK s₁.heap s'.heap ∧ s'.os = s₁.os ∧ AllBare s'.gens) s₁ := by
    intro H only hok hS
    have free : ∀ b, b ≠ a → H b = none := fun b n => by
      cases e : H b with
      | none => rfl
      | some o => exact absurd (only b o e).1 n
    have nsOf : ∀ {b : Addr} {m : Str → Option Value}, s₁.heap.Ns b m → (hidT s₁.heap H).Ns b m := by
      rintro b m ⟨o, es, ep, e, dt, r⟩
      refine ⟨o, es, ep, hidT_get e (free b ?_), dt, r⟩
      rintro rfl
      rw [la] at e; cases e; cases dt
    have inK : K.In (hidT s₁.heap H) := fun b o e => hidT_get (KX b o e) (by
      cases q : H b with
      | none => rfl
      | some u =>
        obtain ⟨rfl, z, _⟩ := only b u q
        rw [z] at e; cases e)
    have md : Mod K mg (hidT s₁.heap H) := ⟨inK, nsOf nsG, ⟨mb, nsOf nsB, boot⟩, let ⟨mc, c1, c2⟩ := lim; ⟨mc, nsOf c1, c2⟩⟩
    have e0 : Env0 P w K mg (hidT s₁.heap H) callerA [] s₁ H :=
      { frames := rfl, mod := md, bs := fun b o e => of_hidT e, bsz := Nat.le_of_eq (hidT_size _ _), funs := trivial, frf := fun b z => absurd z (List.not_mem_nil), hok := hok, bare := .of_eq gens }
    have go := (F _ inK (nsOf nsG)).run callerA [] s₁ H ⟨[.ref a], []⟩ [.ref a] [.ref a] _ _ room rfl e0 (bind s₁ (.ref a)) (.cons rfl .nil) (hsp H hS)
    refine codeAny_mono go fun r s' z => ?_
    match r, z with
    | .ok (.ret u), ⟨v, H', os, bare, un, hok', rel, q⟩ =>
      have q : v = .bl true := q
      subst q
      cases (show u = Value.bool true from rel)
      refine ⟨rfl, OldK.of_keep fun b o e => ?_, os, bare⟩
      cases hb : H b with
      | none => exact un.keep b o e hb List.not_mem_nil List.not_mem_nil
      | some u =>
        obtain ⟨_, _, ob, u', rfl⟩ := only b u hb
        have e1 := (show ObjOk P w H s₁.heap b (.frz ob u') from hok b _ hb).1
        have e2 := (show ObjOk P w H' s'.heap b (.frz ob u') from hok' b _ (un.frzs b ob _ hb)).1
        rw [e] at e1; cases e1; exact e2
  cases hk : K.lookup a with
  | some o =>
    have e := KX a o hk
    rw [la] at e; cases e
    refine main (fun _ => none) (fun b o z => by cases z) (fun b u z => by cases z) (.inr ⟨_, vs.toArray, 0, hk, rfl, rfl, rfl, ?_, by simpa using vals⟩)
    rw [List.size_toArray, isI.length]; exact few
  | none =>
    refine main (upd (fun _ => none) a (.frz ⟨.type "list", none, .seq vs.toArray 0, #[]⟩ (.lst (ns.map V.int)))) (fun b o z => ?_) (fun b o z => ?_) (.inl (.inr ⟨_, upd_same⟩))
    · by_cases hb : b = a
      · subst hb; rw [upd_same] at z; cases z; exact ⟨rfl, hk, _, _, rfl⟩
      · rw [upd_ne hb] at z; cases z
    · by_cases hb : b = a
      · subst hb; rw [upd_same] at z; cases z
        exact ⟨la, by rw [List.length_map]; exact few, vs, 0, vals, la⟩
      · rw [upd_ne hb] at z; cases z
end
theorem walkG {l : PySem.W.OpenLaw} {n k : Nat} {q : Program} {loose : List Str} {XP : (Str → Option Value) → Heap → Prop} {YP : World → Heap → Prop} {d : DefRec} {K : Params → PySem.W.Frag} {sp : PySem.W.Frag → Sp} {x : Str}
    (hn : l.most = some n) (hn2 : n ≤ sizeLine) (hdf : d.params.defaults = []) (room : Room k callerA) (hY : ∀ (w : World) (h : Heap), YP w h → (K w.params).In h)
    (F : ∀ (w : World) (mg : Str → Option Value) (fa : Addr) (h : Heap), (K w.params).In h → h.Ns mainGlobals mg → mg d.name = some (.ref fa) →
      ∃ fd : FuncData, (∀ (s : Shared) (u : Value), BindsTo s fd ⟨[u], []⟩ [(x, u)]) ∧ ∀ base : Heap, (K w.params).In base → base.Ns mainGlobals mg → FnG l.prog w (K w.params) mg base k fa fd [x] (sp (K w.params)))
    (hsp : ∀ (K : PySem.W.Frag) (H : Hp) (a : Addr) (ns : List Int), ns.length ≤ n → SqL K H a (ns.map V.int) → sp K [.ref a] H (fun v _ => v = .bl true) fun _ _ _ => False) :
    PySem.W.WalkO q loose XP YP l.row.toRowW d [] (fun f vs => PySem.call f vs) := by
  refine Att.attach_call hn hdf fun w s₀ s₁ mg mb fa o pm cd doc a vs ns G Y ho hd hcd hmg hobj hints hlen hg => ?_
  have KX := hY w _ Y
  obtain ⟨fd, hb, hF⟩ := F w mg fa _ KX G.T.g hmg
  exact law_callG KX G.T.g G.T.b G.T.builtins G.T.nolimit hg hobj hints (Nat.le_trans hlen hn2) room hF hb fun H hS => hsp _ H a ns hlen hS
/-- f(k = v, ..) alone -/
theorem pe_callK0 {X : Cx} {CX : CXT} {k : Nat} {f : Addr} {fd : FuncData} {ps ks : List Str} {sp : Sp} {E : XK} {x : Str} {p pos : Pos} {kws : List Keyword} {tk : TA} {g : List Value → List Value → List Value} {gV : List V → List V → List V}
    (F : FnOk X.prog X.w X.K X.mg X.base CX k f fd ps sp) (hr : Room k X.A) (hg : Gl X x) (hm : X.mg x = some (.ref f)) (hk : PySem.W.keepIn X.K (.ref f) = true) (hb : KBinds X.K fd ps ks g gV) (hx : Passes CX X E) (hkw : PK X kws tk)
    (hall : (backToKw pos (keywordEach kws X.env)).all (·.1.isSome) = true := by rfl) (hks : (backToKw pos (keywordEach kws X.env)).filterMap (·.1) = ks := by rfl) (hdb : (x == ("__debug__" : Str)) = false := by decide)
    (hpl : ((backTo pos (starEach [] X.env)).any (·.1) || (backToKw pos (keywordEach kws X.env)).any (·.1.isNone)) = false := by rfl) :
    PE X (.Call (.Name x p) [] kws pos) (fun σ H Q => tk σ H fun zs H1 => sp (gV [] zs) H1 Q E) := by
  refine ⟨fun pins s σ H Q I h => wpAny_Call_Name_kw (ld_glob I hg hm ?_ hdb)⟩
  refine PySem.W.callWith_KW0 (h₀ := X.base) I.ok.mod.kin hk hall ?_ hpl
  refine thn (hkw.run pos pins s σ H _ I h) fun ws s2 ⟨zs, H2, I2, rz, q2⟩ => ⟨I2.kIn, ?_⟩
  rw [hks]
  exact run_fnk F hr hb hx I2 (us := []) (vs := []) .nil rz q2
end My
set_option Elab.async false
set_option maxRecDepth 100000
set_option maxHeartbeats 800000
namespace My
open PySem L2 TL
theorem noArg {σ : L2.St} {H : Hp} {F : List V → Hp → Prop} (h : F [] H) : tNil σ H F := h
theorem sq_keep {K : PySem.W.Frag} {H H' : Hp} {a : Addr} {xs : List V} {ds : List Addr} (h : SqL K H a xs) (k : Keep ds H H') (n : ∀ o, H a = some o → a ∉ ds) : SqL K H' a xs := by
  rcases h with (h | ⟨o, h⟩) | h
  · exact .inl (.inl (k _ _ h (n _ h)))
  · exact .inl (.inr ⟨o, k _ _ h (n _ h)⟩)
  · exact .inr h
/-- both looks at a thing say the same, then and later -/
theorem item_says {H : Hp} {v : V} {dt : PyData} (it : Item H v dt) : ∃ b : Bool, ∀ H', Keep [] H H' → ∀ (Q : VK) (E : XK), (∀ H2, Keep [] H' H2 → Q (.bl b) H2) → sp_order [v] H' Q E := by
  rcases it.things with ⟨n, T, nt⟩ | ⟨a, xs, rfl, ha, hx⟩
  · exact ⟨false, fun H' k Q E q => ⟨v, rfl, .inl ⟨n, T.keep0 k, nt, q⟩⟩⟩
  · exact ⟨isOrdL xs, fun H' k Q E q => ⟨_, rfl, .inr ⟨a, xs, rfl, k _ _ ha (by simp), fun x h => (hx x h).imp fun _ t => t.keep0 k, q⟩⟩⟩
theorem ord_fb {x y : Str} {m r s e : Int} (hx : NameS x) (hy : NameS y) (m0 : 1 ≤ m) (m1 : m ≤ 1000000000) (r0 : 0 ≤ r) (r1 : r ≤ 9) (s0 : 0 ≤ s) (s1 : s < 1000000000000) (e0 : s < e) (e1 : e ≤ s + 9) :
    Paired FB (ordV x y m r s e) [.str "order", .str x, .str y, .int m, .int r, .int s, .int e] := by
  have nm : ∀ {z : Str}, NameS z → FB (.str z) (.str z) := fun {z} h => .str z (by have := h.2.1; omega) (List.all_eq_true.mpr fun c hc => decide_eq_true (by have := h.2.2 c hc; omega))
  exact .cons (.str _ (by decide +kernel) (by decide +kernel)) (.cons (nm hx) (.cons (nm hy) (.cons (.int m (by omega)) (.cons (.int r (by omega)) (.cons (.int s (by omega)) (.cons (.int e (by omega)) .nil))))))
section
variable {P : Program} {w : World} {K : PySem.W.Frag} {mg : Str → Option Value} {base : Heap}
theorem kb_one {f : Addr} {fd : FuncData} (F : Fun K "is_order" "is_order" s_is_order f fd) : KBinds K fd ["thing"] ["thing"] (fun us ws => us ++ ws) (fun vs zs => vs ++ zs) := by
  obtain ⟨oc, od, kV, doc, pm, an, cdv, ct, osl, rfl, lk, hcd⟩ := F.ex
  refine ⟨fun s us ws _ hl => ?_, fun r rz => r.append rz⟩
  match us, ws, hl with
  | [], [v], _ => exact .of_eq rfl
  | [v], [], _ => exact .of_eq rfl
def sp_law (K : PySem.W.Frag) : Sp := fun vs H Q _ => ∃ (a : Addr) (ns : List Int), vs = [.ref a] ∧ SqL K H a (ns.map V.int) ∧ ns.length ≤ 63 ∧ ∀ H', Q (.bl true) H'
theorem g_law (T : Txt K mg) {f : Addr} {fd : FuncData} (F : Fun K "law" "law" s_law f fd) : FnG P w K mg base 6 f fd ["script"] (sp_law K) := by
  obtain ⟨f_is_order, fd_is_order, D_is_order, G_is_order⟩ := p_is_order (P := P) (w := w) (base := base) T; obtain ⟨f__law_due, fd__law_due, D__law_due, G__law_due⟩ := p__law_due (P := P) (w := w) (base := base) T; obtain ⟨f__law_next, fd__law_next, D__law_next, G__law_next⟩ := p__law_next (P := P) (w := w) (base := base) T; obtain ⟨f__law_otherwise, fd__law_otherwise, D__law_otherwise, G__law_otherwise⟩ := p__law_otherwise (P := P) (w := w) (base := base) T; obtain ⟨f__law_one, fd__law_one, D__law_one, G__law_one⟩ := p__law_one (P := P) (w := w) (base := base) T; obtain ⟨f__law_crew, fd__law_crew, D__law_crew, G__law_crew⟩ := p__law_crew (P := P) (w := w) (base := base) T; obtain ⟨f__law_begin, fd__law_begin, D__law_begin, G__law_begin⟩ := p__law_begin (P := P) (w := w) (base := base) T
  have kb_is_order := kb_one D_is_order.F
  refine okG F sc_law (fun vs H Q E h => ?_) (fun cdv A outer s H vs Q E hr hg h => ?_)
  · obtain ⟨a, ns, rfl, _⟩ := h; rfl
  · obtain ⟨a, ns, rfl, hS, hl, q⟩ := h
    refine ⟨_, (pss_cons (ps_set (i := 1) sc_law.nd rfl (Or.inl rfl) (pe_call G__law_begin (hr.mono (by decide)) rfl D__law_begin.m D__law_begin.F.kp D__law_begin.b .nil pass0 (pa_cons (pv 0) pa_nil)))
      (pss_cons (ps_set (i := 2) sc_law.nd rfl (Or.inl rfl) (pe_call G__law_crew (hr.mono (by decide)) rfl D__law_crew.m D__law_crew.F.kp D__law_crew.b .nil pass0 (pa_cons (pv 1) (pa_cons (pe_op op_add pe_int (pe_call G__law_next (hr.mono (by decide)) rfl D__law_next.m D__law_next.F.kp D__law_next.b .nil pass0 (pa_cons (pv 1) (pa_cons pe_int pa_nil)))) pa_nil))))
      (pss_cons (ps_for PassesOwn.never rfl (pi_range1 rfl T.z_range (pa_cons (pe_op op_add pe_int (pe_callB (call_min2 rfl) (by rfl) T.z_min (by decide +kernel) (pa_cons (pe_callB call_len_seq (by rfl) T.z_len (by decide +kernel) (pa_cons (pv 0) pa_nil)) (pa_cons pe_int pa_nil)))) pa_nil)) (pg_name (i := 3) sc_law.nd rfl (Or.inl rfl)) (pss_cons (ps_set (i := 4) sc_law.nd rfl (Or.inl rfl) (pe_call G__law_one (hr.mono (by decide)) rfl D__law_one.m D__law_one.F.kp D__law_one.b .nil pass0 (pa_cons (pv 1) (pa_cons (pv 2) pa_nil))))
      (pss_cons (ps_if (pt_cmpR op_gt (pe_call G__law_next (hr.mono (by decide)) rfl D__law_next.m D__law_next.F.kp D__law_next.b .nil pass0 (pa_cons (pv 1) (pa_cons pe_int pa_nil))) pe_int (nomark _)) (pss_one (ps_set (i := 4) sc_law.nd rfl (Or.inl rfl) (pe_call G__law_otherwise (hr.mono (by decide)) rfl D__law_otherwise.m D__law_otherwise.F.kp D__law_otherwise.b .nil pass0 (pa_cons (pv 1) (pa_cons (pv 4) pa_nil))))) pss_nil)
      (pss_cons (ps_par (i := 5) (j := 6) (by rfl) sc_law.nd rfl rfl (by decide) rfl rfl (pa_cons (pe_call G__law_due (hr.mono (by decide)) rfl D__law_due.m D__law_due.F.kp D__law_due.b .nil pass0 (pa_cons (pv 4) pa_nil)) (pa_cons (pe_callB (call_reprI hg hr.units) (by rfl) T.z_repr (by decide +kernel) (pa_cons (pv 4) pa_nil)) pa_nil)) (by rfl))
      (pss_one (ps_for PassesOwn.never rfl (pi_list (pe_lst (pa_cons (pe_call G_is_order (hr.mono (by decide)) rfl D_is_order.m D_is_order.F.kp D_is_order.b .nil pass0 (pa_cons (pv 4) pa_nil)) (pa_cons (pe_callK0 G_is_order (hr.mono (by decide)) rfl D_is_order.m D_is_order.F.kp kb_is_order pass0 (pk_cons (pv 4) pk_nil)) pa_nil)))) (pg_name (i := 7) sc_law.nd rfl (Or.inl rfl)) (pss_one (ps_if (PW.pt (pw_or (pt_not (pt_val (pe_callB call_isi (by rfl) T.z_isinstance (by decide +kernel) (pa_cons (pv 7) (pa_cons (pe_bltn (by rfl) T.z_bool (by decide +kernel) (v := .ty "bool") rfl) pa_nil))))) (pw_or (pt_cmpR op_ne (pv 7) (pv 5) (nomark _)) (pw_or1 (pt_cmpR op_ne (pe_callB (call_reprI hg hr.units) (by rfl) T.z_repr (by decide +kernel) (pa_cons (pv 4) pa_nil)) (pv 6) (nomark _)))))) (pss_one (ps_ret pe_bl)) pss_nil))))))))
      (pss_one (ps_ret pe_bl))))), ?_⟩
    refine ⟨_, rfl, a, ns, rfl, hS, hl, fun d c H1 hd hc D1 K1 => ?_⟩
    refine ⟨_, rfl, _, rfl, d, c, _, rfl, D1, by decide, by decide, fun r H2 r0 r1 D2 K2 => ⟨_, _, rfl, rfl, d, c, _, rfl, D2, by omega, by omega, fun p zs H3 hp hp3 C3 lz D3 K3 => ?_⟩⟩
    have KA : Keep [d] H H3 := ((K1.mono (by simp)).trans K2).trans K3
    have hS3 := sq_keep hS KA fun o e => by simpa using ne_of_none e hd
    refine ⟨_, rfl, a, _, rfl, .inl hS3, _, _, rfl, _, _, rfl, rfl, _, rfl, ?_, ?_, ?_⟩
    · rw [List.length_map]; split <;> omega
    · rw [List.length_map]; split <;> omega
    refine for_range (lo := 0) (fun i σ H4 => ∃ v3 v4 v5 v6 v7 : Option V, σ = [some (.ref a), some (.ref d), some (.ref p), v3, v4, v5, v6, v7] ∧ DrawAt H4 d c ∧ H4 p = some (.lst (zs.map V.str))) ⟨none, none, none, none, none, rfl, D3, hp3⟩ ?_ ?_
    · rintro i σ H4 hi ⟨v3, v4, v5, v6, v7, rfl, D4, hp4⟩
      refine ⟨_, rfl, _, rfl, d, c, p, zs, rfl, D4, hp4, C3, by omega, by omega, fun po x y m r s e H5 hpo h5 hx hy hxy m0 m1 r0 r1 s0 s1 e0 e1 D5 K5 => ?_⟩
      have pf := ord_fb (C3.ok x hx) (C3.ok y hy) m0 m1 r0 r1 s0 s1 e0 e1
      have hp5 := K5 _ _ hp4 (ref_notin (D4.neL hp4))
      refine ⟨_, rfl, d, c, _, rfl, D5, by decide, by decide, fun w H6 w0 w1 D6 K6 => ⟨_, _, rfl, rfl, _, rfl, ?_⟩⟩
      have hp6 := K6 _ _ hp5 (ref_notin (D5.neL hp5))
      have h6 := K6 _ _ h5 (ref_notin (D5.neT h5))
      refine ite2 (fun _ => ⟨_, rfl, _, rfl, d, c, po, x, y, m, r, s, e, rfl, D6, h6, pf, fun v dt H7 it nv D7 K7 => ?_⟩) (fun _ => ?_)
      · have hp7 := K7 _ _ hp6 (ref_notin (D6.neL hp6))
        obtain ⟨b, says⟩ := item_says it
        refine ⟨_, rfl, noArg ?_⟩
        refine says _ Keep.refl _ _ fun H8 K8 => ?_
        refine ⟨_, rfl, _, _, rfl, it.keep0 K8, _, _, rfl, ?_⟩
        refine ⟨_, rfl, noArg ?_⟩
        refine says _ K8 _ _ fun H9 K9 => ?_
        refine ⟨_, rfl, noArg ?_⟩
        refine says _ (K8.trans K9) _ _ fun H10 K10 => ?_
        refine ⟨by show 2 ≤ sizeLine; decide, fun L hL => ?_⟩
        have K7L := ((K8.trans K9).trans K10).trans (Keep.upd_new (ds := []) hL (o := .lst [V.bl b, V.bl b]))
        have hLL : upd H10 L (.lst [V.bl b, V.bl b]) L = some (.lst [V.bl b, V.bl b]) := upd_same
        generalize upd H10 L (.lst [V.bl b, V.bl b]) = H11 at K7L hLL
        refine ⟨L, rfl, ⟨_, SqL.of hLL⟩, for_list (K := K) (a := L) (xs := [V.bl b, V.bl b]) (fun j σ H12 => H12 = H11 ∧ ∃ v7, σ = [some (.ref a), some (.ref d), some (.ref p), some (.int (0 + i)), some _, some (.bl b), some (.str _), v7]) ⟨rfl, _, rfl⟩ (fun j σ H12 _ ⟨e, _⟩ => e ▸ SqL.of hLL) ?_ ?_⟩
        · rintro j z σ H12 hz ⟨rfl, v7, rfl⟩
          have ez : z = .bl b := by
            have := List.mem_of_getElem? hz
            simpa using this
          subst ez
          refine ⟨_, rfl, _, _, _, _, true, rfl, .ty _, .base (.bl b), kit_ty (by decide +kernel), _, rfl, iteF ?_⟩
          refine ⟨_, rfl, _, rfl, rfl, _, rfl, iteNS rfl ?_⟩
          refine ⟨_, rfl, _, _, rfl, it.keep0 K7L, _, rfl, rfl, _, rfl, iteNS rfl ?_⟩
          exact ⟨rfl, _, rfl⟩
        · rintro σ H12 ⟨rfl, v7, rfl⟩
          exact ⟨_, _, _, _, _, rfl, D7.keep K7L, K7L _ _ hp7 (by simp)⟩
      · obtain ⟨dt, it⟩ : ∃ dt, Item H6 (.ref po) dt := ⟨_, item_flat h6 pf (by show 7 ≤ 10; decide)⟩
        have D7 := D6
        have hp7 := hp6
        obtain ⟨b, says⟩ := item_says it
        refine ⟨_, rfl, noArg ?_⟩
        refine says _ Keep.refl _ _ fun H8 K8 => ?_
        refine ⟨_, rfl, _, _, rfl, it.keep0 K8, _, _, rfl, ?_⟩
        refine ⟨_, rfl, noArg ?_⟩
        refine says _ K8 _ _ fun H9 K9 => ?_
        refine ⟨_, rfl, noArg ?_⟩
        refine says _ (K8.trans K9) _ _ fun H10 K10 => ?_
        refine ⟨by show 2 ≤ sizeLine; decide, fun L hL => ?_⟩
        have K7L := ((K8.trans K9).trans K10).trans (Keep.upd_new (ds := []) hL (o := .lst [V.bl b, V.bl b]))
        have hLL : upd H10 L (.lst [V.bl b, V.bl b]) L = some (.lst [V.bl b, V.bl b]) := upd_same
        generalize upd H10 L (.lst [V.bl b, V.bl b]) = H11 at K7L hLL
        refine ⟨L, rfl, ⟨_, SqL.of hLL⟩, for_list (K := K) (a := L) (xs := [V.bl b, V.bl b]) (fun j σ H12 => H12 = H11 ∧ ∃ v7, σ = [some (.ref a), some (.ref d), some (.ref p), some (.int (0 + i)), some _, some (.bl b), some (.str _), v7]) ⟨rfl, _, rfl⟩ (fun j σ H12 _ ⟨e, _⟩ => e ▸ SqL.of hLL) ?_ ?_⟩
        · rintro j z σ H12 hz ⟨rfl, v7, rfl⟩
          have ez : z = .bl b := by
            have := List.mem_of_getElem? hz
            simpa using this
          subst ez
          refine ⟨_, rfl, _, _, _, _, true, rfl, .ty _, .base (.bl b), kit_ty (by decide +kernel), _, rfl, iteF ?_⟩
          refine ⟨_, rfl, _, rfl, rfl, _, rfl, iteNS rfl ?_⟩
          refine ⟨_, rfl, _, _, rfl, it.keep0 K7L, _, rfl, rfl, _, rfl, iteNS rfl ?_⟩
          exact ⟨rfl, _, rfl⟩
        · rintro σ H12 ⟨rfl, v7, rfl⟩
          exact ⟨_, _, _, _, _, rfl, D7.keep K7L, K7L _ _ hp7 (by simp)⟩
    · rintro σ H4 ⟨v3, v4, v5, v6, v7, rfl, D4, hp4⟩
      exact q H4
end
end My
set_option Elab.async false
set_option maxRecDepth 100000
set_option maxHeartbeats 4000000
namespace My
open PySem L2
section
variable {P : Program} {w : World} {K : PySem.W.Frag} {mg : Str → Option Value}
theorem fin {fa : Addr} (T : Txt K mg) (hmg : mg "law" = some (.ref fa)) : ∃ fd : FuncData, (∀ (s : Shared) (u : Value), BindsTo s fd ⟨[u], []⟩ [("script", u)]) ∧
    ∀ base : Heap, K.In base → base.Ns mainGlobals mg → FnG P w K mg base 6 fa fd ["script"] (sp_law K) := by
  obtain ⟨f, fd, D⟩ := T.d_law
  have e := hmg.symm.trans D.m
  cases e
  refine ⟨fd, fun s u => ?_, fun base _ _ => g_law T D.F⟩
  obtain ⟨oc, od, kV, doc, pm, an, cdv, ct, osl, rfl, lk, hcd⟩ := D.F.ex
  exact .of_eq rfl
end
theorem all_mk {K : PySem.W.Frag} {h : Heap} {mg : Str → Option Value} (X : K.In h) (G : h.Ns mainGlobals mg)
{f0 f1 f2 f3 f4 f5 f6 f7 f8 f9 f10 f11 f12 f13 f14 f15 f16 f17 f18 f19 f20 : Addr} {od0 od1 od2 od3 od4 od5 od6 od7 od8 od9 od10 od11 od12 od13 od14 od15 od16 od17 od18 od19 od20 an0 an1 an2 an3 an4 an5 an6 an7 an8 an9 an10 an11 an12 an13 an14 an15 an16 an17 an18 an19 an20 : Option Addr} {sl0 sl1 sl2 sl3 sl4 sl5 sl6 sl7 sl8 sl9 sl10 sl11 sl12 sl13 sl14 sl15 sl16 sl17 sl18 sl19 sl20 : Array (Option Value)} {oc0 oc1 oc2 oc3 oc4 oc5 oc6 oc7 oc8 oc9 oc10 oc11 oc12 oc13 oc14 oc15 oc16 oc17 oc18 oc19 oc20 kV0 kV1 kV2 kV3 kV4 kV5 kV6 kV7 kV8 kV9 kV10 kV11 kV12 kV13 kV14 kV15 kV16 kV17 kV18 kV19 kV20 dc0 dc1 dc2 dc3 dc4 dc5 dc6 dc7 dc8 dc9 dc10 dc11 dc12 dc13 dc14 dc15 dc16 dc17 dc18 dc19 dc20 pm0 pm1 pm2 pm3 pm4 pm5 pm6 pm7 pm8 pm9 pm10 pm11 pm12 pm13 pm14 pm15 pm16 pm17 pm18 pm19 pm20 cd0 cd1 cd2 cd3 cd4 cd5 cd6 cd7 cd8 cd9 cd10 cd11 cd12 cd13 cd14 cd15 cd16 cd17 cd18 cd19 cd20 ct0 ct1 ct2 ct3 ct4 ct5 ct6 ct7 ct8 ct9 ct10 ct11 ct12 ct13 ct14 ct15 ct16 ct17 ct18 ct19 ct20 : Value}
{t0 t1 t2 t3 : Tok}
(a0 : PySem.W.nsIn K mainGlobals "is_number" = some (some (.ref f0))) (l0 : K.lookup f0 = some ⟨oc0, od0, .func (PySem.W.fnOf "is_number" "is_number" (defArgs s_is_number) (defBody s_is_number) (defScope s_is_number) .none kV0 dc0 pm0 an0 cd0 ct0), sl0⟩) (c0 : PySem.W.codeIn K cd0 "is_number" = true) (k0 : PySem.W.keepIn K (.ref f0) = true)
(a1 : PySem.W.nsIn K mainGlobals "is_count" = some (some (.ref f1))) (l1 : K.lookup f1 = some ⟨oc1, od1, .func (PySem.W.fnOf "is_count" "is_count" (defArgs s_is_count) (defBody s_is_count) (defScope s_is_count) .none kV1 dc1 pm1 an1 cd1 ct1), sl1⟩) (c1 : PySem.W.codeIn K cd1 "is_count" = true) (k1 : PySem.W.keepIn K (.ref f1) = true)
(a2 : PySem.W.nsIn K mainGlobals "is_amount" = some (some (.ref f2))) (l2 : K.lookup f2 = some ⟨oc2, od2, .func (PySem.W.fnOf "is_amount" "is_amount" (defArgs s_is_amount) (defBody s_is_amount) (defScope s_is_amount) .none kV2 dc2 pm2 an2 cd2 ct2), sl2⟩) (c2 : PySem.W.codeIn K cd2 "is_amount" = true) (k2 : PySem.W.keepIn K (.ref f2) = true)
(a3 : PySem.W.nsIn K mainGlobals "is_whole" = some (some (.ref f3))) (l3 : K.lookup f3 = some ⟨oc3, od3, .func (PySem.W.fnOf "is_whole" "is_whole" (defArgs s_is_whole) (defBody s_is_whole) (defScope s_is_whole) .none kV3 dc3 pm3 an3 cd3 ct3), sl3⟩) (c3 : PySem.W.codeIn K cd3 "is_whole" = true) (k3 : PySem.W.keepIn K (.ref f3) = true)
(a4 : PySem.W.nsIn K mainGlobals "is_time" = some (some (.ref f4))) (l4 : K.lookup f4 = some ⟨oc4, od4, .func (PySem.W.fnOf "is_time" "is_time" (defArgs s_is_time) (defBody s_is_time) (defScope s_is_time) .none kV4 dc4 pm4 an4 cd4 ct4), sl4⟩) (c4 : PySem.W.codeIn K cd4 "is_time" = true) (k4 : PySem.W.keepIn K (.ref f4) = true)
(a5 : PySem.W.nsIn K mainGlobals "is_letters" = some (some (.ref f5))) (l5 : K.lookup f5 = some ⟨oc5, od5, .func (PySem.W.fnOf "is_letters" "is_letters" (defArgs s_is_letters) (defBody s_is_letters) (defScope s_is_letters) .none kV5 dc5 pm5 an5 cd5 ct5), sl5⟩) (c5 : PySem.W.codeIn K cd5 "is_letters" = true) (k5 : PySem.W.keepIn K (.ref f5) = true)
(a6 : PySem.W.nsIn K mainGlobals "is_name" = some (some (.ref f6))) (l6 : K.lookup f6 = some ⟨oc6, od6, .func (PySem.W.fnOf "is_name" "is_name" (defArgs s_is_name) (defBody s_is_name) (defScope s_is_name) .none kV6 dc6 pm6 an6 cd6 ct6), sl6⟩) (c6 : PySem.W.codeIn K cd6 "is_name" = true) (k6 : PySem.W.keepIn K (.ref f6) = true)
(a7 : PySem.W.nsIn K mainGlobals "is_order" = some (some (.ref f7))) (l7 : K.lookup f7 = some ⟨oc7, od7, .func (PySem.W.fnOf "is_order" "is_order" (defArgs s_is_order) (defBody s_is_order) (defScope s_is_order) .none kV7 dc7 pm7 an7 cd7 ct7), sl7⟩) (c7 : PySem.W.codeIn K cd7 "is_order" = true) (k7 : PySem.W.keepIn K (.ref f7) = true)
(a8 : PySem.W.nsIn K mainGlobals "_law_begin" = some (some (.ref f8))) (l8 : K.lookup f8 = some ⟨oc8, od8, .func (PySem.W.fnOf "_law_begin" "_law_begin" (defArgs s__law_begin) (defBody s__law_begin) (defScope s__law_begin) .none kV8 dc8 pm8 an8 cd8 ct8), sl8⟩) (c8 : PySem.W.codeIn K cd8 "_law_begin" = true) (k8 : PySem.W.keepIn K (.ref f8) = true)
(a9 : PySem.W.nsIn K mainGlobals "_law_more" = some (some (.ref f9))) (l9 : K.lookup f9 = some ⟨oc9, od9, .func (PySem.W.fnOf "_law_more" "_law_more" (defArgs s__law_more) (defBody s__law_more) (defScope s__law_more) .none kV9 dc9 pm9 an9 cd9 ct9), sl9⟩) (c9 : PySem.W.codeIn K cd9 "_law_more" = true) (k9 : PySem.W.keepIn K (.ref f9) = true)
(a10 : PySem.W.nsIn K mainGlobals "_law_next" = some (some (.ref f10))) (l10 : K.lookup f10 = some ⟨oc10, od10, .func (PySem.W.fnOf "_law_next" "_law_next" (defArgs s__law_next) (defBody s__law_next) (defScope s__law_next) .none kV10 dc10 pm10 an10 cd10 ct10), sl10⟩) (c10 : PySem.W.codeIn K cd10 "_law_next" = true) (k10 : PySem.W.keepIn K (.ref f10) = true)
(a11 : PySem.W.nsIn K mainGlobals "_law_pick" = some (some (.ref f11))) (l11 : K.lookup f11 = some ⟨oc11, od11, .func (PySem.W.fnOf "_law_pick" "_law_pick" (defArgs s__law_pick) (defBody s__law_pick) (defScope s__law_pick) .none kV11 dc11 pm11 an11 cd11 ct11), sl11⟩) (c11 : PySem.W.codeIn K cd11 "_law_pick" = true) (k11 : PySem.W.keepIn K (.ref f11) = true)
(a12 : PySem.W.nsIn K mainGlobals "_law_word" = some (some (.ref f12))) (l12 : K.lookup f12 = some ⟨oc12, od12, .func (PySem.W.fnOf "_law_word" "_law_word" (defArgs s__law_word) (defBody s__law_word) (defScope s__law_word) .none kV12 dc12 pm12 an12 cd12 ct12), sl12⟩) (c12 : PySem.W.codeIn K cd12 "_law_word" = true) (k12 : PySem.W.keepIn K (.ref f12) = true)
(a13 : PySem.W.nsIn K mainGlobals "_law_crew" = some (some (.ref f13))) (l13 : K.lookup f13 = some ⟨oc13, od13, .func (PySem.W.fnOf "_law_crew" "_law_crew" (defArgs s__law_crew) (defBody s__law_crew) (defScope s__law_crew) .none kV13 dc13 pm13 an13 cd13 ct13), sl13⟩) (c13 : PySem.W.codeIn K cd13 "_law_crew" = true) (k13 : PySem.W.keepIn K (.ref f13) = true)
(a14 : PySem.W.nsIn K mainGlobals "_law_amount" = some (some (.ref f14))) (l14 : K.lookup f14 = some ⟨oc14, od14, .func (PySem.W.fnOf "_law_amount" "_law_amount" (defArgs s__law_amount) (defBody s__law_amount) (defScope s__law_amount) .none kV14 dc14 pm14 an14 cd14 ct14), sl14⟩) (c14 : PySem.W.codeIn K cd14 "_law_amount" = true) (k14 : PySem.W.keepIn K (.ref f14) = true)
(a15 : PySem.W.nsIn K mainGlobals "_law_one" = some (some (.ref f15))) (l15 : K.lookup f15 = some ⟨oc15, od15, .func (PySem.W.fnOf "_law_one" "_law_one" (defArgs s__law_one) (defBody s__law_one) (defScope s__law_one) .none kV15 dc15 pm15 an15 cd15 ct15), sl15⟩) (c15 : PySem.W.codeIn K cd15 "_law_one" = true) (k15 : PySem.W.keepIn K (.ref f15) = true)
(a16 : PySem.W.nsIn K mainGlobals "_law_is_name" = some (some (.ref f16))) (l16 : K.lookup f16 = some ⟨oc16, od16, .func (PySem.W.fnOf "_law_is_name" "_law_is_name" (defArgs s__law_is_name) (defBody s__law_is_name) (defScope s__law_is_name) .none kV16 dc16 pm16 an16 cd16 ct16), sl16⟩) (c16 : PySem.W.codeIn K cd16 "_law_is_name" = true) (k16 : PySem.W.keepIn K (.ref f16) = true)
(a17 : PySem.W.nsIn K mainGlobals "_law_is_number" = some (some (.ref f17))) (l17 : K.lookup f17 = some ⟨oc17, od17, .func (PySem.W.fnOf "_law_is_number" "_law_is_number" (defArgs s__law_is_number) (defBody s__law_is_number) (defScope s__law_is_number) .none kV17 dc17 pm17 an17 cd17 ct17), sl17⟩) (c17 : PySem.W.codeIn K cd17 "_law_is_number" = true) (k17 : PySem.W.keepIn K (.ref f17) = true)
(a18 : PySem.W.nsIn K mainGlobals "_law_due" = some (some (.ref f18))) (l18 : K.lookup f18 = some ⟨oc18, od18, .func (PySem.W.fnOf "_law_due" "_law_due" (defArgs s__law_due) (defBody s__law_due) (defScope s__law_due) .none kV18 dc18 pm18 an18 cd18 ct18), sl18⟩) (c18 : PySem.W.codeIn K cd18 "_law_due" = true) (k18 : PySem.W.keepIn K (.ref f18) = true)
(a19 : PySem.W.nsIn K mainGlobals "_law_otherwise" = some (some (.ref f19))) (l19 : K.lookup f19 = some ⟨oc19, od19, .func (PySem.W.fnOf "_law_otherwise" "_law_otherwise" (defArgs s__law_otherwise) (defBody s__law_otherwise) (defScope s__law_otherwise) .none kV19 dc19 pm19 an19 cd19 ct19), sl19⟩) (c19 : PySem.W.codeIn K cd19 "_law_otherwise" = true) (k19 : PySem.W.keepIn K (.ref f19) = true)
(a20 : PySem.W.nsIn K mainGlobals "law" = some (some (.ref f20))) (l20 : K.lookup f20 = some ⟨oc20, od20, .func (PySem.W.fnOf "law" "law" (defArgs s_law) (defBody s_law) (defScope s_law) .none kV20 dc20 pm20 an20 cd20 ct20), sl20⟩) (c20 : PySem.W.codeIn K cd20 "law" = true) (k20 : PySem.W.keepIn K (.ref f20) = true)
(z_list : PySem.W.nsIn K mainGlobals "list" = some none)
(z_range : PySem.W.nsIn K mainGlobals "range" = some none)
(z_len : PySem.W.nsIn K mainGlobals "len" = some none)
(z_min : PySem.W.nsIn K mainGlobals "min" = some none)
(z_isinstance : PySem.W.nsIn K mainGlobals "isinstance" = some none)
(z_bool : PySem.W.nsIn K mainGlobals "bool" = some none)
(z_int : PySem.W.nsIn K mainGlobals "int" = some none)
(z_tuple : PySem.W.nsIn K mainGlobals "tuple" = some none)
(z_str : PySem.W.nsIn K mainGlobals "str" = some none)
(z_repr : PySem.W.nsIn K mainGlobals "repr" = some none)
(z_all : PySem.W.nsIn K mainGlobals "all" = some none)
(gc0 : PySem.W.nsIn K mainGlobals "LETTERS" = some (some (Value.str "abcdefghijklmnopqrstuvwxyz" t0)))
(gc1 : PySem.W.nsIn K mainGlobals "LONGEST" = some (some (Value.int 8 t1)))
(gc2 : PySem.W.nsIn K mainGlobals "MOST" = some (some (Value.int 1000000000 t2)))
(gc3 : PySem.W.nsIn K mainGlobals "TOP_RANK" = some (some (Value.int 9 t3)))
: Txt K mg := by
  have F0 := fun_mk (st := s_is_number) l0 c0 k0
  have b0 := F0.binds (ps := ["thing"]) fun _ _ _ _ _ _ us hl => match us, hl with | [_], _ => rfl
  have F1 := fun_mk (st := s_is_count) l1 c1 k1
  have b1 := F1.binds (ps := ["thing"]) fun _ _ _ _ _ _ us hl => match us, hl with | [_], _ => rfl
  have F2 := fun_mk (st := s_is_amount) l2 c2 k2
  have b2 := F2.binds (ps := ["thing"]) fun _ _ _ _ _ _ us hl => match us, hl with | [_], _ => rfl
  have F3 := fun_mk (st := s_is_whole) l3 c3 k3
  have b3 := F3.binds (ps := ["thing"]) fun _ _ _ _ _ _ us hl => match us, hl with | [_], _ => rfl
  have F4 := fun_mk (st := s_is_time) l4 c4 k4
  have b4 := F4.binds (ps := ["thing"]) fun _ _ _ _ _ _ us hl => match us, hl with | [_], _ => rfl
  have F5 := fun_mk (st := s_is_letters) l5 c5 k5
  have b5 := F5.binds (ps := ["thing", "longest"]) fun _ _ _ _ _ _ us hl => match us, hl with | [_, _], _ => rfl
  have F6 := fun_mk (st := s_is_name) l6 c6 k6
  have b6 := F6.binds (ps := ["thing"]) fun _ _ _ _ _ _ us hl => match us, hl with | [_], _ => rfl
  have F7 := fun_mk (st := s_is_order) l7 c7 k7
  have b7 := F7.binds (ps := ["thing"]) fun _ _ _ _ _ _ us hl => match us, hl with | [_], _ => rfl
  have F8 := fun_mk (st := s__law_begin) l8 c8 k8
  have b8 := F8.binds (ps := ["script"]) fun _ _ _ _ _ _ us hl => match us, hl with | [_], _ => rfl
  have F9 := fun_mk (st := s__law_more) l9 c9 k9
  have b9 := F9.binds (ps := ["state"]) fun _ _ _ _ _ _ us hl => match us, hl with | [_], _ => rfl
  have F10 := fun_mk (st := s__law_next) l10 c10 k10
  have b10 := F10.binds (ps := ["state", "many"]) fun _ _ _ _ _ _ us hl => match us, hl with | [_, _], _ => rfl
  have F11 := fun_mk (st := s__law_pick) l11 c11 k11
  have b11 := F11.binds (ps := ["state", "some"]) fun _ _ _ _ _ _ us hl => match us, hl with | [_, _], _ => rfl
  have F12 := fun_mk (st := s__law_word) l12 c12 k12
  have b12 := F12.binds (ps := ["state"]) fun _ _ _ _ _ _ us hl => match us, hl with | [_], _ => rfl
  have F13 := fun_mk (st := s__law_crew) l13 c13 k13
  have b13 := F13.binds (ps := ["state", "many"]) fun _ _ _ _ _ _ us hl => match us, hl with | [_, _], _ => rfl
  have F14 := fun_mk (st := s__law_amount) l14 c14 k14
  have b14 := F14.binds (ps := ["state"]) fun _ _ _ _ _ _ us hl => match us, hl with | [_], _ => rfl
  have F15 := fun_mk (st := s__law_one) l15 c15 k15
  have b15 := F15.binds (ps := ["state", "crew"]) fun _ _ _ _ _ _ us hl => match us, hl with | [_, _], _ => rfl
  have F16 := fun_mk (st := s__law_is_name) l16 c16 k16
  have b16 := F16.binds (ps := ["item"]) fun _ _ _ _ _ _ us hl => match us, hl with | [_], _ => rfl
  have F17 := fun_mk (st := s__law_is_number) l17 c17 k17
  have b17 := F17.binds (ps := ["item", "low", "high"]) fun _ _ _ _ _ _ us hl => match us, hl with | [_, _, _], _ => rfl
  have F18 := fun_mk (st := s__law_due) l18 c18 k18
  have b18 := F18.binds (ps := ["item"]) fun _ _ _ _ _ _ us hl => match us, hl with | [_], _ => rfl
  have F19 := fun_mk (st := s__law_otherwise) l19 c19 k19
  have b19 := F19.binds (ps := ["state", "item"]) fun _ _ _ _ _ _ us hl => match us, hl with | [_, _], _ => rfl
  have F20 := fun_mk (st := s_law) l20 c20 k20
  have b20 := F20.binds (ps := ["script"]) fun _ _ _ _ _ _ us hl => match us, hl with | [_], _ => rfl
  exact ⟨⟨f0, _, F0, PySem.W.mg_of X G a0, b0⟩,
    ⟨f1, _, F1, PySem.W.mg_of X G a1, b1⟩,
    ⟨f2, _, F2, PySem.W.mg_of X G a2, b2⟩,
    ⟨f3, _, F3, PySem.W.mg_of X G a3, b3⟩,
    ⟨f4, _, F4, PySem.W.mg_of X G a4, b4⟩,
    ⟨f5, _, F5, PySem.W.mg_of X G a5, b5⟩,
    ⟨f6, _, F6, PySem.W.mg_of X G a6, b6⟩,
    ⟨f7, _, F7, PySem.W.mg_of X G a7, b7⟩,
    ⟨f8, _, F8, PySem.W.mg_of X G a8, b8⟩,
    ⟨f9, _, F9, PySem.W.mg_of X G a9, b9⟩,
    ⟨f10, _, F10, PySem.W.mg_of X G a10, b10⟩,
    ⟨f11, _, F11, PySem.W.mg_of X G a11, b11⟩,
    ⟨f12, _, F12, PySem.W.mg_of X G a12, b12⟩,
    ⟨f13, _, F13, PySem.W.mg_of X G a13, b13⟩,
    ⟨f14, _, F14, PySem.W.mg_of X G a14, b14⟩,
    ⟨f15, _, F15, PySem.W.mg_of X G a15, b15⟩,
    ⟨f16, _, F16, PySem.W.mg_of X G a16, b16⟩,
    ⟨f17, _, F17, PySem.W.mg_of X G a17, b17⟩,
    ⟨f18, _, F18, PySem.W.mg_of X G a18, b18⟩,
    ⟨f19, _, F19, PySem.W.mg_of X G a19, b19⟩,
    ⟨f20, _, F20, PySem.W.mg_of X G a20, b20⟩,
    PySem.W.mg_none_of X G z_list,
    PySem.W.mg_none_of X G z_range,
    PySem.W.mg_none_of X G z_len,
    PySem.W.mg_none_of X G z_min,
    PySem.W.mg_none_of X G z_isinstance,
    PySem.W.mg_none_of X G z_bool,
    PySem.W.mg_none_of X G z_int,
    PySem.W.mg_none_of X G z_tuple,
    PySem.W.mg_none_of X G z_str,
    PySem.W.mg_none_of X G z_repr,
    PySem.W.mg_none_of X G z_all,
    ⟨t0, PySem.W.mg_of X G gc0⟩,
    ⟨t1, PySem.W.mg_of X G gc1⟩,
    ⟨t2, PySem.W.mg_of X G gc2⟩,
    ⟨t3, PySem.W.mg_of X G gc3⟩⟩
end My
open PySem PySem.W PyProof.Rows
set_option maxRecDepth 100000 in
set_option maxHeartbeats 0 in
theorem PySem.Challenge.cw_clearyard_k12_what_is_an_order_holds : PySem.Challenge.rw_clearyard_k12_what_is_an_order.Holds := by
  w_on; o_law; k_head; (case hw => w_witness2)
  k_fill
  refine My.walkG (l := PySem.Challenge.rw_clearyard_k12_what_is_an_order) (n := 63) (k := 6) (x := "script") (sp := My.sp_law) rfl (by decide) rfl ⟨rfl, by decide, by decide⟩ (fun w h Y => PySem.W.kIn_of Y) ?F (fun K H a ns hl hS => ⟨a, ns, rfl, hS, hl, fun _ => rfl⟩)
  case F =>
    intro w mg fa h KX G hmg
    refine My.fin ?T hmg
    refine' My.all_mk KX G ?a0 ?l0 ?c0 ?k0 ?a1 ?l1 ?c1 ?k1 ?a2 ?l2 ?c2 ?k2 ?a3 ?l3 ?c3 ?k3 ?a4 ?l4 ?c4 ?k4 ?a5 ?l5 ?c5 ?k5 ?a6 ?l6 ?c6 ?k6 ?a7 ?l7 ?c7 ?k7 ?a8 ?l8 ?c8 ?k8 ?a9 ?l9 ?c9 ?k9 ?a10 ?l10 ?c10 ?k10 ?a11 ?l11 ?c11 ?k11 ?a12 ?l12 ?c12 ?k12 ?a13 ?l13 ?c13 ?k13 ?a14 ?l14 ?c14 ?k14 ?a15 ?l15 ?c15 ?k15 ?a16 ?l16 ?c16 ?k16 ?a17 ?l17 ?c17 ?k17 ?a18 ?l18 ?c18 ?k18 ?a19 ?l19 ?c19 ?k19 ?a20 ?l20 ?c20 ?k20 ?z_list ?z_range ?z_len ?z_min ?z_isinstance ?z_bool ?z_int ?z_tuple ?z_str ?z_repr ?z_all ?gc0 ?gc1 ?gc2 ?gc3
    (case a0 => k_is); (case l0 => k_is); (case c0 => k_is); (case k0 => k_is); (case a1 => k_is); (case l1 => k_is)
    (case c1 => k_is); (case k1 => k_is); (case a2 => k_is); (case l2 => k_is); (case c2 => k_is); (case k2 => k_is)
    (case a3 => k_is); (case l3 => k_is); (case c3 => k_is); (case k3 => k_is); (case a4 => k_is); (case l4 => k_is)
    (case c4 => k_is); (case k4 => k_is); (case a5 => k_is); (case l5 => k_is); (case c5 => k_is); (case k5 => k_is)
    (case a6 => k_is); (case l6 => k_is); (case c6 => k_is); (case k6 => k_is); (case a7 => k_is); (case l7 => k_is)
    (case c7 => k_is); (case k7 => k_is); (case a8 => k_is); (case l8 => k_is); (case c8 => k_is); (case k8 => k_is)
    (case a9 => k_is); (case l9 => k_is); (case c9 => k_is); (case k9 => k_is); (case a10 => k_is); (case l10 => k_is)
    (case c10 => k_is); (case k10 => k_is); (case a11 => k_is); (case l11 => k_is); (case c11 => k_is); (case k11 => k_is)
    (case a12 => k_is); (case l12 => k_is); (case c12 => k_is); (case k12 => k_is); (case a13 => k_is); (case l13 => k_is)
    (case c13 => k_is); (case k13 => k_is); (case a14 => k_is); (case l14 => k_is); (case c14 => k_is); (case k14 => k_is)
    (case a15 => k_is); (case l15 => k_is); (case c15 => k_is); (case k15 => k_is); (case a16 => k_is); (case l16 => k_is)
    (case c16 => k_is); (case k16 => k_is); (case a17 => k_is); (case l17 => k_is); (case c17 => k_is); (case k17 => k_is)
    (case a18 => k_is); (case l18 => k_is); (case c18 => k_is); (case k18 => k_is); (case a19 => k_is); (case l19 => k_is)
    (case c19 => k_is); (case k19 => k_is); (case a20 => k_is); (case l20 => k_is); (case c20 => k_is); (case k20 => k_is)
    (case z_list => k_is); (case z_range => k_is); (case z_len => k_is); (case z_min => k_is); (case z_isinstance => k_is); (case z_bool => k_is)
    (case z_int => k_is); (case z_tuple => k_is); (case z_str => k_is); (case z_repr => k_is); (case z_all => k_is); (case gc0 => k_is)
    (case gc1 => k_is); (case gc2 => k_is); (case gc3 => k_is)
