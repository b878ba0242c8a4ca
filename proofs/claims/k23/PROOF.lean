import PyProof.Rows.All
import Wide.All
import OpenK.AllK
import Wide.FinOn
import HandS.ForMost
import HandS.Wide
import HandS.IsInst
import HandS.Conv
import HandS.Zip
import HandS.Deep
import HandS.Star
import HandS.SetKeys
import HandS.More
import HandS.SetFor
import HandS.TupAny
import HandS.Walk
import PyProof.NeKinds
import PyProof.NeData
import KE.KEqDict
import KE.GoesEnum
import KE.GoesMore
import PyProof.WalkInts
import HandS.SortKw
import KE.KDictList
import HandS.Sort
import KE.KDictPairs
import HandS.Strs
import HandS.SetTxt0
import HandS.TupLe
import HandS.DictComp
import PySem.Challenge.RW_clearyard_k23_whole_any_way_to_the_great
set_option Elab.async false
set_option maxRecDepth 100000
set_option maxHeartbeats 4000000
namespace My
open PySem L2
def top (i : Nat) : Stmt := PySem.Challenge.pw_clearyard_k23_whole_any_way_to_the_great.main.body.getD i (.Pass ⟨0, 0, 0, 0⟩)
abbrev s_is_number : Stmt := top 7
abbrev N_is_number : List Str := ["thing"]
theorem sc_is_number : FnScope N_is_number ["thing"] (defScope s_is_number) := ⟨rfl, rfl, rfl, by decide +kernel, rfl, by decide +kernel, by decide +kernel⟩
abbrev s_is_count : Stmt := top 8
abbrev N_is_count : List Str := ["thing"]
theorem sc_is_count : FnScope N_is_count ["thing"] (defScope s_is_count) := ⟨rfl, rfl, rfl, by decide +kernel, rfl, by decide +kernel, by decide +kernel⟩
abbrev s_is_amount : Stmt := top 9
abbrev N_is_amount : List Str := ["thing"]
theorem sc_is_amount : FnScope N_is_amount ["thing"] (defScope s_is_amount) := ⟨rfl, rfl, rfl, by decide +kernel, rfl, by decide +kernel, by decide +kernel⟩
abbrev s_is_whole : Stmt := top 10
abbrev N_is_whole : List Str := ["thing"]
theorem sc_is_whole : FnScope N_is_whole ["thing"] (defScope s_is_whole) := ⟨rfl, rfl, rfl, by decide +kernel, rfl, by decide +kernel, by decide +kernel⟩
abbrev s_is_time : Stmt := top 11
abbrev N_is_time : List Str := ["thing"]
theorem sc_is_time : FnScope N_is_time ["thing"] (defScope s_is_time) := ⟨rfl, rfl, rfl, by decide +kernel, rfl, by decide +kernel, by decide +kernel⟩
abbrev s_is_letters : Stmt := top 12
abbrev N_is_letters : List Str := ["thing", "longest", "sign"]
theorem sc_is_letters : FnScope N_is_letters ["thing", "longest"] (defScope s_is_letters) := ⟨rfl, rfl, rfl, by decide +kernel, rfl, by decide +kernel, by decide +kernel⟩
abbrev s_is_name : Stmt := top 13
abbrev N_is_name : List Str := ["thing"]
theorem sc_is_name : FnScope N_is_name ["thing"] (defScope s_is_name) := ⟨rfl, rfl, rfl, by decide +kernel, rfl, by decide +kernel, by decide +kernel⟩
abbrev s_is_list : Stmt := top 14
abbrev N_is_list : List Str := ["thing"]
theorem sc_is_list : FnScope N_is_list ["thing"] (defScope s_is_list) := ⟨rfl, rfl, rfl, by decide +kernel, rfl, by decide +kernel, by decide +kernel⟩
abbrev s_is_order : Stmt := top 17
abbrev N_is_order : List Str := ["thing", "word", "payer", "payee", "amount", "rank", "begin", "until"]
theorem sc_is_order : FnScope N_is_order ["thing"] (defScope s_is_order) := ⟨rfl, rfl, rfl, by decide +kernel, rfl, by decide +kernel, by decide +kernel⟩
abbrev s_look_at_round : Stmt := top 18
abbrev N_look_at_round : List Str := ["free", "orders", "most", "name", "number", "order"]
theorem sc_look_at_round : FnScope N_look_at_round ["free", "orders", "most"] (defScope s_look_at_round) := ⟨rfl, rfl, rfl, by decide +kernel, rfl, by decide +kernel, by decide +kernel⟩
abbrev s_greatest : Stmt := top 21
abbrev N_greatest : List Str := ["free", "orders", "have", "left", "paper", "below", "place", "places"]
theorem sc_greatest : FnScope N_greatest ["free", "orders"] (defScope s_greatest) := ⟨rfl, rfl, rfl, by decide +kernel, rfl, by decide +kernel, by decide +kernel⟩
abbrev s_have_by_all : Stmt := top 22
abbrev N_have_by_all : List Str := ["free", "orders", "have", "order", "payer", "payee", "amount"]
theorem sc_have_by_all : FnScope N_have_by_all ["free", "orders"] (defScope s_have_by_all) := ⟨rfl, rfl, rfl, by decide +kernel, rfl, by decide +kernel, by decide +kernel⟩
abbrev s__places_by_payer : Stmt := top 23
abbrev N__places_by_payer : List Str := ["orders", "left", "place", "order"]
theorem sc__places_by_payer : FnScope N__places_by_payer ["orders"] (defScope s__places_by_payer) := ⟨rfl, rfl, rfl, by decide +kernel, rfl, by decide +kernel, by decide +kernel⟩
abbrev s_first_below : Stmt := top 24
abbrev N_first_below : List Str := ["have", "name", "number"]
theorem sc_first_below : FnScope N_first_below ["have"] (defScope s_first_below) := ⟨rfl, rfl, rfl, by decide +kernel, rfl, by decide +kernel, by decide +kernel⟩
abbrev s__undo : Stmt := top 25
abbrev N__undo : List Str := ["have", "order", "payer", "payee", "amount"]
theorem sc__undo : FnScope N__undo ["have", "order"] (defScope s__undo) := ⟨rfl, rfl, rfl, by decide +kernel, rfl, by decide +kernel, by decide +kernel⟩
abbrev s__law_begin : Stmt := top 27
abbrev N__law_begin : List Str := ["script", "mixed", "cell"]
theorem sc__law_begin : FnScope N__law_begin ["script"] (defScope s__law_begin) := ⟨rfl, rfl, rfl, by decide +kernel, rfl, by decide +kernel, by decide +kernel⟩
abbrev s__law_more : Stmt := top 28
abbrev N__law_more : List Str := ["state", "k", "cell", "one", "two", "three"]
theorem sc__law_more : FnScope N__law_more ["state"] (defScope s__law_more) := ⟨rfl, rfl, rfl, by decide +kernel, rfl, by decide +kernel, by decide +kernel⟩
abbrev s__law_next : Stmt := top 29
abbrev N__law_next : List Str := ["state", "many", "found"]
theorem sc__law_next : FnScope N__law_next ["state", "many"] (defScope s__law_next) := ⟨rfl, rfl, rfl, by decide +kernel, rfl, by decide +kernel, by decide +kernel⟩
abbrev s__law_pick : Stmt := top 30
abbrev N__law_pick : List Str := ["state", "some"]
theorem sc__law_pick : FnScope N__law_pick ["state", "some"] (defScope s__law_pick) := ⟨rfl, rfl, rfl, by decide +kernel, rfl, by decide +kernel, by decide +kernel⟩
abbrev s__law_word : Stmt := top 31
abbrev N__law_word : List Str := ["state", "letters", "own", "size", "turn"]
theorem sc__law_word : FnScope N__law_word ["state"] (defScope s__law_word) := ⟨rfl, rfl, rfl, by decide +kernel, rfl, by decide +kernel, by decide +kernel⟩
abbrev s__law_crew : Stmt := top 32
abbrev N__law_crew : List Str := ["state", "many", "found", "turn", "word", "spare", "sign", "one"]
theorem sc__law_crew : FnScope N__law_crew ["state", "many"] (defScope s__law_crew) := ⟨rfl, rfl, rfl, by decide +kernel, rfl, by decide +kernel, by decide +kernel⟩
abbrev s__law_amount : Stmt := top 33
abbrev N__law_amount : List Str := ["state", "way"]
theorem sc__law_amount : FnScope N__law_amount ["state"] (defScope s__law_amount) := ⟨rfl, rfl, rfl, by decide +kernel, rfl, by decide +kernel, by decide +kernel⟩
abbrev s__law_one : Stmt := top 34
abbrev N__law_one : List Str := ["state", "crew", "one", "other", "start", "name"]
theorem sc__law_one : FnScope N__law_one ["state", "crew"] (defScope s__law_one) := ⟨rfl, rfl, rfl, by decide +kernel, rfl, by decide +kernel, by decide +kernel⟩
abbrev s__law_lot : Stmt := top 35
abbrev N__law_lot : List Str := ["state", "crew", "many", "small", "found", "turn", "one"]
theorem sc__law_lot : FnScope N__law_lot ["state", "crew", "many"] (defScope s__law_lot) := ⟨rfl, rfl, rfl, by decide +kernel, rfl, by decide +kernel, by decide +kernel⟩
abbrev s__law_means : Stmt := top 36
abbrev N__law_means : List Str := ["state", "crew", "found", "name", "way"]
theorem sc__law_means : FnScope N__law_means ["state", "crew"] (defScope s__law_means) := ⟨rfl, rfl, rfl, by decide +kernel, rfl, by decide +kernel, by decide +kernel⟩
abbrev s__law_behind : Stmt := top 37
abbrev N__law_behind : List Str := ["means", "lot", "places", "found", "place"]
theorem sc__law_behind : FnScope N__law_behind ["means", "lot", "places"] (defScope s__law_behind) := ⟨rfl, rfl, rfl, by decide +kernel, rfl, by decide +kernel, by decide +kernel⟩
abbrev s__law_firsts : Stmt := top 40
abbrev N__law_firsts : List Str := ["lot", "left", "counts", "found", "more", "place"]
theorem sc__law_firsts : FnScope N__law_firsts ["lot", "left", "counts"] (defScope s__law_firsts) := ⟨rfl, rfl, rfl, by decide +kernel, rfl, by decide +kernel, by decide +kernel⟩
abbrev s__law_some : Stmt := top 41
abbrev N__law_some : List Str := ["state", "means", "lot", "left", "payers", "way", "counts", "name", "part", "some", "found", "place", "at"]
theorem sc__law_some : FnScope N__law_some ["state", "means", "lot", "left"] (defScope s__law_some) := ⟨rfl, rfl, rfl, by decide +kernel, rfl, by decide +kernel, by decide +kernel⟩
abbrev s__law_lacks : Stmt := top 42
abbrev N__law_lacks : List Str := ["means", "lot", "behind", "name"]
theorem sc__law_lacks : FnScope N__law_lacks ["means", "lot"] (defScope s__law_lacks) := ⟨rfl, rfl, rfl, by decide +kernel, rfl, by decide +kernel, by decide +kernel⟩
abbrev s_law : Stmt := top 43
abbrev N_law : List Str := ["script", "state", "crew", "lot", "means", "due", "have", "left", "settled", "turn", "some", "last", "lacks", "full", "name", "less", "at", "place"]
theorem sc_law : FnScope N_law ["script"] (defScope s_law) := ⟨rfl, rfl, rfl, by decide +kernel, rfl, by decide +kernel, by decide +kernel⟩
/-- a def of the text as the top has left it -/
structure DefAt (K : PySem.W.Frag) (mg : Str → Option Value) (x : Str) (st : Stmt) (ps : List Str) (f : Addr) (fd : FuncData) : Prop where
  F : Fun K x x st f fd
  m : mg x = some (.ref f)
  b : Binds K fd ps []
def Pr (P : Program) (w : World) (K : PySem.W.Frag) (mg : Str → Option Value) (base : Heap) (x : Str) (st : Stmt) (ps : List Str) (k : Nat) (sp : Sp) : Prop :=
  ∃ (f : Addr) (fd : FuncData), DefAt K mg x st ps f fd ∧ FnOk P w K mg base CX0 k f fd ps sp
structure Txt (K : PySem.W.Frag) (mg : Str → Option Value) : Prop where
  d_is_number : ∃ f fd, DefAt K mg "is_number" s_is_number ["thing"] f fd
  d_is_count : ∃ f fd, DefAt K mg "is_count" s_is_count ["thing"] f fd
  d_is_amount : ∃ f fd, DefAt K mg "is_amount" s_is_amount ["thing"] f fd
  d_is_whole : ∃ f fd, DefAt K mg "is_whole" s_is_whole ["thing"] f fd
  d_is_time : ∃ f fd, DefAt K mg "is_time" s_is_time ["thing"] f fd
  d_is_letters : ∃ f fd, DefAt K mg "is_letters" s_is_letters ["thing", "longest"] f fd
  d_is_name : ∃ f fd, DefAt K mg "is_name" s_is_name ["thing"] f fd
  d_is_list : ∃ f fd, DefAt K mg "is_list" s_is_list ["thing"] f fd
  d_is_order : ∃ f fd, DefAt K mg "is_order" s_is_order ["thing"] f fd
  d_look_at_round : ∃ f fd, DefAt K mg "look_at_round" s_look_at_round ["free", "orders", "most"] f fd
  d_greatest : ∃ f fd, DefAt K mg "greatest" s_greatest ["free", "orders"] f fd
  d_have_by_all : ∃ f fd, DefAt K mg "have_by_all" s_have_by_all ["free", "orders"] f fd
  d__places_by_payer : ∃ f fd, DefAt K mg "_places_by_payer" s__places_by_payer ["orders"] f fd
  d_first_below : ∃ f fd, DefAt K mg "first_below" s_first_below ["have"] f fd
  d__undo : ∃ f fd, DefAt K mg "_undo" s__undo ["have", "order"] f fd
  d__law_begin : ∃ f fd, DefAt K mg "_law_begin" s__law_begin ["script"] f fd
  d__law_more : ∃ f fd, DefAt K mg "_law_more" s__law_more ["state"] f fd
  d__law_next : ∃ f fd, DefAt K mg "_law_next" s__law_next ["state", "many"] f fd
  d__law_pick : ∃ f fd, DefAt K mg "_law_pick" s__law_pick ["state", "some"] f fd
  d__law_word : ∃ f fd, DefAt K mg "_law_word" s__law_word ["state"] f fd
  d__law_crew : ∃ f fd, DefAt K mg "_law_crew" s__law_crew ["state", "many"] f fd
  d__law_amount : ∃ f fd, DefAt K mg "_law_amount" s__law_amount ["state"] f fd
  d__law_one : ∃ f fd, DefAt K mg "_law_one" s__law_one ["state", "crew"] f fd
  d__law_lot : ∃ f fd, DefAt K mg "_law_lot" s__law_lot ["state", "crew", "many"] f fd
  d__law_means : ∃ f fd, DefAt K mg "_law_means" s__law_means ["state", "crew"] f fd
  d__law_behind : ∃ f fd, DefAt K mg "_law_behind" s__law_behind ["means", "lot", "places"] f fd
  d__law_firsts : ∃ f fd, DefAt K mg "_law_firsts" s__law_firsts ["lot", "left", "counts"] f fd
  d__law_some : ∃ f fd, DefAt K mg "_law_some" s__law_some ["state", "means", "lot", "left"] f fd
  d__law_lacks : ∃ f fd, DefAt K mg "_law_lacks" s__law_lacks ["means", "lot"] f fd
  d_law : ∃ f fd, DefAt K mg "law" s_law ["script"] f fd
  z_list : mg "list" = none
  z_range : mg "range" = none
  z_len : mg "len" = none
  z_all : mg "all" = none
  z_isinstance : mg "isinstance" = none
  z_dict : mg "dict" = none
  z_tuple : mg "tuple" = none
  z_int : mg "int" = none
  z_bool : mg "bool" = none
  z_str : mg "str" = none
  z_enumerate : mg "enumerate" = none
  z_sorted : mg "sorted" = none
  z_set : mg "set" = none
  z_min : mg "min" = none
  g_LETTERS : ∃ t, mg "LETTERS" = some (Value.str "abcdefghijklmnopqrstuvwxyz" t)
  g_LONGEST : ∃ t, mg "LONGEST" = some (Value.int 8 t)
  g_MOST : ∃ t, mg "MOST" = some (Value.int 1000000000 t)
  g_TOP_RANK : ∃ t, mg "TOP_RANK" = some (Value.int 9 t)
  g_MOST_ORDERS : ∃ t, mg "MOST_ORDERS" = some (Value.int 60 t)
end My
set_option Elab.async false
set_option maxRecDepth 100000
set_option maxHeartbeats 4000000
namespace My
open PySem L2
/-! the heap -/
/-- all that stands stays, but for what stands at one of ds -/
def Keep (ds : List Addr) (H H' : Hp) : Prop := ∀ b o, H b = some o → b ∉ ds → H' b = some o
theorem Keep.refl {ds H} : Keep ds H H := fun _ _ h _ => h
theorem Keep.trans {ds H H1 H2} (a : Keep ds H H1) (b : Keep ds H1 H2) : Keep ds H H2 := fun x o h n => b x o (a x o h n) n
theorem Keep.mono {ds es H H1} (a : Keep ds H H1) (s : ∀ x ∈ ds, x ∈ es) : Keep es H H1 := fun x o h n => a x o h fun q => n (s x q)
theorem Keep.upd_new {ds H p o} (h : H p = none) : Keep ds H (upd H p o) := fun b u e _ => by rw [upd_ne (ne_of_none e h)]; exact e
theorem Keep.upd_in {ds : List Addr} {H p o} (h : p ∈ ds) : Keep ds H (upd H p o) := fun b u e n => by
  rw [upd_ne (fun q => n (by rw [q]; exact h))]; exact e
theorem Keep.of_same {ds H H1} (h : Same H H1) : Keep ds H H1 := fun b o e _ => h b o e
theorem Keep.same {H H1} (h : Keep [] H H1) : Same H H1 := fun b o e => h b o e (by simp)

theorem mod_small {a b : Int} (h0 : 0 < b) (h1 : b < 2 ^ 64) : -(2 ^ 64) < a % b ∧ a % b < 2 ^ 64 := by
  have e1 := Int.emod_nonneg a (show b ≠ 0 by omega)
  have e2 := Int.emod_lt_of_pos a h0
  omega
/-! the rules that name the written part, for a comprehension's block -/
section
variable {X : Cx} {K : PySem.W.Frag}
theorem op_notIn_seqK (e : X.K = K) : OpR X (compareOp .NotIn) (rIn K true) := e ▸ op_notIn_seq
theorem op_in_seqK (e : X.K = K) : OpR X (compareOp .In) (rIn K false) := e ▸ op_in_seq
theorem ix_listK (e : X.K = K) : IxR X (rIxL K) := e ▸ ix_list
theorem ix_tupK (e : X.K = K) : IxR X (rIxT K) := e ▸ ix_tup
theorem ix_seqK (e : X.K = K) : IxR X (rIx K) := e ▸ ix_seq
theorem call_isiK2 (e : X.K = K) : CallR X (.builtin "isinstance") (rIsi K) := e ▸ call_isi
end
/-! dicts by texts -/
theorem valV_hd {k : Str} {v : V} {r : List (Key × V)} : valV ((Sum.inr k, v) :: r) (Sum.inr k) = some v := by
  unfold valV; simp
theorem valV_tl {k j : Str} {v : V} {r : List (Key × V)} (h : ¬ j = k) : valV ((Sum.inr j, v) :: r) (Sum.inr k : Key) = valV r (Sum.inr k) := by
  unfold valV
  rw [List.find?_cons_of_neg]
  simpa using h

theorem DGetS {H : Hp} {a : Addr} {kvs : List (Key × V)} {k : Str} {v : V} (e : H a = some (.dK kvs)) (h : valV kvs (Sum.inr k) = some v) : DGet H a (.str k) (some v) := h ▸ DGet.k (k := Sum.inr k) e
theorem DPutS {H : Hp} {a : Addr} {kvs : List (Key × V)} {k : Str} {v : V} (e : H a = some (.dK kvs)) (hl : kvs.length < sizeLine) : DPut H a (.str k) v (upd H a (.dK (putK kvs (Sum.inr k) v))) := DPut.k (k := Sum.inr k) e hl
theorem atI_of {α : Type} {xs : List α} {i : Int} (h0 : 0 ≤ i) (h1 : i < xs.length) : ∃ v, xs[i.toNat]? = some v ∧ atI xs i = some v := by
  have h : i.toNat < xs.length := by omega
  refine ⟨xs[i.toNat], List.getElem?_eq_getElem h, ?_⟩
  have e : ((i.toNat : Nat) : Int) = i := by omega
  have := atI_nat (xs := xs) (j := i.toNat) (List.getElem?_eq_getElem h)
  rwa [e] at this
theorem atI_int {ns : List Int} {i : Int} (h0 : 0 ≤ i) (h1 : i < ns.length) : ∃ z, atI (ns.map V.int) i = some (.int z) := by
  obtain ⟨v, e, h⟩ := atI_of (xs := ns.map V.int) h0 (by rw [List.length_map]; exact h1)
  rw [List.getElem?_map] at e
  cases q : ns[i.toNat]? with
  | none => rw [q] at e; cases e
  | some z => rw [q] at e; cases e; exact ⟨z, h⟩
/-- what is drawn from -/
def dkv (c : Addr) (k l m : Int) : List (Key × V) := [(Sum.inr "cells", .ref c), (Sum.inr "next", .int k), (Sum.inr "left", .int l), (Sum.inr "mixed", .int m)]
theorem dkv_cells (c k l m) : valV (dkv c k l m) (Sum.inr "cells") = some (.ref c) := valV_hd
theorem dkv_next (c k l m) : valV (dkv c k l m) (Sum.inr "next") = some (.int k) := by
  unfold dkv; rw [valV_tl (by decide +kernel)]; exact valV_hd
theorem dkv_left (c k l m) : valV (dkv c k l m) (Sum.inr "left") = some (.int l) := by
  unfold dkv; rw [valV_tl (by decide +kernel), valV_tl (by decide +kernel)]; exact valV_hd
theorem dkv_mixed (c k l m) : valV (dkv c k l m) (Sum.inr "mixed") = some (.int m) := by
  unfold dkv; rw [valV_tl (by decide +kernel), valV_tl (by decide +kernel), valV_tl (by decide +kernel)]; exact valV_hd
theorem dkv_put_next (c k l m k') : putK (dkv c k l m) (Sum.inr "next") (.int k') = dkv c k' l m := by rfl
theorem dkv_put_left (c k l m l') : putK (dkv c k l m) (Sum.inr "left") (.int l') = dkv c k l' m := by rfl
/-- the state of the draws stands at d -/
def DrawAt (H : Hp) (d c : Addr) : Prop := ∃ (ns : List Int) (k l m : Int), H d = some (.dK (dkv c k l m)) ∧ H c = some (.lst (ns.map V.int)) ∧ ns.length ≤ 63 ∧ 0 ≤ k
theorem DrawAt.ne {H d c} (D : DrawAt H d c) : c ≠ d := by
  obtain ⟨ns, a, b, e, h1, h2, h3⟩ := D
  exact ne_of h2 h1 (by intro z; cases z)
theorem DrawAt.keep {H H' d c} {ds : List Addr} (D : DrawAt H d c) (k : Keep ds H H') (hd : d ∉ ds := by first | exact List.not_mem_nil | simp_all) (hc : c ∉ ds := by first | exact List.not_mem_nil | simp_all) : DrawAt H' d c := by
  obtain ⟨ns, a, b, e, h1, h2, h3⟩ := D
  exact ⟨ns, a, b, e, k _ _ h1 hd, k _ _ h2 hc, h3⟩
/-- a new address is none of the draws' -/
theorem DrawAt.new {H d c} {p : Addr} (D : DrawAt H d c) (h : H p = none) : d ≠ p ∧ c ≠ p := by
  obtain ⟨ns, a, b, e, h1, h2, h3⟩ := D
  exact ⟨ne_of_none h1 h, ne_of_none h2 h⟩

section
variable {P : Program} {w : World} {K : PySem.W.Frag} {mg : Str → Option Value} {base : Heap}

def sp_more : Sp := fun vs H Q _ => ∃ d c, vs = [.ref d] ∧ DrawAt H d c ∧ ∀ r H', DrawAt H' d c → Keep [d] H H' → Q (.int r) H'
theorem p__law_more (T : Txt K mg) : Pr P w K mg base "_law_more" s__law_more ["state"] 1 sp_more := by
  obtain ⟨f, fd, D⟩ := T.d__law_more
  refine ⟨f, fd, D, D.F.ok sc__law_more (fun vs H Q E h => ?_) (fun cdv A outer s H vs Q E hr h => ?_)⟩
  · obtain ⟨d, c, rfl, _⟩ := h; rfl
  · obtain ⟨d, c, rfl, ⟨ns, k, l, m, h1, h2, h3, h4⟩, q⟩ := h
    have hu := hu_of hr
    refine ⟨_, (pss_cons (ps_set (i := 1) sc__law_more.nd rfl (Or.inl rfl) (pe_dget hu (pv 0) pe_str (fun _ _ => rfl)))
      (pss_cons (ps_dput hu (pv 0) pe_str (pe_op op_add (pv 1) pe_int) rfl)
      (pss_cons (ps_set (i := 2) sc__law_more.nd rfl (Or.inl rfl) (pe_op op_add (pe_dget hu (pv 0) pe_str (fun _ _ => rfl)) (pe_op op_mul pe_int (pv 1))))
      (pss_cons (ps_if (pt_cmpR op_lt (pv 1) (pe_callB call_len_seq (by rfl) T.z_len (by decide +kernel) (pa_cons (pe_dget hu (pv 0) pe_str (fun _ _ => rfl)) pa_nil)) (nomark _)) (pss_one (ps_set (i := 2) sc__law_more.nd rfl (Or.inl rfl) (pe_ix ix_list (pe_dget hu (pv 0) pe_str (fun _ _ => rfl)) (pv 1) (fun _ _ => rfl)))) pss_nil)
      (pss_cons (ps_if (pt_cmpR op_ge (pv 2) (pe_op op_pow pe_int pe_int) (nomark _)) (pss_one (ps_ret (pe_op op_sub (pv 2) (pe_op op_pow pe_int pe_int)))) pss_nil)
      (pss_cons (ps_set (i := 3) sc__law_more.nd rfl (Or.inl rfl) (pe_op op_mod (pe_op op_add (pe_op op_add (pe_op op_mul (pv 2) pe_int) (pe_op op_mul pe_int (pv 1))) pe_int) pe_int))
      (pss_cons (ps_set (i := 4) sc__law_more.nd rfl (Or.inl rfl) (pe_op op_mod (pe_op op_mul (pv 3) (pe_op op_add (pe_op op_add (pv 3) (pe_op op_mul pe_int (pv 1))) pe_int)) pe_int))
      (pss_cons (ps_set (i := 5) sc__law_more.nd rfl (Or.inl rfl) (pe_op op_mod (pe_op op_mul (pv 4) (pe_op op_add (pe_op op_add (pv 4) (pv 3)) pe_int)) pe_int))
      (pss_one (ps_ret (pe_op op_add (pe_op op_mul (pe_op op_add (pe_op op_mul (pv 3) pe_int) (pv 4)) pe_int) (pv 5)))))))))))), ?_⟩
    refine ⟨_, rfl, _, _, rfl, DGetS h1 (dkv_next ..), ?_⟩
    refine ⟨_, rfl, _, _, rfl, rfl, _, rfl, _, _, rfl, DPutS h1 (by show 4 < sizeLine; decide), ?_⟩
    have ncd : c ≠ d := fun e => by rw [e, h1] at h2; cases h2
    have g1 : (upd H d (.dK (dkv c (k + 1) l m))) d = some (.dK (dkv c (k + 1) l m)) := upd_same
    have g2 : (upd H d (.dK (dkv c (k + 1) l m))) c = some (.lst (ns.map V.int)) := by rw [upd_ne ncd]; exact h2
    have g3 : DrawAt (upd H d (.dK (dkv c (k + 1) l m))) d c := ⟨ns, k + 1, l, m, g1, g2, h3, by omega⟩
    have g4 : Keep [d] H (upd H d (.dK (dkv c (k + 1) l m))) := Keep.upd_in (by simp)
    refine ⟨_, rfl, _, _, rfl, DGetS g1 (dkv_mixed ..), _, rfl, _, _, rfl, rfl, Or.inl ⟨by decide, by decide⟩, _, _, rfl, rfl, ?_⟩
    refine ⟨_, rfl, _, rfl, _, _, rfl, DGetS g1 (dkv_cells ..), _, _, rfl, .inl (SqL.of g2), _, _, rfl, rfl, _, rfl, ?_⟩
    refine ite2 (fun hk => ?_) (fun hk => ?_)
    · rw [List.length_map] at hk
      obtain ⟨z, hz⟩ := atI_int h4 (of_decide_eq_true hk)
      refine ⟨_, rfl, _, _, rfl, DGetS g1 (dkv_cells ..), _, rfl, _, _, _, _, rfl, rfl, SqL.of g2, hz, ?_⟩
      refine ⟨_, rfl, _, _, rfl, rfl, ⟨by decide, by decide, by decide⟩, _, _, rfl, rfl, _, rfl, ?_⟩
      refine ite2 (fun hc => ?_) (fun hc => ?_)
      · refine ⟨_, rfl, _, _, rfl, rfl, ⟨by decide, by decide, by decide⟩, _, _, rfl, rfl, ?_⟩
        exact q _ _ g3 g4
      · refine ⟨_, rfl, _, _, rfl, rfl, Or.inr ⟨by decide, by decide⟩, _, rfl, _, _, rfl, rfl, Or.inl ⟨by decide, by decide⟩, _, _, rfl, rfl, _, _, rfl, rfl, _, _, rfl, rfl, (by show (0 : Int) < _; decide), ?_⟩
        refine ⟨_, rfl, _, rfl, _, rfl, _, _, rfl, rfl, Or.inl ⟨by decide, by decide⟩, _, _, rfl, rfl, _, _, rfl, rfl, _, _, rfl, rfl, Or.inl (mod_small (by decide) (by decide)), _, _, rfl, rfl, (by show (0 : Int) < _; decide), ?_⟩
        refine ⟨_, rfl, _, rfl, _, rfl, _, _, rfl, rfl, _, _, rfl, rfl, _, _, rfl, rfl, Or.inl (mod_small (by decide) (by decide)), _, _, rfl, rfl, (by show (0 : Int) < _; decide), ?_⟩
        refine ⟨_, rfl, _, _, rfl, rfl, Or.inr ⟨by decide, by decide⟩, _, rfl, _, _, rfl, rfl, _, _, rfl, rfl, Or.inr ⟨by decide, by decide⟩, _, rfl, _, _, rfl, rfl, ?_⟩
        exact q _ _ g3 g4
    · refine ⟨_, rfl, _, _, rfl, rfl, ⟨by decide, by decide, by decide⟩, _, _, rfl, rfl, _, rfl, ?_⟩
      refine ite2 (fun hc => ?_) (fun hc => ?_)
      · refine ⟨_, rfl, _, _, rfl, rfl, ⟨by decide, by decide, by decide⟩, _, _, rfl, rfl, ?_⟩
        exact q _ _ g3 g4
      · refine ⟨_, rfl, _, _, rfl, rfl, Or.inr ⟨by decide, by decide⟩, _, rfl, _, _, rfl, rfl, Or.inl ⟨by decide, by decide⟩, _, _, rfl, rfl, _, _, rfl, rfl, _, _, rfl, rfl, (by show (0 : Int) < _; decide), ?_⟩
        refine ⟨_, rfl, _, rfl, _, rfl, _, _, rfl, rfl, Or.inl ⟨by decide, by decide⟩, _, _, rfl, rfl, _, _, rfl, rfl, _, _, rfl, rfl, Or.inl (mod_small (by decide) (by decide)), _, _, rfl, rfl, (by show (0 : Int) < _; decide), ?_⟩
        refine ⟨_, rfl, _, rfl, _, rfl, _, _, rfl, rfl, _, _, rfl, rfl, _, _, rfl, rfl, Or.inl (mod_small (by decide) (by decide)), _, _, rfl, rfl, (by show (0 : Int) < _; decide), ?_⟩
        refine ⟨_, rfl, _, _, rfl, rfl, Or.inr ⟨by decide, by decide⟩, _, rfl, _, _, rfl, rfl, _, _, rfl, rfl, Or.inr ⟨by decide, by decide⟩, _, rfl, _, _, rfl, rfl, ?_⟩
        exact q _ _ g3 g4
end
end My
set_option Elab.async false
set_option maxRecDepth 100000
set_option maxHeartbeats 4000000
namespace My
open PySem L2 TL
section
variable {P : Program} {w : World} {K : PySem.W.Frag} {mg : Str → Option Value} {base : Heap}

def sp_next : Sp := fun vs H Q _ => ∃ d c n, vs = [.ref d, .int n] ∧ DrawAt H d c ∧ 0 < n ∧ n < 2 ^ 64 ∧ ∀ r H', 0 ≤ r → r < n → DrawAt H' d c → Keep [d] H H' → Q (.int r) H'
theorem p__law_next (T : Txt K mg) : Pr P w K mg base "_law_next" s__law_next ["state", "many"] 2 sp_next := by
  obtain ⟨f, fd, D⟩ := T.d__law_next
  obtain ⟨f__law_more, fd__law_more, D__law_more, G__law_more⟩ := p__law_more (P := P) (w := w) (base := base) T
  refine ⟨f, fd, D, D.F.ok sc__law_next (fun vs H Q E h => ?_) (fun cdv A outer s H vs Q E hr h => ?_)⟩
  · obtain ⟨d, c, n, rfl, _⟩ := h; rfl
  · obtain ⟨d, c, n, rfl, D0, n0, n1, q⟩ := h
    have hu := hu_of hr
    refine ⟨_, (pss_cons (ps_if (pt_cmpR op_eq (pe_dget hu (pv 0) pe_str (fun _ _ => rfl)) pe_int (nomark _)) (pss_one (ps_dput hu (pv 0) pe_str (pe_call G__law_more (hr.mono (by decide)) rfl D__law_more.m D__law_more.F.kp D__law_more.b .nil pass0 (pa_cons (pv 0) pa_nil)) rfl)) pss_nil)
      (pss_cons (ps_set (i := 2) sc__law_next.nd rfl (Or.inl rfl) (pe_op op_mod (pe_dget hu (pv 0) pe_str (fun _ _ => rfl)) (pv 1)))
      (pss_cons (ps_dput hu (pv 0) pe_str (pe_op op_fdivW (pe_dget hu (pv 0) pe_str (fun _ _ => rfl)) (pv 1)) rfl)
      (pss_one (ps_ret (pv 2)))))), ?_⟩
    obtain ⟨ns, k, l, m, h1, h2, h3, h4⟩ := id D0
    refine ⟨_, rfl, _, _, rfl, DGetS h1 (dkv_left ..), rfl, _, rfl, ?_⟩
    have rest : ∀ H1, DrawAt H1 d c → Keep [d] H H1 → ∃ k l m, H1 d = some (.dK (dkv c k l m)) ∧ (∀ l', DrawAt (upd H1 d (.dK (dkv c k l' m))) d c ∧ Keep [d] H (upd H1 d (.dK (dkv c k l' m)))) := fun H1 D1 K1 => by
      obtain ⟨ns, k, l, m, h1, h2, h3, h4⟩ := D1
      refine ⟨k, l, m, h1, fun l' => ⟨⟨ns, k, l', m, upd_same, ?_, h3, h4⟩, K1.trans (Keep.upd_in (by simp))⟩⟩
      rw [upd_ne (fun e => by rw [e, h1] at h2; cases h2)]; exact h2
    refine ite2 (fun _ => ?_) (fun _ => ?_)
    · refine ⟨_, rfl, d, c, rfl, D0, fun r H1 D1 K1 => ?_⟩
      obtain ⟨k, l, m, h1, z⟩ := rest H1 D1 K1
      refine ⟨_, rfl, _, _, rfl, DPutS h1 (by show 4 < sizeLine; decide), ?_⟩
      obtain ⟨k, l, m, h1, z⟩ := rest _ (z r).1 (z r).2
      refine ⟨_, rfl, _, _, rfl, DGetS h1 (dkv_left ..), _, rfl, _, _, rfl, rfl, n0, ?_⟩
      refine ⟨_, rfl, _, _, rfl, DGetS h1 (dkv_left ..), _, rfl, _, _, rfl, rfl, wide_div (b := 64) n0 (by omega) (by decide) (by decide), _, rfl, _, _, rfl, DPutS h1 (by show 4 < sizeLine; decide), ?_⟩
      exact ⟨_, rfl, q _ _ (Int.emod_nonneg _ (by omega)) (Int.emod_lt_of_pos _ n0) (z _).1 (z _).2⟩
    · obtain ⟨k, l, m, h1, z⟩ := rest H D0 Keep.refl
      refine ⟨_, rfl, _, _, rfl, DGetS h1 (dkv_left ..), _, rfl, _, _, rfl, rfl, n0, ?_⟩
      refine ⟨_, rfl, _, _, rfl, DGetS h1 (dkv_left ..), _, rfl, _, _, rfl, rfl, wide_div (b := 64) n0 (by omega) (by decide) (by decide), _, rfl, _, _, rfl, DPutS h1 (by show 4 < sizeLine; decide), ?_⟩
      exact ⟨_, rfl, q _ _ (Int.emod_nonneg _ (by omega)) (Int.emod_lt_of_pos _ n0) (z _).1 (z _).2⟩

/-- what may be picked from -/
def PickV (H : Hp) (x : V) (xs : List V) : Prop := (∃ a, x = .ref a ∧ (H a = some (.lst xs) ∨ H a = some (.tup xs))) ∨ ∃ z : Str, x = .str z ∧ z.length ≤ sizeLine ∧ xs = (tl z).map fun c => V.str ⟨#[c]⟩
theorem PickV.keep {H H' : Hp} {d c : Addr} {x : V} {xs : List V} (h : PickV H x xs) (D : DrawAt H d c) (k : Keep [d] H H') : PickV H' x xs := by
  obtain ⟨ns, k', l, m, h1, _⟩ := D
  rcases h with ⟨a, rfl, h⟩ | h
  · have na : a ∉ [d] := by
      simp only [List.mem_singleton]; rintro rfl; rw [h1] at h; rcases h with h | h <;> cases h
    exact .inl ⟨a, rfl, h.imp (fun h => k _ _ h na) fun h => k _ _ h na⟩
  · exact .inr h
def sp_pick : Sp := fun vs H Q _ => ∃ d c x xs, vs = [.ref d, x] ∧ DrawAt H d c ∧ PickV H x xs ∧ 0 < xs.length ∧ xs.length < 1000000000 ∧ ∀ v H', v ∈ xs → DrawAt H' d c → Keep [d] H H' → Q v H'
theorem p__law_pick (T : Txt K mg) : Pr P w K mg base "_law_pick" s__law_pick ["state", "some"] 3 sp_pick := by
  obtain ⟨f, fd, D⟩ := T.d__law_pick
  obtain ⟨f__law_next, fd__law_next, D__law_next, G__law_next⟩ := p__law_next (P := P) (w := w) (base := base) T
  refine ⟨f, fd, D, D.F.ok sc__law_pick (fun vs H Q E h => ?_) (fun cdv A outer s H vs Q E hr h => ?_)⟩
  · obtain ⟨d, c, n, xs, rfl, _⟩ := h; rfl
  · obtain ⟨d, c, x, xs, rfl, D0, PV, n0, n1, q⟩ := h
    have hu := hu_of hr
    refine ⟨_, (pss_one (ps_ret (pe_ix ix_seq (pv 1) (pe_call G__law_next (hr.mono (by decide)) rfl D__law_next.m D__law_next.F.kp D__law_next.b .nil pass0 (pa_cons (pv 0) (pa_cons (pe_callB call_len (by rfl) T.z_len (by decide +kernel) (pa_cons (pv 1) pa_nil)) pa_nil))) (fun _ _ => rfl)))), ?_⟩
    have hl : ∀ H1, PickV H1 x xs → LenV K x H1 xs.length := fun H1 h => by
      rcases h with ⟨a, rfl, h | h⟩ | ⟨z, rfl, hz, rfl⟩
      · exact .inl ⟨xs, SqL.of h, rfl⟩
      · exact .inr ⟨xs, SqT.of h, rfl⟩
      · refine ⟨hz, ?_⟩
        rw [List.length_map]; exact (len_tl z).symm
    refine ⟨_, rfl, _, rfl, _, rfl, x, xs.length, rfl, hl H PV, d, c, _, rfl, D0, by omega, by omega, fun r H1 r0 r1 D1 K1 => ?_⟩
    have PV1 := PV.keep D0 K1
    obtain ⟨v, e1, e2⟩ := atI_of (xs := xs) r0 r1
    have hm : v ∈ xs := List.mem_of_getElem? e1
    rcases id PV1 with ⟨a, rfl, h | h⟩ | ⟨z, rfl, hz, rfl⟩
    · exact .inl ⟨a, xs, r, v, rfl, rfl, SqL.of h, e2, q v H1 hm D1 K1⟩
    · exact .inr (.inl ⟨a, xs, r, v, rfl, rfl, SqT.of h, e2, q v H1 hm D1 K1⟩)
    · obtain ⟨c', hc, rfl⟩ := List.mem_map.mp hm
      refine .inr (.inr ⟨z, r, c', rfl, rfl, hz, ?_, q _ H1 hm D1 K1⟩)
      obtain ⟨c3, e3, e4⟩ := atI_of (xs := tl z) r0 (by rw [List.length_map] at r1; exact r1)
      rw [List.getElem?_map, e3] at e1
      cases e1
      exact e4
end
end My
set_option Elab.async false
set_option maxRecDepth 100000
set_option maxHeartbeats 4000000
namespace My
open PySem L2 TL
section
variable {P : Program} {w : World} {K : PySem.W.Frag} {mg : Str → Option Value} {base : Heap}

theorem yes {A B : Prop} (h : A) : if true = true then A else B := by rw [if_pos rfl]; exact h
theorem tYes_go {F : Bool → Hp → Prop} {σ : L2.St} {H : Hp} (h : F true H) : tYes σ H F := h
def sp_begin (K : PySem.W.Frag) : Sp := fun vs H Q _ => ∃ (a : Addr) (ns : List Int), vs = [.ref a] ∧ SqL K H a (ns.map V.int) ∧ ns.length ≤ 63 ∧ ∀ d c H', H d = none → H c = none → DrawAt H' d c → Keep [] H H' → Q (.ref d) H'
theorem p__law_begin (T : Txt K mg) : Pr P w K mg base "_law_begin" s__law_begin ["script"] 1 (sp_begin K) := by
  obtain ⟨f, fd, D⟩ := T.d__law_begin
  refine ⟨f, fd, D, D.F.ok sc__law_begin (fun vs H Q E h => ?_) (fun cdv A outer s H vs Q E hr h => ?_)⟩
  · obtain ⟨d, n, rfl, _⟩ := h; rfl
  · obtain ⟨a, ns, rfl, hS, hl, q⟩ := h
    refine ⟨_, (pss_cons (ps_set (i := 1) sc__law_begin.nd rfl (Or.inl rfl) pe_int)
      (pss_cons (ps_for PassesOwn.never rfl (pi_list (pv 0)) (pg_name (i := 2) sc__law_begin.nd rfl (Or.inl rfl)) (pss_one (ps_set (i := 1) sc__law_begin.nd rfl (Or.inl rfl) (pe_op op_mod (pe_op op_add (pe_op op_mul (pv 1) pe_int) (pv 2)) pe_int))))
      (pss_one (ps_ret (pe_disp (pps_cons pe_str (pe_callTy call_list_of (by rfl) T.z_list (by decide +kernel) (pa_cons (pv 0) pa_nil)) (pps_cons pe_str pe_int (pps_cons pe_str pe_int (pps_cons pe_str (pv 1) pps_nil)))) (by rfl) (by rfl) (fun z => by cases z) (by decide)))))), ?_⟩
    refine ⟨_, rfl, a, rfl, ⟨_, hS⟩, for_list (K := K) (a := a) (xs := ns.map V.int) (fun i σ H2 => H2 = H ∧ ∃ (m : Int) (v : Option V), -(2 ^ 64) < m ∧ m < 2 ^ 64 ∧ σ = [some (.ref a), some (.int m), v]) ⟨rfl, 11, none, by decide, by decide, rfl⟩ (fun i σ H2 _ ⟨e, _⟩ => e ▸ hS) ?_ ?_⟩
    · rintro i x σ H2 hi ⟨rfl, m, v, m0, m1, rfl⟩
      obtain ⟨z, _, rfl⟩ := List.mem_map.mp (List.mem_of_getElem? hi)
      refine ⟨_, rfl, _, _, rfl, rfl, Or.inl ⟨m0, m1⟩, _, rfl, _, _, rfl, rfl, _, _, rfl, rfl, (by show (0 : Int) < _; decide), ?_⟩
      exact ⟨rfl, _, _, (mod_small (by decide) (by decide)).1, (mod_small (by decide) (by decide)).2, rfl⟩
    · rintro σ H2 ⟨rfl, m, v, m0, m1, rfl⟩
      refine fun p hp => ?_
      have hS' : SqL K (upd H2 p (.dK [])) a (ns.map V.int) := Same.seq (Keep.same (Keep.upd_new hp)) hS
      refine ⟨_, rfl, _, _, rfl, .inl hS', fun l hl' => ?_⟩
      have npl : p ≠ l := ne_of_none upd_same hl'
      refine ⟨_, rfl, (by rw [upd_ne npl]; exact upd_same), dkv l 0 0 m, rfl, (by show 4 ≤ 15; decide), ?_⟩
      have nl0 : H2 l = none := by rw [upd_ne npl.symm] at hl'; exact hl'
      refine q p l _ hp nl0 ⟨ns, 0, 0, m, upd_same, (by rw [upd_ne npl.symm]; exact upd_same), hl, by decide⟩ fun b o e _ => ?_
      have nb : b ≠ p := ne_of_none e hp
      rw [upd_ne nb, upd_ne (ne_of_none (by rw [upd_ne nb]; exact e) hl'), upd_ne nb]; exact e

/-- a name's text -/
def NameS (z : Str) : Prop := 1 ≤ (tl z).length ∧ (tl z).length ≤ 8 ∧ ∀ c ∈ tl z, 97 ≤ c ∧ c ≤ 122
def nameB (z : Str) : Bool := decide (1 ≤ (tl z).length) && decide ((tl z).length ≤ 8) && (tl z).all fun c => decide (97 ≤ c) && decide (c ≤ 122)
theorem NameS.of {z : Str} (h : nameB z = true) : NameS z := by
  unfold nameB at h
  simp only [Bool.and_eq_true, decide_eq_true_eq, List.all_eq_true] at h
  exact ⟨h.1.1, h.1.2, h.2⟩
/-- a text of one letter -/
def SignS (z : Str) : Prop := ∃ c, z = ⟨#[c]⟩ ∧ 97 ≤ c ∧ c ≤ 122
theorem letter_ok : ∀ c ∈ tl ("abcdefghijklmnopqrstuvwxyz" : Str), SignS ⟨#[c]⟩ := fun c hc => by
  have h : (tl ("abcdefghijklmnopqrstuvwxyz" : Str)).all (fun c => decide (97 ≤ c) && decide (c ≤ 122)) = true := by decide +kernel
  have := List.all_eq_true.mp h c hc
  simp only [Bool.and_eq_true, decide_eq_true_eq] at this
  exact ⟨c, rfl, this.1, this.2⟩
theorem own_ok : ∀ z ∈ Txt.split ("order great best put take move enter lock share net claim back found wish act tick pay send all none" : Str) " ", nameB z = true := by decide +kernel
theorem joinL_signs : ∀ {zs : List Str}, (∀ z ∈ zs, SignS z) → (joinL [] (zs.map tl)).length = zs.length ∧ ∀ c ∈ joinL [] (zs.map tl), 97 ≤ c ∧ c ≤ 122
  | [], _ => ⟨rfl, by simp [joinL]⟩
  | [z], h => by
    obtain ⟨c, rfl, h1, h2⟩ := h z (by simp)
    refine ⟨rfl, fun d hd => ?_⟩
    have : d = c := by simpa [joinL, tl] using hd
    subst this; exact ⟨h1, h2⟩
  | z :: y :: r, h => by
    obtain ⟨c, rfl, h1, h2⟩ := h z (by simp)
    obtain ⟨e1, e2⟩ := joinL_signs (zs := y :: r) fun z hz => h z (List.mem_cons_of_mem _ hz)
    have e : joinL [] (((⟨#[c]⟩ : Str) :: y :: r).map tl) = c :: joinL [] ((y :: r).map tl) := rfl
    rw [e]
    refine ⟨by rw [List.length_cons, e1]; rfl, fun d hd => ?_⟩
    rcases List.mem_cons.mp hd with rfl | hd
    · exact ⟨h1, h2⟩
    · exact e2 d hd
theorem name_join {zs : List Str} (h : ∀ z ∈ zs, SignS z) (h1 : 1 ≤ zs.length) (h2 : zs.length ≤ 8) : NameS (Txt.join "" zs) := by
  obtain ⟨e1, e2⟩ := joinL_signs h
  have e : tl (Txt.join "" zs) = joinL [] (zs.map tl) := by rw [join_eq, tl_join]; rfl
  unfold NameS
  rw [e, e1]
  exact ⟨h1, h2, e2⟩
theorem sign_sum : ∀ {zs : List Str}, (∀ z ∈ zs, SignS z) → (zs.map fun x => x.length).sum = zs.length
  | [], _ => rfl
  | z :: r, h => by
    obtain ⟨c, rfl, _⟩ := h z (by simp)
    have e := sign_sum (zs := r) fun z hz => h z (List.mem_cons_of_mem _ hz)
    rw [List.map_cons, List.sum_cons, e, List.length_cons]
    show 1 + r.length = r.length + 1
    omega
def sp_word : Sp := fun vs H Q _ => ∃ d c, vs = [.ref d] ∧ DrawAt H d c ∧ ∀ z H', NameS z → DrawAt H' d c → Keep [d] H H' → Q (.str z) H'
theorem p__law_word (T : Txt K mg) : Pr P w K mg base "_law_word" s__law_word ["state"] 4 sp_word := by
  obtain ⟨f, fd, D⟩ := T.d__law_word
  obtain ⟨f__law_pick, fd__law_pick, D__law_pick, G__law_pick⟩ := p__law_pick (P := P) (w := w) (base := base) T; obtain ⟨f__law_next, fd__law_next, D__law_next, G__law_next⟩ := p__law_next (P := P) (w := w) (base := base) T
  refine ⟨f, fd, D, D.F.ok sc__law_word (fun vs H Q E h => ?_) (fun cdv A outer s H vs Q E hr h => ?_)⟩
  · obtain ⟨d, c, rfl, _⟩ := h; rfl
  · obtain ⟨d, c, rfl, D0, q⟩ := h
    refine ⟨_, (pss_cons (ps_set (i := 1) sc__law_word.nd rfl (Or.inr rfl) pe_str)
      (pss_cons (ps_set (i := 2) sc__law_word.nd rfl (Or.inl rfl) pe_str)
      (pss_cons (ps_if (pt_cmpR op_eq (pe_call G__law_next (hr.mono (by decide)) rfl D__law_next.m D__law_next.F.kp D__law_next.b .nil pass0 (pa_cons (pv 0) (pa_cons pe_int pa_nil))) pe_int (nomark _)) (pss_one (ps_ret (pe_call G__law_pick (hr.mono (by decide)) rfl D__law_pick.m D__law_pick.F.kp D__law_pick.b .nil pass0 (pa_cons (pv 0) (pa_cons (pe_split (pv 2) pe_str) pa_nil))))) pss_nil)
      (pss_cons (ps_set (i := 3) sc__law_word.nd rfl (Or.inl rfl) (pe_ix ix_list (pe_lst (pa_cons pe_int (pa_cons pe_int (pa_cons pe_int (pa_cons pe_int (pa_cons pe_int (pa_cons pe_int pa_nil))))))) (pe_call G__law_next (hr.mono (by decide)) rfl D__law_next.m D__law_next.F.kp D__law_next.b .nil pass0 (pa_cons (pv 0) (pa_cons pe_int pa_nil))) (fun _ _ => rfl)))
      (pss_one (ps_ret (pe_join pe_str (pe_lc (own := [("turn", 4)]) (g := gName 4) (tt := tYes) rfl sc__law_word.nd (pi_range1 rfl T.z_range (pa_cons (pv 3) pa_nil)) (blkOk_by (own := [("turn", 4)]) (N := N__law_word) (sc := defScope s__law_word) (by decide +kernel)) (fun _ _ _ _ _ => (pg_name (i := 4) sc__law_word.nd rfl (Or.inl rfl))) (fun _ _ _ _ _ => pts_nil) (fun _ _ _ _ _ => (pe_call G__law_pick (hr.mono (by decide)) rfl D__law_pick.m D__law_pick.F.kp D__law_pick.b .nil pass0 (pa_cons (pv 0) (pa_cons (pv 1) pa_nil)))))))))))), ?_⟩
    refine ⟨_, rfl, d, c, _, rfl, D0, by decide, by decide, fun r H1 r0 r1 D1 K1 => ⟨rfl, _, rfl, ite2 (fun _ => ?_) (fun _ => ?_)⟩⟩
    · refine ⟨_, rfl, _, rfl, ⟨_, rfl⟩, _, _, rfl, rfl, (by decide +kernel), (by decide +kernel), fun p hp => ?_⟩
      refine ⟨d, c, _, _, rfl, D1.keep (Keep.upd_new hp), .inl ⟨p, rfl, .inl upd_same⟩, by rw [List.length_map]; decide +kernel, by rw [List.length_map]; decide +kernel, fun v H2 hv D2 K2 => ?_⟩
      obtain ⟨z, hz, rfl⟩ := List.mem_map.mp hv
      exact q z H2 (NameS.of (own_ok z hz)) D2 ((K1.trans (Keep.upd_new hp)).trans K2)
    · refine ⟨by show 6 ≤ sizeLine; decide, fun l hl => ?_⟩
      refine ⟨_, rfl, d, c, _, rfl, D1.keep (Keep.upd_new hl), by decide, by decide, fun r2 H3 s0 s1 D3 K3 => ?_⟩
      have ln : l ≠ d := (D1.new hl).1.symm
      have hl3 : H3 l = some (.lst [.int 1, .int 1, .int 2, .int 3, .int 5, .int 8]) := K3 _ _ upd_same (by simpa using ln)
      obtain ⟨v, e1, e2⟩ := atI_of (xs := [V.int 1, .int 1, .int 2, .int 3, .int 5, .int 8]) (i := r2) s0 (by simpa using s1)
      obtain ⟨n, rfl, n0, n1⟩ : ∃ n : Int, v = .int n ∧ 1 ≤ n ∧ n ≤ 8 := by
        have hm := List.mem_of_getElem? e1
        simp only [List.mem_cons, List.not_mem_nil, or_false] at hm
        rcases hm with rfl | rfl | rfl | rfl | rfl | rfl <;> exact ⟨_, rfl, by decide, by decide⟩
      refine ⟨l, _, r2, _, rfl, rfl, SqL.of hl3, e2, ?_⟩
      have KA : Keep [d] H H3 := (K1.trans (Keep.upd_new hl)).trans K3
      refine ⟨⟨_, rfl⟩, _, rfl, n, rfl, by omega, by omega, fun L hL => ?_⟩
      have nL := (D3.new hL).1
      have cL := (D3.new hL).2
      refine lc_range (lo := 0) (n := n.toNat) (fun i H4 => DrawAt H4 d c ∧ Keep [d] H H4 ∧ ∃ zs : List Str, H4 L = some (.lst (zs.map V.str)) ∧ zs.length = i ∧ ∀ z ∈ zs, SignS z) ⟨D3.keep (Keep.upd_new hL), KA.trans (Keep.upd_new hL), [], upd_same, rfl, by simp⟩ ?_ ?_
      · rintro i H4 hi ⟨D4, K4, zs, h4, hz, ha⟩
        refine ⟨rfl, tYes_go (yes ?_)⟩
        refine ⟨_, rfl, _, rfl, d, c, _, _, rfl, D4, .inr ⟨_, rfl, by decide +kernel, rfl⟩, by rw [List.length_map]; decide +kernel, by rw [List.length_map]; decide +kernel, fun v H5 hv D5 K5 => ?_⟩
        obtain ⟨s, hs, rfl⟩ := List.mem_map.mp hv
        have h5 := K5 _ _ h4 (by simpa using nL.symm)
        refine ⟨_, h5, by rw [List.length_map, hz]; have : sizeLine = 16777216 := sizeLine_eq; omega, ?_⟩
        refine ⟨D5.keep (Keep.upd_in (ds := [L]) (by simp)) (by simpa using nL) (by simpa using cL), fun b o e hb => ?_, zs ++ [_], by rw [upd_same, List.map_append]; rfl, by simp [hz], fun z hm => ?_⟩
        · have := K5 _ _ (K4 b o e hb) hb
          rw [upd_ne]; exact this
          rintro rfl
          exact absurd (KA b o e hb) (by rw [hL]; simp)
        · rcases List.mem_append.mp hm with hm | hm
          · exact ha z hm
          · rw [List.mem_singleton] at hm; subst hm; exact letter_ok s hs
      · rintro H4 ⟨D4, K4, zs, h4, hz, ha⟩
        refine ⟨_, L, zs, rfl, rfl, .inl (SqL.of h4), ?_, q _ H4 (name_join ha (by omega) (by omega)) D4 K4⟩
        rw [sign_sum ha]
        have : ("" : Str).length = 0 := by decide +kernel
        rw [this]
        omega
end
end My
set_option Elab.async false
set_option maxRecDepth 100000
set_option maxHeartbeats 4000000
namespace My
open PySem L2 TL
section
variable {P : Program} {w : World} {K : PySem.W.Frag} {mg : Str → Option Value} {base : Heap}
abbrev ABC : Str := "abcdefghijklmnopqrstuvwxyz"
theorem take_succ_of {α : Type} {l : List α} {i : Nat} {x : α} (h : l[i]? = some x) : l.take (i + 1) = l.take i ++ [x] := by
  rw [List.take_add_one, h]; rfl
theorem cut_take {z : Str} {k : Nat} : tl (cutS z none (some (k : Int))) = (tl z).take k := by
  unfold cutS
  show List.take _ (List.drop (HT.sIx z.length 0 none) z.cps.toList) = _
  rw [HT.sIx_none, HT.sIx_nat, List.drop_zero]
  have e := len_tl z
  show List.take (min k z.length - 0) (tl z) = _
  rw [Nat.sub_zero]
  by_cases h : k ≤ z.length
  · rw [Nat.min_eq_left h]
  · rw [Nat.min_eq_right (by omega), List.take_of_length_le (by omega), List.take_of_length_le (by omega)]
theorem cut7_len {z : Str} (h : NameS z) : (tl (cutS z none (some 7))).length ≤ 7 := by
  have e : tl (cutS z none (some 7)) = (tl z).take 7 := cut_take (k := 7)
  rw [e, List.length_take]; omega
theorem cut7_name {z : Str} {c : Nat} (h : NameS z) (hc : 97 ≤ c ∧ c ≤ 122) : NameS (cutS z none (some 7) ++ ⟨#[c]⟩) := by
  have e : tl (cutS z none (some 7) ++ ⟨#[c]⟩) = (tl z).take 7 ++ [c] := by rw [tl_append, show tl (cutS z none (some 7)) = (tl z).take 7 from cut_take (k := 7)]
  unfold NameS
  rw [e]
  refine ⟨by simp, by simp; omega, fun d hd => ?_⟩
  rcases List.mem_append.mp hd with hd | hd
  · exact h.2.2 d (List.mem_of_mem_take hd)
  · rw [List.mem_singleton] at hd; subst hd; exact hc
theorem Keep.trans_new {H H1 : Hp} {L : Addr} {o : HO} (k : Keep [] H H1) (h : H L = none) : Keep [] H (upd H1 L o) := fun b u e n => by
  rw [upd_ne (ne_of_none e h)]; exact k b u e n
theorem inV_str (x : Str) : ∀ zs : List Str, inV (V.str x) (zs.map V.str) = decide (x ∈ zs)
  | [] => rfl
  | y :: r => by
    have e := inV_str x r
    unfold inV at e ⊢
    rw [List.map_cons, List.any_cons, e]
    show ((y == x) || decide (x ∈ r)) = _
    by_cases h : x = y
    · subst h; simp
    · have : (y == x) = false := beq_eq_false_iff_ne.mpr (Ne.symm h)
      rw [this]; simp [h]
theorem all_flat_str (zs : List Str) : (zs.map V.str).all flatV = true := by
  rw [List.all_eq_true]; intro v hv
  obtain ⟨z, _, rfl⟩ := List.mem_map.mp hv; rfl
/-- a list or tuple of names, no two alike -/
structure CrewL (zs : List Str) : Prop where
  ok : ∀ z ∈ zs, NameS z
  nd : zs.Nodup
theorem nodup_sub : ∀ {ys zs : List Str}, ys.Nodup → (∀ y ∈ ys, y ∈ zs) → ys.length ≤ zs.length
  | [], _, _, _ => Nat.zero_le _
  | y :: r, zs, nd, h => by
    have hy : y ∈ zs := h y (by simp)
    have e := List.length_erase_of_mem hy
    have nr := (List.nodup_cons.mp nd)
    have := nodup_sub (ys := r) (zs := zs.erase y) nr.2 fun x hx => by
      have : x ≠ y := fun e => nr.1 (e ▸ hx)
      exact (List.mem_erase_of_ne this).mpr (h x (List.mem_cons_of_mem _ hx))
    have p := List.length_pos_of_mem hy
    rw [List.length_cons]; omega
def spareL (z : Str) : List Str := z :: (tl ABC).map fun c => cutS z none (some 7) ++ ⟨#[c]⟩
theorem ABC_ok : ∀ c ∈ tl ABC, 97 ≤ c ∧ c ≤ 122 := fun c hc => by
  obtain ⟨c', e, h⟩ := letter_ok c hc
  have : c = c' := by injection e with e; simpa using e
  subst this; exact h
theorem spare_names {z : Str} (h : NameS z) : ∀ y ∈ spareL z, NameS y := fun y hy => by
  rcases List.mem_cons.mp hy with rfl | hy
  · exact h
  · obtain ⟨c, hc, rfl⟩ := List.mem_map.mp hy
    exact cut7_name h (ABC_ok c hc)
theorem spare_nd (z : Str) : ((tl ABC).map fun c => cutS z none (some 7) ++ (⟨#[c]⟩ : Str)).Nodup := by
  refine List.Pairwise.map _ (R := fun a b => a ≠ b) (fun a b hab e => hab ?_) (by decide +kernel)
  have e2 := congrArg tl e
  rw [tl_append, tl_append] at e2
  have e3 := List.append_cancel_left e2
  simpa [tl] using e3
theorem spare_left {z : Str} {zs : List Str} (h : NameS z) (hz : zs.length < 26) : ∃ y r, (spareL z).filter (fun y => !decide (y ∈ zs)) = y :: r ∧ NameS y ∧ y ∉ zs := by
  cases e : (spareL z).filter (fun y => !decide (y ∈ zs)) with
  | cons y r =>
    have hm : y ∈ (spareL z).filter (fun y => !decide (y ∈ zs)) := by rw [e]; simp
    obtain ⟨h1, h2⟩ := List.mem_filter.mp hm
    exact ⟨y, r, rfl, spare_names h y h1, by simpa using h2⟩
  | nil =>
    have hall : ∀ y ∈ spareL z, y ∈ zs := fun y hy => by
      have := List.filter_eq_nil_iff.mp e y hy
      simpa using this
    have := nodup_sub (spare_nd z) fun y hy => hall y (List.mem_cons_of_mem _ hy)
    rw [List.length_map, show (tl ABC).length = 26 by decide +kernel] at this
    omega
def sp_crew : Sp := fun vs H Q _ => ∃ d c m, vs = [.ref d, .int m] ∧ DrawAt H d c ∧ 0 ≤ m ∧ m ≤ 20 ∧ ∀ p zs H', H p = none → H' p = some (.lst (zs.map V.str)) → CrewL zs → (zs.length : Int) = m → DrawAt H' d c → Keep [d] H H' → Q (.ref p) H'
theorem p__law_crew (T : Txt K mg) : Pr P w K mg base "_law_crew" s__law_crew ["state", "many"] 5 sp_crew := by
  obtain ⟨f, fd, D⟩ := T.d__law_crew
  obtain ⟨f__law_word, fd__law_word, D__law_word, G__law_word⟩ := p__law_word (P := P) (w := w) (base := base) T
  refine ⟨f, fd, D, D.F.ok sc__law_crew (fun vs H Q E h => ?_) (fun cdv A outer s H vs Q E hr h => ?_)⟩
  · obtain ⟨d, c, m, rfl, _⟩ := h; rfl
  · obtain ⟨d, c, m, rfl, D0, m0, m1, q⟩ := h
    refine ⟨_, (pss_cons (ps_set (i := 2) sc__law_crew.nd rfl (Or.inr rfl) (pe_lst pa_nil))
      (pss_cons (ps_for PassesOwn.never rfl (pi_range1 rfl T.z_range (pa_cons (pv 1) pa_nil)) (pg_name (i := 3) sc__law_crew.nd rfl (Or.inl rfl)) (pss_cons (ps_set (i := 4) sc__law_crew.nd rfl (Or.inr rfl) (pe_call G__law_word (hr.mono (by decide)) rfl D__law_word.m D__law_word.F.kp D__law_word.b .nil pass0 (pa_cons (pv 0) pa_nil)))
      (pss_cons (ps_set (i := 5) sc__law_crew.nd rfl (Or.inl rfl) (pe_op op_cat (pe_lst (pa_cons (pv 4) pa_nil)) (pe_lc (own := [("sign", 6)]) (g := gName 6) (tt := tYes) rfl sc__law_crew.nd (pi_str pe_str) (blkOk_by (own := [("sign", 6)]) (N := N__law_crew) (sc := defScope s__law_crew) (by decide +kernel)) (fun _ _ _ _ _ => (pg_name (i := 6) sc__law_crew.nd rfl (Or.inl rfl))) (fun _ _ _ _ _ => pts_nil) (fun _ _ _ _ _ => (pe_op op_add_str (pe_slice sl_str (pv 4) po_none (po_some pe_int)) (pv 6))))))
      (pss_one (ps_expr (pe_bm PySem.F.plainAttrs_list PySem.F.slot_list_append PySem.F.type_list_append mt_append (pv 2) (pa_cons (pe_ix ix_list (pe_lc (own := [("one", 7)]) (g := gName 7) rfl sc__law_crew.nd (pi_list (pv 5)) (blkOk_by (own := [("one", 7)]) (N := N__law_crew) (sc := defScope s__law_crew) (by decide +kernel)) (fun _ _ _ _ _ => (pg_name (i := 7) sc__law_crew.nd rfl (Or.inl rfl))) (fun _ _ _ _ _ => pts_one (pt_cmpR (op_notIn_seqK (K := K) rfl) (pv 7) (pv 2) (by rfl))) (fun _ _ _ _ _ => (pv 7))) pe_int (fun _ _ => rfl)) pa_nil)))))))
      (pss_one (ps_ret (pv 2))))), ?_⟩
    refine ⟨Nat.zero_le _, fun p hp => ?_⟩
    refine ⟨_, rfl, m, rfl, by omega, by omega, ?_⟩
    refine for_range (lo := 0) (n := m.toNat) (fun i σ H2 => ∃ (a b e : Option V) (zs : List Str), σ = [some (.ref d), some (.int m), some (.ref p), a, b, e, none, none] ∧ H2 p = some (.lst (zs.map V.str)) ∧ CrewL zs ∧ zs.length = i ∧ DrawAt H2 d c ∧ Keep [d] H H2) ⟨none, none, none, [], rfl, upd_same, ⟨by simp, by simp⟩, rfl, D0.keep (Keep.upd_new hp), Keep.upd_new hp⟩ ?_ ?_
    · rintro i σ H2 hi ⟨a, b, e, zs, rfl, h2, C2, hz, D2, K2⟩
      have np := D0.new hp
      refine ⟨_, rfl, d, c, rfl, D2, fun z H3 hz3 D3 K3 => ?_⟩
      refine ⟨_, rfl, by show 1 ≤ sizeLine; decide, fun l hl => ?_⟩
      have K3' : Keep [d] H H3 := K2.trans K3
      have nl := D3.new hl
      refine ⟨_, rfl, fun L hL => lc_it walk_str (fun i H4 => Keep [] (upd H3 l (.lst [.str z])) H4 ∧ H4 L = some (.lst (((tl ABC).take i).map fun c => V.str (cutS z none (some 7) ++ ⟨#[c]⟩)))) ⟨Keep.upd_new hL, upd_same⟩ (fun _ _ _ _ => trivial) ?_ ?_⟩
      · rintro j x H4 H5 hj ⟨K4, h4⟩ ⟨rfl, ch, hch, rfl⟩
        refine ⟨rfl, tYes_go (yes ?_)⟩
        refine ⟨_, rfl, _, rfl, _, rfl, (by have := hz3.2.1; rw [len_tl]; have : sizeLine = 16777216 := sizeLine_eq; omega), _, rfl, _, _, rfl, rfl, ?_, _, h4, ?_, K4.trans_new hL, ?_⟩
        · have h7 := cut7_len hz3
          have : sizeLine = 16777216 := sizeLine_eq
          have e : (⟨#[ch]⟩ : Str).length = 1 := rfl
          rw [e, len_tl]; omega
        · rw [List.length_map, List.length_take]
          have : (tl ABC).length = 26 := by decide +kernel
          have : sizeLine = 16777216 := sizeLine_eq
          omega
        · have e : (tl ABC)[j]? = some ch := by rw [← hch]; exact (Array.getElem?_toList).symm ▸ rfl
          rw [upd_same, take_succ_of e, List.map_append]; rfl
      · rintro H4 ⟨K4, h4⟩
        have e26 : (ABC).cps.size = (tl ABC).length := len_tl ABC
        rw [show (Str.ofString "abcdefghijklmnopqrstuvwxyz").cps.size = (tl ABC).length from e26, List.take_length] at h4
        have hl4 : H4 l = some (.lst [.str z]) := K4 _ _ upd_same (by simp)
        have h26 : (tl ABC).length = 26 := by decide +kernel
        have hs : sizeLine = 16777216 := sizeLine_eq
        refine ⟨l, L, _, _, rfl, rfl, hl4, h4, by rw [List.length_map, h26]; simp [hs], fun S hS => ?_⟩
        have es : [V.str z] ++ (tl ABC).map (fun c => V.str (cutS z none (some 7) ++ ⟨#[c]⟩)) = (spareL z).map V.str := by
          unfold spareL; rw [List.map_cons, List.map_map]; rfl
        rw [es]
        have K5 : Keep [d] H3 (upd H4 S (.lst ((spareL z).map V.str))) := ((Keep.upd_new hl).trans (K4.mono (by simp))).trans (Keep.upd_new hS)
        generalize hH5 : upd H4 S (.lst ((spareL z).map V.str)) = H5 at K5
        have hS5 : H5 S = some (.lst ((spareL z).map V.str)) := by rw [← hH5]; exact upd_same
        have hp3 : H3 p = some (.lst (zs.map V.str)) := K3 _ _ h2 (by simpa using np.1.symm)
        have hp5 : H5 p = some (.lst (zs.map V.str)) := K5 _ _ hp3 (by simpa using np.1.symm)
        have D5 : DrawAt H5 d c := by
          rw [← hH5]
          exact ((D3.keep (Keep.upd_new (ds := []) hl)).keep K4).keep (Keep.upd_new (ds := []) hS)
        refine ⟨_, rfl, .inl ⟨rfl, _, SqL.of hp5⟩, _, rfl, S, rfl, ⟨_, SqL.of hS5⟩, fun L2 hL2 => ?_⟩
        refine lc_list (K := K) (a := S) (xs := (spareL z).map V.str) (fun i H6 => Keep [] H5 H6 ∧ H6 L2 = some (.lst ((((spareL z).take i).filter fun y => !decide (y ∈ zs)).map V.str))) ⟨Keep.upd_new hL2, upd_same⟩ (fun i H6 _ ⟨k, _⟩ => SqL.of (k _ _ hS5 (by simp))) ?_ ?_
        · rintro j x H6 hj ⟨K6, h6⟩
          rw [List.getElem?_map] at hj
          cases ej : (spareL z)[j]? with
          | none => rw [ej] at hj; cases hj
          | some y =>
            rw [ej] at hj; cases hj
            refine ⟨rfl, _, rfl, _, rfl, p, _, rfl, .inl (SqL.of (K6 _ _ hp5 (by simp))), rfl, all_flat_str zs, _, rfl, ?_⟩
            rw [take_succ_of ej, List.filter_append]
            have ei : inV (V.str y) (zs.map V.str) = decide (y ∈ zs) := inV_str y zs
            by_cases hy : y ∈ zs
            · have e1 : (if true = true then !inV (V.str y) (zs.map V.str) else inV (V.str y) (zs.map V.str)) = false := by rw [if_pos rfl, ei]; simp [hy]
              rw [e1]
              refine iteF ⟨K6, ?_⟩
              rw [h6]; simp [hy]
            · have e1 : (if true = true then !inV (V.str y) (zs.map V.str) else inV (V.str y) (zs.map V.str)) = true := by rw [if_pos rfl, ei]; simp [hy]
              rw [e1]
              refine iteT ⟨_, rfl, _, h6, ?_, K6.trans_new hL2, ?_⟩
              · rw [List.length_map]
                refine Nat.lt_of_le_of_lt (List.length_filter_le _ _) ?_
                rw [List.length_take]
                have : (spareL z).length = 27 := by unfold spareL; rw [List.length_cons, List.length_map, h26]
                omega
              · rw [upd_same, List.map_append]; simp [hy]
        · rintro H6 ⟨K6, h6⟩
          rw [List.length_map, List.take_length] at h6
          obtain ⟨y, r, er, hy1, hy2⟩ := spare_left (zs := zs) hz3 (by omega)
          rw [er] at h6
          refine ⟨L2, _, 0, V.str y, rfl, rfl, SqL.of h6, atI_nat (j := 0) rfl, ?_⟩
          refine ⟨p, _, _, rfl, rfl, K6 _ _ hp5 (by simp), by rw [List.length_map]; omega, ?_⟩
          have K7 : Keep [d] H H6 := (K3'.trans K5).trans (K6.mono (by simp))
          refine ⟨_, _, _, zs ++ [y], rfl, by rw [upd_same, List.map_append]; rfl, ⟨fun x hx => ?_, ?_⟩, by simp [hz], (D5.keep K6).keep (Keep.upd_in (ds := [p]) (by simp)) (by simpa using np.1) (by simpa using np.2), fun b o e hb => ?_⟩
          · rcases List.mem_append.mp hx with hx | hx
            · exact C2.ok x hx
            · rw [List.mem_singleton] at hx; subst hx; exact hy1
          · refine List.nodup_append.mpr ⟨C2.nd, by simp, fun a ha b hb => ?_⟩
            rw [List.mem_singleton] at hb; subst hb
            rintro rfl; exact hy2 ha
          · rw [upd_ne (ne_of_none e hp)]; exact K7 b o e hb
    · rintro σ H2 ⟨a, b, e, zs, rfl, h2, C2, hz, D2, K2⟩
      exact ⟨_, rfl, q p zs H2 hp h2 C2 (by omega) D2 K2⟩
end
end My
set_option Elab.async false
set_option maxRecDepth 100000
set_option maxHeartbeats 4000000
namespace My
open PySem PySem.Spec PyProof.Rows PySem.SeqAt
section
variable {prog : Program} {w : World} {A : Around} {E : Value → Shared → Prop} {s : Shared}
/-- str.__ne__ of a text and a dict: it declines -/
theorem str_ne_dict (b : Str) (u : Tok) (l : Addr) (c : Value) (es : Array DictEntry) (n : Nat) (dd : Option Addr) (sl : Array (Option Value)) :
    Meets (Builtin.«str.__ne__» ⟨[.str b u, .ref l], []⟩)
      (fun _ R s => s.heap.get? l = some ⟨c, dd, .dict es n, sl⟩ ∧ R (.ok (.ret .notImplemented)) s) :=
  .of_wp fun prog w A R s h => by
    obtain ⟨hp, g, d, tk, os⟩ := s
    obtain ⟨hl, h⟩ := h
    wp_walk using AutoSeq1.wpAny_loadPart' hl, wpAny_load hl
    exact ⟨_, rfl, h⟩
theorem ne_dict_str {a : Addr} {o : Obj} {es : Array DictEntry} {ep : Nat} {b : Str} {u : Tok} {Q : Value → Shared → Prop} (ha : s.heap.get? a = some o) (hc : o.cls = .type "dict") (hd : o.data = .dict es ep)
    (hu : A.units < cLine) (h : Q (.bool true) s) : wpAny (model prog w) A (compareOp .NotEq (.ref a) (.str b u)) Q E s := by
  have tI : s.TypeIs (.ref a) "dict" := ⟨o, ha, hc⟩
  obtain ⟨cls, dd, data, sl⟩ := id o
  refine rc_ne_decline_or (k := false) tI (typeIs_str s b u) (by decide) PySem.F.sub_str_dict PySem.F.slot_dict_ne PySem.F.slot_str_ne_refl (fun Q' hq => ?_) (fun Q' hq => ?_) (fun Q' hq => wpAny_of_eq (rfl : isSame (.ref a) (.str b u) = pure false) hq) (.inr hu) h
  · refine wpAny_call_entry PySem.F.slot_dict_ne tI PySem.F.entry_dict_ne ?_ (PySem.F.args_dict_ne_2 _ _)
    show wpAny _ _ (Builtin.Dict.dictSlotArgs "__ne__" ⟨[.ref a, .str b u], []⟩ >>= _) _ _ s
    unfold Builtin.Dict.dictSlotArgs
    refine wpAny_bind (wpAny_bind (wpAny_notOrdered_dict tI ?_))
    refine wpAny_pure (wpAny_bind (wpAny_isInstance (T := "str") (typeIs_str s b u) PySem.F.sub_str_dict ?_))
    rw [if_pos (by rfl)]
    exact wpAny_bind (wpAny_rule (wpAny_pure ⟨_, rfl, hq⟩))
  · obtain ⟨cls, dd, data, sl⟩ := o
    cases hc; cases hd
    exact call_meets PySem.F.slot_str_ne_refl (typeIs_str s b u) PySem.F.entry_str_ne (PySem.F.args_str_ne_2 _ _) (str_ne_dict b u a _ es ep dd sl) ⟨ha, hq⟩
end
open L2 TL
/-- a value of a kind that a law hands in, by its type's name -/
inductive Thing (H : Hp) : V → String → Prop where
  | non : Thing H .non "NoneType"
  | bl (b : Bool) : Thing H (.bl b) "bool"
  | int (i : Int) : Thing H (.int i) "int"
  | str (z : Str) (h : z.length ≤ sizeLine) : Thing H (.str z) "str"
  | lst {a : Addr} {xs : List V} (h : H a = some (.lst xs)) : Thing H (.ref a) "list"
  | tup {a : Addr} {xs : List V} (h : H a = some (.tup xs)) : Thing H (.ref a) "tuple"
  | dct {a : Addr} {kvs : List (Key × V)} (h : H a = some (.dK kvs)) : Thing H (.ref a) "dict"
theorem Thing.ty {K : PySem.W.Frag} {H : Hp} {v : V} {n : String} (h : Thing H v n) : TyX K H v (.type n) := by
  cases h with
  | non => exact .base .non
  | bl b => exact .base (.bl b)
  | int i => exact .base (.int i)
  | str z h => exact .base (.str z)
  | lst h => exact .base (.lst h)
  | tup h => exact .base (.tup h)
  | dct h => exact .base (.dK h)
theorem Thing.keep {H H' : Hp} {d : Addr} {v : V} {n : String} (h : Thing H v n) (k : Keep [d] H H') (hv : v ≠ .ref d) : Thing H' v n := by
  have na : ∀ a, v = .ref a → a ∉ [d] := fun a e => by simp only [List.mem_singleton]; rintro rfl; exact hv e
  cases h with
  | non => exact .non
  | bl b => exact .bl b
  | int i => exact .int i
  | str z h => exact .str z h
  | lst h => exact .lst (k _ _ h (na _ rfl))
  | tup h => exact .tup (k _ _ h (na _ rfl))
  | dct h => exact .dct (k _ _ h (na _ rfl))
def rNeStr : R2 := fun x y H Q => ∃ n z, Thing H x n ∧ y = .str z ∧ Q (.bl (!decide (x = .str z))) H
theorem op_neStr {X : Cx} (hu : X.A.units + 64 < cLine) : OpR X (compareOp .NotEq) rNeStr := by
  intro pins s σ H x y v u Q I rx ry h
  obtain ⟨n, z, T, rfl, q⟩ := h
  obtain ⟨t, rfl⟩ := ry
  have fin : ∀ k : Bool, (!decide (x = V.str z)) = k → EP X pins σ Q (.bool k) s := fun k e => ⟨.bl k, H, I, rfl, e ▸ q⟩
  cases T with
  | non => cases (show v = Value.none from rx); exact RcNeAt.none_str z t _ _ _ _ (fin _ (by simp))
  | bl b => cases (show v = Value.bool b from rx); exact RcNeAt.bool_str b z t _ _ _ _ (fin _ (by simp))
  | int i => obtain ⟨t', rfl⟩ := (show ∃ t, v = Value.int i t from rx); exact RcNeAt.int_str i t' z t _ _ _ _ (fin _ (by simp))
  | str y hy =>
    obtain ⟨t', rfl⟩ := (show ∃ t, v = Value.str y t from rx)
    refine RcNeAt.str_str y t' z t _ _ _ _ (fin _ ?_)
    by_cases e : y = z
    · subst e; simp
    · simp [e]
  | @lst a xs h =>
    cases (show v = Value.ref a from rx)
    obtain ⟨_, its, k, _, h1⟩ := (show ObjOk X.prog X.w H s.heap a (.lst xs) from I.hok a _ h)
    exact RcNeAt.list_str z t ⟨_, h1, rfl, _, rfl⟩ (by omega) _ _ _ _ (fin _ (by simp))
  | @tup a xs h =>
    cases (show v = Value.ref a from rx)
    obtain ⟨_, its, _, o, h1, h2, k, h3⟩ := (show ObjOk X.prog X.w H s.heap a (.tup xs) from I.hok a _ h)
    exact RcNeAt.tuple_str z t ⟨_, h1, h2, _, h3⟩ (by omega) _ _ _ _ (fin _ (by simp))
  | @dct a kvs h =>
    cases (show v = Value.ref a from rx)
    obtain ⟨_, _, vs, _, o, es, ep, h1, h2, h3, _⟩ := (show ObjOk X.prog X.w H s.heap a (.dK kvs) from I.hok a _ h)
    exact ne_dict_str h1 h2.1 h3 (by omega) (fin _ (by simp))

def intV : V → Bool
  | .int _ => true
  | _ => false
def geV (lo : Int) : V → Bool
  | .int i => decide (lo ≤ i)
  | _ => false
def rngV (lo hi : Int) : V → Bool
  | .int i => decide (lo ≤ i) && decide (i ≤ hi)
  | _ => false
def nameV : V → Bool
  | .str z => nameB z
  | _ => false
theorem intV_eq {v : V} (h : intV v = true) : ∃ i, v = .int i := by
  cases v <;> first | exact ⟨_, rfl⟩ | cases h

section
variable {P : Program} {w : World} {K : PySem.W.Frag} {mg : Str → Option Value} {base : Heap}
theorem isi_int {H : Hp} {v : V} {n : String} (h : Thing H v n) : ∃ b, PySem.W.kitOne K (.type n) (.type "int") = some b ∧ ((∃ i, v = .int i ∧ b = true) ∨ (∃ c, v = .bl c ∧ b = true) ∨ (intV v = false ∧ b = false)) := by
  cases h with
  | non => exact ⟨false, kit_ty (by decide +kernel), .inr (.inr ⟨rfl, rfl⟩)⟩
  | bl b => exact ⟨true, kit_ty (by decide +kernel), .inr (.inl ⟨b, rfl, rfl⟩)⟩
  | int i => exact ⟨true, kit_ty (by decide +kernel), .inl ⟨i, rfl, rfl⟩⟩
  | str z h => exact ⟨false, kit_ty (by decide +kernel), .inr (.inr ⟨rfl, rfl⟩)⟩
  | lst h => exact ⟨false, kit_ty (by decide +kernel), .inr (.inr ⟨rfl, rfl⟩)⟩
  | tup h => exact ⟨false, kit_ty (by decide +kernel), .inr (.inr ⟨rfl, rfl⟩)⟩
  | dct h => exact ⟨false, kit_ty (by decide +kernel), .inr (.inr ⟨rfl, rfl⟩)⟩
def sp_V (f : V → Bool) : Sp := fun vs H Q _ => ∃ v n, vs = [v] ∧ Thing H v n ∧ ∀ H', Keep [] H H' → Q (.bl (f v)) H'
theorem p_is_number (T : Txt K mg) : Pr P w K mg base "is_number" s_is_number ["thing"] 1 (sp_V intV) := by
  obtain ⟨f, fd, D⟩ := T.d_is_number
  refine ⟨f, fd, D, D.F.ok sc_is_number (fun vs H Q E h => ?_) (fun cdv A outer s H vs Q E hr h => ?_)⟩
  · obtain ⟨v, n, rfl, _⟩ := h; rfl
  · obtain ⟨v, n, rfl, Tv, q⟩ := h
    refine ⟨_, (pss_one (ps_ret (pe_and (pe_callB call_isi (by rfl) T.z_isinstance (by decide +kernel) (pa_cons (pv 0) (pa_cons (pe_bltn (by rfl) T.z_int (by decide +kernel) (v := .ty "int") rfl) pa_nil))) (pe_one (pe_not (pe_callB call_isi (by rfl) T.z_isinstance (by decide +kernel) (pa_cons (pv 0) (pa_cons (pe_bltn (by rfl) T.z_bool (by decide +kernel) (v := .ty "bool") rfl) pa_nil)))))))), ?_⟩
    obtain ⟨b, eb, hb⟩ := isi_int (K := K) Tv
    refine ⟨_, rfl, v, _, _, _, b, rfl, .ty _, Tv.ty, eb, b, rfl, ?_⟩
    rcases hb with ⟨i, rfl, rfl⟩ | ⟨c, rfl, rfl⟩ | ⟨e, rfl⟩
    · refine iteT ⟨_, rfl, _, _, _, _, false, rfl, .ty _, .base (.int i), kit_ty (by decide +kernel), _, rfl, ?_⟩
      exact q _ Keep.refl
    · refine iteT ⟨_, rfl, _, _, _, _, true, rfl, .ty _, .base (.bl c), kit_ty (by decide +kernel), _, rfl, ?_⟩
      exact q _ Keep.refl
    · refine iteF ?_
      rw [e] at q; exact q _ Keep.refl
theorem p_is_count (T : Txt K mg) : Pr P w K mg base "is_count" s_is_count ["thing"] 2 (sp_V (geV 1)) := by
  obtain ⟨f, fd, D⟩ := T.d_is_count
  obtain ⟨f_is_number, fd_is_number, D_is_number, G_is_number⟩ := p_is_number (P := P) (w := w) (base := base) T
  refine ⟨f, fd, D, D.F.ok sc_is_count (fun vs H Q E h => ?_) (fun cdv A outer s H vs Q E hr h => ?_)⟩
  · obtain ⟨v, n, rfl, _⟩ := h; rfl
  · obtain ⟨v, n, rfl, Tv, q⟩ := h
    refine ⟨_, (pss_one (ps_ret (pe_and (pe_call G_is_number (hr.mono (by decide)) rfl D_is_number.m D_is_number.F.kp D_is_number.b .nil pass0 (pa_cons (pv 0) pa_nil)) (pe_one (pe_cmpR op_ge (pv 0) pe_int (nomark _)))))), ?_⟩
    refine ⟨_, rfl, v, n, rfl, Tv, fun H1 K1 => ⟨_, rfl, ite2 (fun e => ?_) (fun e => ?_)⟩⟩
    · obtain ⟨i, rfl⟩ := intV_eq e
      exact ⟨_, rfl, _, _, rfl, rfl, q _ K1⟩
    · have : geV 1 v = false := by cases v <;> first | rfl | exact absurd rfl e
      rw [this] at q; exact q _ K1
theorem p_is_amount (T : Txt K mg) : Pr P w K mg base "is_amount" s_is_amount ["thing"] 3 (sp_V (rngV 1 1000000000)) := by
  obtain ⟨f, fd, D⟩ := T.d_is_amount
  obtain ⟨f_is_count, fd_is_count, D_is_count, G_is_count⟩ := p_is_count (P := P) (w := w) (base := base) T; obtain ⟨t_MOST, g_MOST⟩ := T.g_MOST
  refine ⟨f, fd, D, D.F.ok sc_is_amount (fun vs H Q E h => ?_) (fun cdv A outer s H vs Q E hr h => ?_)⟩
  · obtain ⟨v, n, rfl, _⟩ := h; rfl
  · obtain ⟨v, n, rfl, Tv, q⟩ := h
    refine ⟨_, (pss_one (ps_ret (pe_and (pe_call G_is_count (hr.mono (by decide)) rfl D_is_count.m D_is_count.F.kp D_is_count.b .nil pass0 (pa_cons (pv 0) pa_nil)) (pe_one (pe_cmpR op_le (pv 0) (pe_glob (v := .int 1000000000) rfl g_MOST ⟨_, rfl⟩) (nomark _)))))), ?_⟩
    refine ⟨_, rfl, v, n, rfl, Tv, fun H1 K1 => ⟨_, rfl, ite2 (fun e => ?_) (fun e => ?_)⟩⟩
    · obtain ⟨i, rfl⟩ : ∃ i, v = .int i := by cases v <;> first | exact ⟨_, rfl⟩ | cases e
      have e' : decide ((1 : Int) ≤ i) = true := e
      refine ⟨_, rfl, _, _, rfl, rfl, ?_⟩
      have : rngV 1 1000000000 (.int i) = decide (i ≤ 1000000000) := by show (decide ((1 : Int) ≤ i) && _) = _; rw [e']; rfl
      rw [this] at q; exact q _ K1
    · have : rngV 1 1000000000 v = false := by
        cases v <;> first | rfl | (show (decide _ && _) = false; rw [Bool.and_eq_false_iff]; exact .inl (Bool.eq_false_iff.mpr e))
      rw [this] at q; exact q _ K1
theorem p_is_whole (T : Txt K mg) : Pr P w K mg base "is_whole" s_is_whole ["thing"] 2 (sp_V (geV 0)) := by
  obtain ⟨f, fd, D⟩ := T.d_is_whole
  obtain ⟨f_is_number, fd_is_number, D_is_number, G_is_number⟩ := p_is_number (P := P) (w := w) (base := base) T
  refine ⟨f, fd, D, D.F.ok sc_is_whole (fun vs H Q E h => ?_) (fun cdv A outer s H vs Q E hr h => ?_)⟩
  · obtain ⟨v, n, rfl, _⟩ := h; rfl
  · obtain ⟨v, n, rfl, Tv, q⟩ := h
    refine ⟨_, (pss_one (ps_ret (pe_and (pe_call G_is_number (hr.mono (by decide)) rfl D_is_number.m D_is_number.F.kp D_is_number.b .nil pass0 (pa_cons (pv 0) pa_nil)) (pe_one (pe_cmpR op_ge (pv 0) pe_int (nomark _)))))), ?_⟩
    refine ⟨_, rfl, v, n, rfl, Tv, fun H1 K1 => ⟨_, rfl, ite2 (fun e => ?_) (fun e => ?_)⟩⟩
    · obtain ⟨i, rfl⟩ := intV_eq e
      exact ⟨_, rfl, _, _, rfl, rfl, q _ K1⟩
    · have : geV 0 v = false := by cases v <;> first | rfl | exact absurd rfl e
      rw [this] at q; exact q _ K1
theorem p_is_time (T : Txt K mg) : Pr P w K mg base "is_time" s_is_time ["thing"] 3 (sp_V (geV 0)) := by
  obtain ⟨f, fd, D⟩ := T.d_is_time
  obtain ⟨f_is_whole, fd_is_whole, D_is_whole, G_is_whole⟩ := p_is_whole (P := P) (w := w) (base := base) T
  refine ⟨f, fd, D, D.F.ok sc_is_time (fun vs H Q E h => ?_) (fun cdv A outer s H vs Q E hr h => ?_)⟩
  · obtain ⟨v, n, rfl, _⟩ := h; rfl
  · obtain ⟨v, n, rfl, Tv, q⟩ := h
    exact ⟨_, (pss_one (ps_ret (pe_call G_is_whole (hr.mono (by decide)) rfl D_is_whole.m D_is_whole.F.kp D_is_whole.b .nil pass0 (pa_cons (pv 0) pa_nil)))), _, rfl, v, n, rfl, Tv, q⟩
end
end My
set_option Elab.async false
set_option maxRecDepth 100000
set_option maxHeartbeats 4000000
namespace My
open PySem L2 TL
section
variable {P : Program} {w : World} {K : PySem.W.Frag} {mg : Str → Option Value} {base : Heap}
theorem isi_str {H : Hp} {v : V} {n : String} (h : Thing H v n) : ∃ b, PySem.W.kitOne K (.type n) (.type "str") = some b ∧ ((∃ z, v = .str z ∧ z.length ≤ sizeLine ∧ b = true) ∨ (nameV v = false ∧ b = false)) := by
  cases h with
  | str z h => exact ⟨true, kit_ty (by decide +kernel), .inl ⟨z, rfl, h, rfl⟩⟩
  | non => exact ⟨false, kit_ty (by decide +kernel), .inr ⟨rfl, rfl⟩⟩
  | bl b => exact ⟨false, kit_ty (by decide +kernel), .inr ⟨rfl, rfl⟩⟩
  | int i => exact ⟨false, kit_ty (by decide +kernel), .inr ⟨rfl, rfl⟩⟩
  | lst h => exact ⟨false, kit_ty (by decide +kernel), .inr ⟨rfl, rfl⟩⟩
  | tup h => exact ⟨false, kit_ty (by decide +kernel), .inr ⟨rfl, rfl⟩⟩
  | dct h => exact ⟨false, kit_ty (by decide +kernel), .inr ⟨rfl, rfl⟩⟩
theorem ABC_mem (c : Nat) : decide (c ∈ tl ABC) = (decide (97 ≤ c) && decide (c ≤ 122)) := by
  have e : tl ABC = (List.range 26).map (97 + ·) := by decide +kernel
  rw [e]
  by_cases h : 97 ≤ c ∧ c ≤ 122
  · rw [decide_eq_true h.1, decide_eq_true h.2]
    refine decide_eq_true (List.mem_map.mpr ⟨c - 97, List.mem_range.mpr (by omega), by omega⟩)
  · have : (decide (97 ≤ c) && decide (c ≤ 122)) = false := by
      rw [Bool.and_eq_false_iff, decide_eq_false_iff_not, decide_eq_false_iff_not]; omega
    rw [this]
    refine decide_eq_false fun q => h ?_
    obtain ⟨k, hk, rfl⟩ := List.mem_map.mp q
    have := List.mem_range.mp hk
    omega
def okc (c : Nat) : Bool := decide (97 ≤ c) && decide (c ≤ 122)
def sp_letters : Sp := fun vs H Q _ => ∃ v n, vs = [v, .int 8] ∧ Thing H v n ∧ ∀ H', Keep [] H H' → Q (.bl (nameV v)) H'
theorem p_is_letters (T : Txt K mg) : Pr P w K mg base "is_letters" s_is_letters ["thing", "longest"] 1 sp_letters := by
  obtain ⟨f, fd, D⟩ := T.d_is_letters
  obtain ⟨t_LETTERS, g_LETTERS⟩ := T.g_LETTERS
  refine ⟨f, fd, D, D.F.ok sc_is_letters (fun vs H Q E h => ?_) (fun cdv A outer s H vs Q E hr h => ?_)⟩
  · obtain ⟨v, n, rfl, _⟩ := h; rfl
  · obtain ⟨v, n, rfl, Tv, q⟩ := h
    refine ⟨_, (pss_cons (ps_if (PW.pt (pw_or (pt_not (pt_val (pe_callB call_isi (by rfl) T.z_isinstance (by decide +kernel) (pa_cons (pv 0) (pa_cons (pe_bltn (by rfl) T.z_str (by decide +kernel) (v := .ty "str") rfl) pa_nil))))) (pw_or1 (pt_not (pt_chain op_le op_le pe_int (pe_callB call_len (by rfl) T.z_len (by decide +kernel) (pa_cons (pv 0) pa_nil)) (pv 1)))))) (pss_one (ps_ret pe_bl)) pss_nil)
      (pss_one (ps_ret (pe_callB (cr_all rfl) (by rfl) T.z_all (by decide +kernel) (pa_cons (pe_lc (own := [("sign", 2)]) (g := gName 2) (tt := tYes) rfl sc_is_letters.nd (pi_str (pv 0)) (blkOk_by (own := [("sign", 2)]) (N := N_is_letters) (sc := defScope s_is_letters) (by decide +kernel)) (fun _ _ _ _ _ => (pg_name (i := 2) sc_is_letters.nd rfl (Or.inl rfl))) (fun _ _ _ _ _ => pts_nil) (fun _ _ _ _ _ => (pe_cmpR op_in_sign (pv 2) (pe_glob (v := .str "abcdefghijklmnopqrstuvwxyz") rfl g_LETTERS ⟨_, rfl⟩) (by rfl)))) pa_nil))))), ?_⟩
    obtain ⟨b, eb, hb⟩ := isi_str (K := K) Tv
    refine ⟨_, rfl, v, _, _, _, b, rfl, .ty _, Tv.ty, eb, b, rfl, ?_⟩
    rcases hb with ⟨z, rfl, hz, rfl⟩ | ⟨e, rfl⟩
    · refine iteF ?_
      refine ⟨_, rfl, _, _, rfl, ⟨hz, rfl⟩, ?_⟩
      have ez := len_tl z
      refine ⟨_, _, rfl, rfl, _, rfl, ite2 (fun h1 => ⟨_, rfl, _, _, rfl, rfl, _, rfl, ?_⟩) (fun h1 => ⟨_, rfl, ?_⟩)⟩
      · have h1' : 1 ≤ (tl z).length := by have := of_decide_eq_true h1; omega
        by_cases h2 : (tl z).length ≤ 8
        · rw [decide_eq_true (show (z.length : Int) ≤ 8 by omega)]
          refine iteF ?_
          refine ⟨_, rfl, _, rfl, fun L hL => lc_it walk_str (fun i H4 => Keep [] H H4 ∧ H4 L = some (.lst (((tl z).take i).map fun c => V.bl (okc c)))) ⟨Keep.upd_new hL, upd_same⟩ (fun _ _ _ _ => trivial) ?_ ?_⟩
          · rintro j x H4 H5 hj ⟨K4, h4⟩ ⟨rfl, ch, hch, rfl⟩
            have e : (tl z)[j]? = some ch := by rw [← hch]; exact (Array.getElem?_toList).symm ▸ rfl
            refine ⟨rfl, tYes_go (yes ⟨_, rfl, ch, _, rfl, rfl, _, h4, ?_, K4.trans_new hL, ?_⟩)⟩
            · rw [List.length_map, List.length_take]; have : sizeLine = 16777216 := sizeLine_eq; omega
            · rw [upd_same, take_succ_of e, List.map_append]
              show _ = some (HO.lst (_ ++ [V.bl (okc ch)]))
              rw [show okc ch = decide (ch ∈ tl ABC) from (ABC_mem ch).symm]
          · rintro H4 ⟨K4, h4⟩
            rw [show z.cps.size = (tl z).length from ez, List.take_length] at h4
            have h5 : H4 L = some (.lst (((tl z).map okc).map V.bl)) := by rw [h4, List.map_map]; rfl
            refine ⟨L, _, rfl, SqL.of h5, ?_⟩
            have e : nameV (.str z) = ((tl z).map okc).all id := by
              show nameB z = _
              unfold nameB
              rw [decide_eq_true h1', decide_eq_true h2, List.all_map]; rfl
            rw [e] at q
            exact q _ K4
        · rw [decide_eq_false (show ¬ (z.length : Int) ≤ 8 by omega)]
          refine iteT ?_
          have e : nameV (.str z) = false := by
            show nameB z = _
            unfold nameB
            rw [decide_eq_false h2, Bool.and_false, Bool.false_and]
          rw [e] at q; exact q _ Keep.refl
      · refine iteT ?_
        have e : nameV (.str z) = false := by
          show nameB z = _
          unfold nameB
          rw [decide_eq_false (show ¬ 1 ≤ (tl z).length from fun h => h1 (decide_eq_true (by omega)))]
          rfl
        rw [e] at q; exact q _ Keep.refl
    · refine iteT (iteT ?_)
      rw [e] at q; exact q _ Keep.refl
theorem p_is_name (T : Txt K mg) : Pr P w K mg base "is_name" s_is_name ["thing"] 2 (sp_V nameV) := by
  obtain ⟨f, fd, D⟩ := T.d_is_name
  obtain ⟨f_is_letters, fd_is_letters, D_is_letters, G_is_letters⟩ := p_is_letters (P := P) (w := w) (base := base) T; obtain ⟨t_LONGEST, g_LONGEST⟩ := T.g_LONGEST
  refine ⟨f, fd, D, D.F.ok sc_is_name (fun vs H Q E h => ?_) (fun cdv A outer s H vs Q E hr h => ?_)⟩
  · obtain ⟨v, n, rfl, _⟩ := h; rfl
  · obtain ⟨v, n, rfl, Tv, q⟩ := h
    refine ⟨_, (pss_one (ps_ret (pe_call G_is_letters (hr.mono (by decide)) rfl D_is_letters.m D_is_letters.F.kp D_is_letters.b .nil pass0 (pa_cons (pv 0) (pa_cons (pe_glob (v := .int 8) rfl g_LONGEST ⟨_, rfl⟩) pa_nil))))), ?_⟩
    exact ⟨_, rfl, _, _, rfl, Tv, fun H' K' => q _ K'⟩
end
end My
set_option Elab.async false
set_option maxRecDepth 100000
set_option maxHeartbeats 4000000
namespace My
open PySem L2 TL
theorem ifnot {c : Bool} {A B : Prop} (h1 : c = false → A) (h2 : c = true → B) : if (!c) = true then A else B := by
  cases c with
  | true => exact iteF (h2 rfl)
  | false => exact iteT (h1 rfl)
theorem Thing.keep0 {H H' : Hp} {v : V} {n : String} (h : Thing H v n) (k : Keep [] H H') : Thing H' v n := by
  cases h with
  | non => exact .non
  | bl b => exact .bl b
  | int i => exact .int i
  | str z h => exact .str z h
  | lst h => exact .lst (k _ _ h (by simp))
  | tup h => exact .tup (k _ _ h (by simp))
  | dct h => exact .dct (k _ _ h (by simp))
def ltV : V → V → Bool
  | .int i, .int j => decide (i < j)
  | _, _ => false
def isOrdL : List V → Bool
  | [w, p, q, a, r, b, u] => decide (w = .str "order") && (nameV p && (nameV q && (!decide (p = q) && (rngV 1 1000000000 a && (rngV 0 9 r && (geV 0 b && (geV 0 u && ltV b u)))))))
  | _ => false
theorem isOrdL_len {xs : List V} (h : xs.length ≠ 7) : isOrdL xs = false := by
  unfold isOrdL
  split
  · exact absurd rfl h
  · rfl
theorem seven {α : Type} {xs : List α} (h : xs.length = 7) : ∃ w p q a r b u, xs = [w, p, q, a, r, b, u] := by
  match xs, h with
  | [w, p, q, a, r, b, u], _ => exact ⟨w, p, q, a, r, b, u, rfl⟩
theorem geV_eq {lo : Int} {v : V} (h : geV lo v = true) : ∃ i, v = .int i := by
  cases v <;> first | exact ⟨_, rfl⟩ | cases h
theorem nameV_eq {v : V} (h : nameV v = true) : ∃ z, v = .str z := by
  cases v <;> first | exact ⟨_, rfl⟩ | cases h
section
variable {P : Program} {w : World} {K : PySem.W.Frag} {mg : Str → Option Value} {base : Heap}
theorem isi_tup {H : Hp} {v : V} {n : String} (h : Thing H v n) (hn : n ≠ "tuple") : PySem.W.kitOne K (.type n) (.type "tuple") = some false := by
  cases h <;> first | exact kit_ty (by decide +kernel) | exact absurd rfl hn
def sp_order : Sp := fun vs H Q _ => ∃ v, vs = [v] ∧ ((∃ n, Thing H v n ∧ n ≠ "tuple" ∧ ∀ H', Keep [] H H' → Q (.bl false) H') ∨
  (∃ a xs, v = .ref a ∧ H a = some (.tup xs) ∧ (∀ x ∈ xs, ∃ n, Thing H x n) ∧ ∀ H', Keep [] H H' → Q (.bl (isOrdL xs)) H'))
theorem p_is_order (T : Txt K mg) : Pr P w K mg base "is_order" s_is_order ["thing"] 4 sp_order := by
  obtain ⟨f, fd, D⟩ := T.d_is_order
  obtain ⟨f_is_time, fd_is_time, D_is_time, G_is_time⟩ := p_is_time (P := P) (w := w) (base := base) T; obtain ⟨f_is_amount, fd_is_amount, D_is_amount, G_is_amount⟩ := p_is_amount (P := P) (w := w) (base := base) T; obtain ⟨f_is_number, fd_is_number, D_is_number, G_is_number⟩ := p_is_number (P := P) (w := w) (base := base) T; obtain ⟨f_is_name, fd_is_name, D_is_name, G_is_name⟩ := p_is_name (P := P) (w := w) (base := base) T; obtain ⟨t_TOP_RANK, g_TOP_RANK⟩ := T.g_TOP_RANK
  refine ⟨f, fd, D, D.F.ok sc_is_order (fun vs H Q E h => ?_) (fun cdv A outer s H vs Q E hr h => ?_)⟩
  · obtain ⟨v, rfl, _⟩ := h; rfl
  · obtain ⟨v, rfl, ⟨n, Tv, nt, q⟩ | ⟨a, xs, rfl, ha, hx, q⟩⟩ := h
    · refine ⟨_, (pss_cons (ps_if (PW.pt (pw_or (pt_not (pt_val (pe_callB call_isi (by rfl) T.z_isinstance (by decide +kernel) (pa_cons (pv 0) (pa_cons (pe_bltn (by rfl) T.z_tuple (by decide +kernel) (v := .ty "tuple") rfl) pa_nil))))) (pw_or1 (pt_cmpR op_ne (pe_callB call_len_seq (by rfl) T.z_len (by decide +kernel) (pa_cons (pv 0) pa_nil)) pe_int (nomark _))))) (pss_one (ps_ret pe_bl)) pss_nil)
      (pss_cons (ps_asg (pv 0) (pg_tup rfl (pgs_cons (pg_name (i := 1) sc_is_order.nd rfl (Or.inl rfl)) (pgs_cons (pg_name (i := 2) sc_is_order.nd rfl (Or.inl rfl)) (pgs_cons (pg_name (i := 3) sc_is_order.nd rfl (Or.inl rfl)) (pgs_cons (pg_name (i := 4) sc_is_order.nd rfl (Or.inl rfl)) (pgs_cons (pg_name (i := 5) sc_is_order.nd rfl (Or.inl rfl)) (pgs_cons (pg_name (i := 6) sc_is_order.nd rfl (Or.inl rfl)) (pgs_cons (pg_name (i := 7) sc_is_order.nd rfl (Or.inl rfl)) pgs_nil)))))))))
      (pss_cons (ps_if (PW.pt (pw_or (pt_cmpR (op_neStr hr.units) (pv 1) pe_str (nomark _)) (pw_or (pt_not (pt_val (pe_call G_is_name (hr.mono (by decide)) rfl D_is_name.m D_is_name.F.kp D_is_name.b .nil pass0 (pa_cons (pv 2) pa_nil)))) (pw_or (pt_not (pt_val (pe_call G_is_name (hr.mono (by decide)) rfl D_is_name.m D_is_name.F.kp D_is_name.b .nil pass0 (pa_cons (pv 3) pa_nil)))) (pw_or1 (pt_cmpR op_eq (pv 2) (pv 3) (nomark _))))))) (pss_one (ps_ret pe_bl)) pss_nil)
      (pss_cons (ps_if (PW.pt (pw_or (pt_not (pt_val (pe_call G_is_amount (hr.mono (by decide)) rfl D_is_amount.m D_is_amount.F.kp D_is_amount.b .nil pass0 (pa_cons (pv 4) pa_nil)))) (pw_or (pt_not (pt_val (pe_call G_is_number (hr.mono (by decide)) rfl D_is_number.m D_is_number.F.kp D_is_number.b .nil pass0 (pa_cons (pv 5) pa_nil)))) (pw_or1 (pt_not (pt_chain op_le op_le pe_int (pv 5) (pe_glob (v := .int 9) rfl g_TOP_RANK ⟨_, rfl⟩))))))) (pss_one (ps_ret pe_bl)) pss_nil)
      (pss_one (ps_ret (pe_and (pe_call G_is_time (hr.mono (by decide)) rfl D_is_time.m D_is_time.F.kp D_is_time.b .nil pass0 (pa_cons (pv 6) pa_nil)) (pe_and (pe_call G_is_time (hr.mono (by decide)) rfl D_is_time.m D_is_time.F.kp D_is_time.b .nil pass0 (pa_cons (pv 7) pa_nil)) (pe_one (pe_cmpR op_lt (pv 6) (pv 7) (nomark _))))))))))), ?_⟩
      refine ⟨_, rfl, v, _, _, _, false, rfl, .ty _, Tv.ty, isi_tup Tv nt, _, rfl, iteT (iteT ?_)⟩
      exact q _ Keep.refl
    · refine ⟨_, (pss_cons (ps_if (PW.pt (pw_or (pt_not (pt_val (pe_callB call_isi (by rfl) T.z_isinstance (by decide +kernel) (pa_cons (pv 0) (pa_cons (pe_bltn (by rfl) T.z_tuple (by decide +kernel) (v := .ty "tuple") rfl) pa_nil))))) (pw_or1 (pt_cmpR op_ne (pe_callB call_len_seq (by rfl) T.z_len (by decide +kernel) (pa_cons (pv 0) pa_nil)) pe_int (nomark _))))) (pss_one (ps_ret pe_bl)) pss_nil)
      (pss_cons (ps_asg (pv 0) (pg_tup rfl (pgs_cons (pg_name (i := 1) sc_is_order.nd rfl (Or.inl rfl)) (pgs_cons (pg_name (i := 2) sc_is_order.nd rfl (Or.inl rfl)) (pgs_cons (pg_name (i := 3) sc_is_order.nd rfl (Or.inl rfl)) (pgs_cons (pg_name (i := 4) sc_is_order.nd rfl (Or.inl rfl)) (pgs_cons (pg_name (i := 5) sc_is_order.nd rfl (Or.inl rfl)) (pgs_cons (pg_name (i := 6) sc_is_order.nd rfl (Or.inl rfl)) (pgs_cons (pg_name (i := 7) sc_is_order.nd rfl (Or.inl rfl)) pgs_nil)))))))))
      (pss_cons (ps_if (PW.pt (pw_or (pt_cmpR (op_neStr hr.units) (pv 1) pe_str (nomark _)) (pw_or (pt_not (pt_val (pe_call G_is_name (hr.mono (by decide)) rfl D_is_name.m D_is_name.F.kp D_is_name.b .nil pass0 (pa_cons (pv 2) pa_nil)))) (pw_or (pt_not (pt_val (pe_call G_is_name (hr.mono (by decide)) rfl D_is_name.m D_is_name.F.kp D_is_name.b .nil pass0 (pa_cons (pv 3) pa_nil)))) (pw_or1 (pt_cmpR op_eq (pv 2) (pv 3) (nomark _))))))) (pss_one (ps_ret pe_bl)) pss_nil)
      (pss_cons (ps_if (PW.pt (pw_or (pt_not (pt_val (pe_call G_is_amount (hr.mono (by decide)) rfl D_is_amount.m D_is_amount.F.kp D_is_amount.b .nil pass0 (pa_cons (pv 4) pa_nil)))) (pw_or (pt_not (pt_val (pe_call G_is_number (hr.mono (by decide)) rfl D_is_number.m D_is_number.F.kp D_is_number.b .nil pass0 (pa_cons (pv 5) pa_nil)))) (pw_or1 (pt_not (pt_chain op_le op_le pe_int (pv 5) (pe_glob (v := .int 9) rfl g_TOP_RANK ⟨_, rfl⟩))))))) (pss_one (ps_ret pe_bl)) pss_nil)
      (pss_one (ps_ret (pe_and (pe_call G_is_time (hr.mono (by decide)) rfl D_is_time.m D_is_time.F.kp D_is_time.b .nil pass0 (pa_cons (pv 6) pa_nil)) (pe_and (pe_call G_is_time (hr.mono (by decide)) rfl D_is_time.m D_is_time.F.kp D_is_time.b .nil pass0 (pa_cons (pv 7) pa_nil)) (pe_one (pe_cmpR op_lt (pv 6) (pv 7) (nomark _))))))))))), ?_⟩
      have Tv : Thing H (.ref a) "tuple" := .tup ha
      refine ⟨_, rfl, _, _, _, _, true, rfl, .ty _, Tv.ty, kit_ty (by decide +kernel), _, rfl, iteF ?_⟩
      refine ⟨_, rfl, a, xs, rfl, .inr (SqT.of ha), rfl, _, rfl, ite2 (fun e => ?_) (fun e => ?_)⟩
      · have : xs.length ≠ 7 := fun h => by rw [h] at e; exact absurd e (by decide)
        rw [isOrdL_len this] at q
        exact q _ Keep.refl
      · have h7 : xs.length = 7 := by
          by_cases h : xs.length = 7
          · exact h
          · refine absurd ?_ e
            have : ¬ (V.int (xs.length : Int) = V.int 7) := fun z => h (by injection z with z; omega)
            rw [decide_eq_false this]; rfl
        obtain ⟨xw, xp, xq, xa, xr, xb, xu, rfl⟩ := seven h7
        obtain ⟨nw, Tw⟩ := hx xw (by simp)
        obtain ⟨np, Tp⟩ := hx xp (by simp)
        obtain ⟨nq, Tq⟩ := hx xq (by simp)
        obtain ⟨na, Ta⟩ := hx xa (by simp)
        obtain ⟨nr, Tr⟩ := hx xr (by simp)
        obtain ⟨nb, Tb⟩ := hx xb (by simp)
        obtain ⟨nu, Tu⟩ := hx xu (by simp)
        have e0 : isOrdL [xw, xp, xq, xa, xr, xb, xu] = (decide (xw = .str "order") && (nameV xp && (nameV xq && (!decide (xp = xq) && (rngV 1 1000000000 xa && (rngV 0 9 xr && (geV 0 xb && (geV 0 xu && ltV xb xu)))))))) := rfl
        rw [e0] at q
        refine ⟨_, rfl, a, _, rfl, SqT.of ha, rfl, _, _, rfl, _, _, rfl, _, _, rfl, _, _, rfl, _, _, rfl, _, _, rfl, _, _, rfl, rfl, ?_⟩
        refine ⟨_, rfl, nw, _, Tw, rfl, _, rfl, ite2 (fun e => iteT ?_) (fun e1 => ?_)⟩
        · have : decide (xw = V.str (Str.ofString "order")) = false := by simpa using e
          rw [this] at q
          exact q _ Keep.refl
        have e1 : decide (xw = V.str (Str.ofString "order")) = true := by simpa using e1
        rw [e1, Bool.true_and] at q
        refine ⟨_, rfl, xp, np, rfl, Tp, fun H1 K1 => ⟨_, rfl, ifnot (fun e2 => iteT ?_) (fun e2 => ?_)⟩⟩
        · rw [e2] at q; exact q _ K1
        rw [e2, Bool.true_and] at q
        refine ⟨_, rfl, xq, nq, rfl, Tq.keep0 K1, fun H2 K2 => ⟨_, rfl, ifnot (fun e3 => iteT ?_) (fun e3 => ?_)⟩⟩
        · rw [e3] at q; exact q _ (K1.trans K2)
        rw [e3, Bool.true_and] at q
        obtain ⟨zp, rfl⟩ := nameV_eq e2
        obtain ⟨zq, rfl⟩ := nameV_eq e3
        refine ⟨_, rfl, _, rfl, rfl, _, rfl, ite2 (fun e4 => ?_) (fun e4 => ?_)⟩
        · rw [e4] at q; exact q _ (K1.trans K2)
        have e4' : decide (V.str zp = V.str zq) = false := Bool.eq_false_iff.mpr e4
        rw [e4'] at q
        refine ⟨_, rfl, xa, na, rfl, (Ta.keep0 K1).keep0 K2, fun H3 K3 => ⟨_, rfl, ifnot (fun e5 => iteT ?_) (fun e5 => ?_)⟩⟩
        · rw [e5] at q; exact q _ ((K1.trans K2).trans K3)
        rw [e5] at q
        refine ⟨_, rfl, xr, nr, rfl, ((Tr.keep0 K1).keep0 K2).keep0 K3, fun H4 K4 => ⟨_, rfl, ifnot (fun e6 => iteT ?_) (fun e6 => ?_)⟩⟩
        have K14 : Keep [] H H4 := ((K1.trans K2).trans K3).trans K4
        · have : rngV 0 9 xr = false := by cases xr <;> first | rfl | cases e6
          rw [this] at q; exact q _ K14
        have K14 : Keep [] H H4 := ((K1.trans K2).trans K3).trans K4
        obtain ⟨ir, rfl⟩ := intV_eq e6
        refine ⟨_, rfl, _, _, rfl, rfl, _, rfl, ite2 (fun e7 => ⟨_, _, rfl, rfl, _, rfl, ifnot (fun e8 => ?_) (fun e8 => ?_)⟩) (fun e7 => ⟨_, rfl, iteT ?_⟩)⟩
        · have : rngV 0 9 (.int ir) = false := by show (_ && decide (ir ≤ 9)) = false; rw [e8, Bool.and_false]
          rw [this] at q; exact q _ K14
        rotate_left
        · have : rngV 0 9 (.int ir) = false := by show (decide (0 ≤ ir) && _) = false; rw [Bool.eq_false_iff.mpr e7, Bool.false_and]
          rw [this] at q; exact q _ K14
        have : rngV 0 9 (.int ir) = true := by show (decide (0 ≤ ir) && decide (ir ≤ 9)) = true; rw [e7, e8]; rfl
        rw [this] at q
        refine ⟨_, rfl, xb, nb, rfl, Tb.keep0 K14, fun H5 K5 => ⟨_, rfl, ite2 (fun e9 => ?_) (fun e9 => ?_)⟩⟩
        · rw [e9] at q
          refine ⟨_, rfl, xu, nu, rfl, (Tu.keep0 K14).keep0 K5, fun H6 K6 => ⟨_, rfl, ite2 (fun e10 => ?_) (fun e10 => ?_)⟩⟩
          · rw [e10] at q
            obtain ⟨ib, rfl⟩ := geV_eq e9
            obtain ⟨iu, rfl⟩ := geV_eq e10
            exact ⟨_, rfl, _, rfl, _, _, rfl, rfl, q _ ((K14.trans K5).trans K6)⟩
          · rw [Bool.eq_false_iff.mpr e10] at q
            exact q _ ((K14.trans K5).trans K6)
        · rw [Bool.eq_false_iff.mpr e9] at q
          exact q _ (K14.trans K5)
end
end My
set_option Elab.async false
set_option maxRecDepth 100000
set_option maxHeartbeats 4000000
namespace My
open PySem L2 TL
section
variable {P : Program} {w : World} {K : PySem.W.Frag} {mg : Str → Option Value} {base : Heap}
def sp_amount : Sp := fun vs H Q _ => ∃ d c, vs = [.ref d] ∧ DrawAt H d c ∧ ∀ r H', 1 ≤ r → r ≤ 1000000000 → DrawAt H' d c → Keep [d] H H' → Q (.int r) H'
theorem p__law_amount (T : Txt K mg) : Pr P w K mg base "_law_amount" s__law_amount ["state"] 3 sp_amount := by
  obtain ⟨f, fd, D⟩ := T.d__law_amount
  obtain ⟨f__law_next, fd__law_next, D__law_next, G__law_next⟩ := p__law_next (P := P) (w := w) (base := base) T
  refine ⟨f, fd, D, D.F.ok sc__law_amount (fun vs H Q E h => ?_) (fun cdv A outer s H vs Q E hr h => ?_)⟩
  · obtain ⟨d, c, rfl, _⟩ := h; rfl
  · obtain ⟨d, c, rfl, D0, q⟩ := h
    refine ⟨_, (pss_cons (ps_set (i := 1) sc__law_amount.nd rfl (Or.inl rfl) (pe_call G__law_next (hr.mono (by decide)) rfl D__law_next.m D__law_next.F.kp D__law_next.b .nil pass0 (pa_cons (pv 0) (pa_cons pe_int pa_nil))))
      (pss_one (ps_ret (pe_ifExp (pt_cmpR op_eq (pv 1) pe_int (nomark _)) (pe_op op_pow pe_int pe_int) (pe_op op_add pe_int (pe_call G__law_next (hr.mono (by decide)) rfl D__law_next.m D__law_next.F.kp D__law_next.b .nil pass0 (pa_cons (pv 0) (pa_cons (pe_ix ix_list (pe_lst (pa_cons pe_int (pa_cons pe_int (pa_cons (pe_op op_pow pe_int pe_int) pa_nil)))) (pv 1) (fun _ _ => rfl)) pa_nil)))))))), ?_⟩
    refine ⟨_, rfl, d, c, _, rfl, D0, by decide, by decide, fun r H1 r0 r1 D1 K1 => ?_⟩
    refine ⟨_, rfl, rfl, _, rfl, ite2 (fun e => ?_) (fun e => ?_)⟩
    · exact ⟨_, _, rfl, rfl, ⟨by decide, by decide, by decide⟩, q _ H1 (by decide) (by decide) D1 K1⟩
    · have r3 : r < 3 := by
        have : ¬ (V.int r = V.int 3) := fun z => e (decide_eq_true z)
        have : r ≠ 3 := fun z => this (by rw [z])
        omega
      refine ⟨_, rfl, _, _, rfl, rfl, ⟨by decide, by decide, by decide⟩, by show 3 ≤ sizeLine; decide, fun l hl => ?_⟩
      obtain ⟨v, e1, e2⟩ := atI_of (xs := [V.int 5, V.int 1000, V.int 1000000000]) (i := r) r0 (by simpa using r3)
      obtain ⟨n, rfl, n0, n1⟩ : ∃ n : Int, v = .int n ∧ 1 ≤ n ∧ n ≤ 1000000000 := by
        have hm := List.mem_of_getElem? e1
        simp only [List.mem_cons, List.not_mem_nil, or_false] at hm
        rcases hm with rfl | rfl | rfl <;> exact ⟨_, rfl, by decide, by decide⟩
      refine ⟨_, rfl, l, _, r, _, rfl, rfl, SqL.of upd_same, e2, d, c, _, rfl, D1.keep (Keep.upd_new hl), by omega, by omega, fun r2 H2 s0 s1 D2 K2 => ?_⟩
      exact ⟨_, _, rfl, rfl, q _ H2 (by omega) (by omega) D2 ((K1.trans (Keep.upd_new hl)).trans K2)⟩
end
end My
set_option Elab.async false
set_option maxRecDepth 100000
set_option maxHeartbeats 4000000
namespace My
open PySem L2 TL
section
variable {P : Program} {w : World} {K : PySem.W.Frag} {mg : Str → Option Value} {base : Heap}
def ordV (x y : Str) (m r s e : Int) : List V := [.str "order", .str x, .str y, .int m, .int r, .int s, .int e]
theorem other_left {zs : List Str} {x : Str} (nd : zs.Nodup) (h : 2 ≤ zs.length) : 0 < (zs.filter fun y => !decide (V.str y = V.str x)).length := by
  match zs, nd, h with
  | a :: b :: r, nd, _ =>
    have hab : a ≠ b := by
      have := (List.nodup_cons.mp nd).1
      intro e; exact this (by simp [e])
    have : ∃ y ∈ (a :: b :: r), y ≠ x := by
      by_cases e : a = x
      · exact ⟨b, by simp, fun q => hab (e.trans q.symm)⟩
      · exact ⟨a, by simp, e⟩
    obtain ⟨y, hy, hn⟩ := this
    refine List.length_pos_of_mem (List.mem_filter.mpr ⟨hy, ?_⟩)
    have : ¬ V.str y = V.str x := fun q => hn (by injection q)
    rw [decide_eq_false this]; rfl
def sp_one : Sp := fun vs H Q _ => ∃ d c a zs, vs = [.ref d, .ref a] ∧ DrawAt H d c ∧ H a = some (.lst (zs.map V.str)) ∧ CrewL zs ∧ 2 ≤ zs.length ∧ zs.length ≤ 1000 ∧
  ∀ p x y m r s e H', H p = none → H' p = some (.tup (ordV x y m r s e)) → x ∈ zs → y ∈ zs → x ≠ y → 1 ≤ m → m ≤ 1000000000 → 0 ≤ r → r ≤ 9 → 0 ≤ s → s < 1000000000000 → s < e → e ≤ s + 9 → DrawAt H' d c → Keep [d] H H' → Q (.ref p) H'
theorem Keep.none_of {ds : List Addr} {H H' : Hp} {p : Addr} (k : Keep ds H H') (h : H' p = none) (hp : p ∉ ds) : H p = none := by
  cases e : H p with
  | none => rfl
  | some o => rw [k p o e hp] at h; cases h
theorem p__law_one (T : Txt K mg) : Pr P w K mg base "_law_one" s__law_one ["state", "crew"] 4 sp_one := by
  obtain ⟨f, fd, D⟩ := T.d__law_one
  obtain ⟨f__law_next, fd__law_next, D__law_next, G__law_next⟩ := p__law_next (P := P) (w := w) (base := base) T; obtain ⟨f__law_amount, fd__law_amount, D__law_amount, G__law_amount⟩ := p__law_amount (P := P) (w := w) (base := base) T; obtain ⟨f__law_pick, fd__law_pick, D__law_pick, G__law_pick⟩ := p__law_pick (P := P) (w := w) (base := base) T
  refine ⟨f, fd, D, D.F.ok sc__law_one (fun vs H Q E h => ?_) (fun cdv A outer s H vs Q E hr h => ?_)⟩
  · obtain ⟨d, c, a, zs, rfl, _⟩ := h; rfl
  · obtain ⟨d, c, a, zs, rfl, D0, ha, C0, z0, z1, q⟩ := h
    refine ⟨_, (pss_cons (ps_set (i := 2) sc__law_one.nd rfl (Or.inr rfl) (pe_call G__law_pick (hr.mono (by decide)) rfl D__law_pick.m D__law_pick.F.kp D__law_pick.b .nil pass0 (pa_cons (pv 0) (pa_cons (pv 1) pa_nil))))
      (pss_cons (ps_set (i := 3) sc__law_one.nd rfl (Or.inl rfl) (pe_call G__law_pick (hr.mono (by decide)) rfl D__law_pick.m D__law_pick.F.kp D__law_pick.b .nil pass0 (pa_cons (pv 0) (pa_cons (pe_lc (own := [("name", 5)]) (g := gName 5) rfl sc__law_one.nd (pi_list (pv 1)) (blkOk_by (own := [("name", 5)]) (N := N__law_one) (sc := defScope s__law_one) (by decide +kernel)) (fun _ _ _ _ _ => (pg_name (i := 5) sc__law_one.nd rfl (Or.inl rfl))) (fun _ _ _ _ _ => pts_one (pt_cmpR op_ne (pv 5) (pv 2) (nomark _))) (fun _ _ _ _ _ => (pv 5))) pa_nil))))
      (pss_cons (ps_set (i := 4) sc__law_one.nd rfl (Or.inl rfl) (pe_ix ix_list (pe_lst (pa_cons pe_int (pa_cons (pe_call G__law_next (hr.mono (by decide)) rfl D__law_next.m D__law_next.F.kp D__law_next.b .nil pass0 (pa_cons (pv 0) (pa_cons pe_int pa_nil))) (pa_cons (pe_call G__law_next (hr.mono (by decide)) rfl D__law_next.m D__law_next.F.kp D__law_next.b .nil pass0 (pa_cons (pv 0) (pa_cons (pe_op op_pow pe_int pe_int) pa_nil))) pa_nil)))) (pe_call G__law_next (hr.mono (by decide)) rfl D__law_next.m D__law_next.F.kp D__law_next.b .nil pass0 (pa_cons (pv 0) (pa_cons pe_int pa_nil))) (fun _ _ => rfl)))
      (pss_one (ps_ret (pe_tup (pa_cons pe_str (pa_cons (pv 2) (pa_cons (pv 3) (pa_cons (pe_call G__law_amount (hr.mono (by decide)) rfl D__law_amount.m D__law_amount.F.kp D__law_amount.b .nil pass0 (pa_cons (pv 0) pa_nil)) (pa_cons (pe_call G__law_next (hr.mono (by decide)) rfl D__law_next.m D__law_next.F.kp D__law_next.b .nil pass0 (pa_cons (pv 0) (pa_cons pe_int pa_nil))) (pa_cons (pv 4) (pa_cons (pe_op op_add (pe_op op_add (pv 4) pe_int) (pe_call G__law_next (hr.mono (by decide)) rfl D__law_next.m D__law_next.F.kp D__law_next.b .nil pass0 (pa_cons (pv 0) (pa_cons pe_int pa_nil)))) pa_nil))))))))))))), ?_⟩
    have nad : a ∉ [d] := by
      obtain ⟨ns, k, l, m, h1, _⟩ := D0
      simp only [List.mem_singleton]; exact ne_of ha h1 (by intro z; cases z)
    have hs : sizeLine = 16777216 := sizeLine_eq
    refine ⟨_, rfl, _, rfl, d, c, _, _, rfl, D0, .inl ⟨a, rfl, .inl ha⟩, by rw [List.length_map]; omega, by rw [List.length_map]; omega, fun v H1 hv D1 K1 => ?_⟩
    obtain ⟨x, hx, rfl⟩ := List.mem_map.mp hv
    have ha1 := K1 _ _ ha nad
    refine ⟨_, rfl, _, rfl, a, rfl, ⟨_, SqL.of ha1⟩, fun L hL => ?_⟩
    refine lc_list (K := K) (a := a) (xs := zs.map V.str) (fun i H2 => Keep [] H1 H2 ∧ H2 L = some (.lst (((zs.take i).filter fun y => !decide (V.str y = V.str x)).map V.str))) ⟨Keep.upd_new hL, upd_same⟩ (fun i H2 _ ⟨k, _⟩ => SqL.of (k _ _ ha1 (by simp))) ?_ ?_
    · rintro j v H2 hj ⟨K2, h2⟩
      rw [List.getElem?_map] at hj
      cases ej : zs[j]? with
      | none => rw [ej] at hj; cases hj
      | some y =>
        rw [ej] at hj; cases hj
        refine ⟨rfl, _, rfl, _, rfl, rfl, _, rfl, ?_⟩
        rw [take_succ_of ej, List.filter_append]
        cases eo : (!decide (V.str y = V.str x)) with
        | false =>
          refine iteF ⟨K2, ?_⟩
          rw [List.filter_cons_of_neg (by rw [eo]; exact Bool.false_ne_true), List.filter_nil, List.append_nil]; exact h2
        | true =>
          refine iteT ⟨_, rfl, _, h2, ?_, K2.trans_new hL, ?_⟩
          · rw [List.length_map]
            refine Nat.lt_of_le_of_lt (List.length_filter_le _ _) ?_
            rw [List.length_take]; omega
          · rw [List.filter_cons_of_pos (by rw [eo]), List.filter_nil, List.map_append]; exact upd_same
    · rintro H2 ⟨K2, h2⟩
      rw [List.length_map, List.take_length] at h2
      have hl := other_left (x := x) C0.nd z0
      have hl2 := List.length_filter_le (fun y => !decide (V.str y = V.str x)) zs
      refine ⟨d, c, _, _, rfl, D1.keep K2, .inl ⟨L, rfl, .inl h2⟩, by rw [List.length_map]; omega, by rw [List.length_map]; omega, fun v H3 hv D3 K3 => ?_⟩
      obtain ⟨y, hy, rfl⟩ := List.mem_map.mp hv
      obtain ⟨hy1, hy2⟩ := List.mem_filter.mp hy
      have hyx : x ≠ y := fun e => by subst e; simp at hy2
      have KA : Keep [d] H H3 := (K1.trans (K2.mono (by simp))).trans K3
      refine ⟨_, rfl, d, c, _, rfl, D3, by decide, by decide, fun s1 H4 s10 s11 D4 K4 => ?_⟩
      refine ⟨_, rfl, _, _, rfl, rfl, ⟨by decide, by decide, by decide⟩, d, c, _, rfl, D4, by decide, by decide, fun s2 H5 s20 s21 D5 K5 => ?_⟩
      refine ⟨by show 3 ≤ sizeLine; decide, fun l hl5 => ?_⟩
      refine ⟨_, rfl, d, c, _, rfl, D5.keep (Keep.upd_new hl5), by decide, by decide, fun i H6 i0 i1 D6 K6 => ?_⟩
      have nl := (D5.new hl5).1
      have hl6 := K6 _ _ upd_same (show l ∉ [d] by simpa using nl.symm)
      have s21' : s2 < 1000000000000 := by have e : ((fun i j : Int => i ^ j.toNat) 10 12) = 1000000000000 := by decide +kernel
                                           exact e ▸ s21
      obtain ⟨v, e1, e2⟩ := atI_of (xs := [V.int 0, V.int s1, V.int s2]) (i := i) i0 (by simpa using i1)
      obtain ⟨n, rfl, n0, n1⟩ : ∃ n : Int, v = .int n ∧ 0 ≤ n ∧ n < 1000000000000 := by
        have hm := List.mem_of_getElem? e1
        simp only [List.mem_cons, List.not_mem_nil, or_false] at hm
        rcases hm with rfl | rfl | rfl
        · exact ⟨_, rfl, by decide, by decide⟩
        · exact ⟨_, rfl, s10, by omega⟩
        · exact ⟨_, rfl, s20, s21'⟩
      refine ⟨l, _, i, _, rfl, rfl, SqL.of hl6, e2, ?_⟩
      have KB : Keep [d] H H6 := ((KA.trans K4).trans K5).trans ((Keep.upd_new hl5).trans K6)
      refine ⟨_, rfl, _, rfl, _, rfl, d, c, rfl, D6, fun m H7 m0 m1 D7 K7 => ?_⟩
      refine ⟨_, rfl, d, c, _, rfl, D7, by decide, by decide, fun r H8 r0 r1 D8 K8 => ?_⟩
      refine ⟨_, rfl, _, rfl, _, _, rfl, rfl, _, rfl, d, c, _, rfl, D8, by decide, by decide, fun g H9 g0 g1 D9 K9 => ?_⟩
      refine ⟨_, _, rfl, rfl, by show 7 ≤ sizeLine; decide, fun p hp => ?_⟩
      have KC : Keep [d] H H9 := ((KB.trans K7).trans K8).trans K9
      have pd := (D9.new hp).1
      exact q p x y m r n (n + 1 + g) _ (KC.none_of hp (by simpa using pd.symm)) upd_same hx hy1 hyx m0 m1 r0 (by omega) n0 n1 (by omega) (by omega) (D9.keep (Keep.upd_new hp)) (KC.trans (Keep.upd_new hp))
end
end My
set_option Elab.async false
set_option maxRecDepth 100000
set_option maxHeartbeats 800000
namespace My
open PySem L2 TL
/-! orders, sums by names, sets of places: no heap here -/
structure O where
  py : Str
  pe : Str
  m : Int
  r : Int
  s : Int
  e : Int
structure OkO (o : O) : Prop where
  n1 : NameS o.py
  n2 : NameS o.pe
  ne : o.py ≠ o.pe
  m0 : 1 ≤ o.m
  m1 : o.m ≤ 1000000000
  r0 : 0 ≤ o.r
  r1 : o.r ≤ 9
  s0 : 0 ≤ o.s
  e0 : o.s < o.e
abbrev DI := List (Str × Int)
def lookI (h : DI) (n : Str) : Option Int := (h.find? fun p => decide (p.1 = n)).map (·.2)
def getI (h : DI) (n : Str) : Int := (lookI h n).getD 0
def putI (h : DI) (n : Str) (v : Int) : DI := if (h.any fun p => decide (p.1 = n)) then h.map (fun p => if p.1 = n then (n, v) else p) else h ++ [(n, v)]
theorem lookI_none {h : DI} {n : Str} : lookI h n = none ↔ n ∉ h.map (·.1) := by
  unfold lookI
  rw [Option.map_eq_none_iff, List.find?_eq_none]
  simp only [decide_eq_true_eq, List.mem_map, not_exists, not_and]
theorem lookI_append {h g : DI} {n : Str} : lookI (h ++ g) n = (lookI h n).or (lookI g n) := by
  unfold lookI
  rw [List.find?_append]
  cases List.find? (fun p => decide (p.1 = n)) h <;> rfl
theorem lookI_map {v : Int} {n k : Str} : ∀ h : DI, lookI (h.map fun p => if p.1 = n then (n, v) else p) k = if k = n then (lookI h k).map fun _ => v else lookI h k
  | [] => by simp [lookI]
  | p :: r => by
    have ih := lookI_map (v := v) (n := n) (k := k) r
    unfold lookI at ih ⊢
    rw [List.map_cons, List.find?_cons, List.find?_cons]
    by_cases e : p.1 = n
    · rw [if_pos e]
      by_cases e2 : k = n
      · subst e2
        simp [e]
      · rw [if_neg e2]
        have e3 : ¬ n = k := fun z => e2 z.symm
        have e4 : ¬ p.1 = k := fun z => e2 (z.symm.trans e)
        simp only [e3, e4, decide_false]
        rw [if_neg e2] at ih
        exact ih
    · rw [if_neg e]
      by_cases e2 : p.1 = k
      · have e3 : ¬ k = n := fun z => e (e2.trans z)
        simp [e2, e3]
      · simp only [e2, decide_false]
        exact ih
theorem lookI_put {h : DI} {n k : Str} {v : Int} : lookI (putI h n v) k = if k = n then some v else lookI h k := by
  unfold putI
  by_cases c : (h.any fun p => decide (p.1 = n)) = true
  · rw [if_pos c, lookI_map]
    by_cases e : k = n
    · rw [if_pos e, if_pos e]
      cases q : lookI h k with
      | some _ => rfl
      | none =>
        exfalso
        obtain ⟨p, hp, hn⟩ := List.any_eq_true.mp c
        exact lookI_none.mp q (List.mem_map.mpr ⟨p, hp, (of_decide_eq_true hn).trans e.symm⟩)
    · rw [if_neg e, if_neg e]
  · rw [if_neg c, lookI_append]
    by_cases e : k = n
    · subst e
      rw [if_pos rfl]
      have : lookI h k = none := lookI_none.mpr fun z => c (by
        obtain ⟨p, hp, hn⟩ := List.mem_map.mp z
        exact List.any_eq_true.mpr ⟨p, hp, decide_eq_true hn⟩)
      rw [this]; simp [lookI]
    · rw [if_neg e]
      have : lookI [(n, v)] k = none := lookI_none.mpr (by simpa using e)
      rw [this]; simp
theorem getI_put {h : DI} {n k : Str} {v : Int} : getI (putI h n v) k = if k = n then v else getI h k := by
  unfold getI
  rw [lookI_put]
  split <;> rfl
theorem keys_put {h : DI} {n : Str} {v : Int} : (putI h n v).map (·.1) = if n ∈ h.map (·.1) then h.map (·.1) else h.map (·.1) ++ [n] := by
  unfold putI
  have hc : ((h.any fun p => decide (p.1 = n)) = true) ↔ n ∈ h.map (·.1) := by
    rw [List.any_eq_true, List.mem_map]
    exact ⟨fun ⟨p, a, b⟩ => ⟨p, a, of_decide_eq_true b⟩, fun ⟨p, a, b⟩ => ⟨p, a, decide_eq_true b⟩⟩
  by_cases c : (h.any fun p => decide (p.1 = n)) = true
  · rw [if_pos c, if_pos (hc.mp c), List.map_map]
    refine List.map_congr_left fun p _ => ?_
    show (if p.1 = n then (n, v) else p).1 = p.1
    split
    · rename_i e; exact e.symm
    · rfl
  · rw [if_neg c, if_neg fun z => c (hc.mpr z), List.map_append]; rfl
theorem nodup_put {h : DI} {n : Str} {v : Int} (nd : (h.map (·.1)).Nodup) : ((putI h n v).map (·.1)).Nodup := by
  rw [keys_put]
  split
  · exact nd
  · rename_i e
    refine List.nodup_append.mpr ⟨nd, by simp, fun a ha b hb => ?_⟩
    rw [List.mem_singleton] at hb; subst hb
    rintro rfl; exact e ha
theorem len_put {h : DI} {n : Str} {v : Int} : (putI h n v).length ≤ h.length + 1 := by
  unfold putI; split
  · rw [List.length_map]; omega
  · rw [List.length_append]; simp
theorem lookI_mem {h : DI} {n : Str} {v : Int} (nd : (h.map (·.1)).Nodup) (hm : (n, v) ∈ h) : lookI h n = some v := by
  induction h with
  | nil => cases hm
  | cons p r ih =>
    unfold lookI
    rw [List.find?_cons]
    rw [List.map_cons, List.nodup_cons] at nd
    rcases List.mem_cons.mp hm with e | hm
    · subst e; simp
    · have : ¬ p.1 = n := fun e => nd.1 (List.mem_map.mpr ⟨(n, v), hm, e.symm⟩)
      simp only [this, decide_false]
      exact ih nd.2 hm
theorem mem_lookI {h : DI} {n : Str} {v : Int} (e : lookI h n = some v) : (n, v) ∈ h := by
  unfold lookI at e
  obtain ⟨p, hp, rfl⟩ := Option.map_eq_some_iff.mp e
  have h1 := List.mem_of_find?_eq_some hp
  have h2 := of_decide_eq_true (List.find?_some (p := fun p : Str × Int => decide (p.1 = n)) hp)
  rw [← h2]; exact h1
/-- what an order brings to a name -/
def flow (o : O) (n : Str) : Int := (if o.pe = n then o.m else 0) - (if o.py = n then o.m else 0)
def stepI (h : DI) (o : O) : DI := let g := putI h o.py (getI h o.py - o.m); putI g o.pe (getI g o.pe + o.m)
def backI (h : DI) (o : O) : DI := let g := putI h o.py (getI h o.py + o.m); putI g o.pe (getI g o.pe - o.m)
theorem getI_step {h : DI} {o : O} (hne : o.py ≠ o.pe) (n : Str) : getI (stepI h o) n = getI h n + flow o n := by
  unfold stepI flow
  simp only [getI_put]
  by_cases e1 : n = o.pe
  · subst e1
    rw [if_pos rfl, if_neg (Ne.symm hne), if_pos rfl, if_neg hne]; omega
  · rw [if_neg e1, if_neg (show ¬ o.pe = n from fun z => e1 z.symm)]
    by_cases e2 : n = o.py
    · subst e2; rw [if_pos rfl, if_pos rfl]; omega
    · rw [if_neg e2, if_neg (show ¬ o.py = n from fun z => e2 z.symm)]; omega
theorem getI_back {h : DI} {o : O} (hne : o.py ≠ o.pe) (n : Str) : getI (backI h o) n = getI h n - flow o n := by
  unfold backI flow
  simp only [getI_put]
  by_cases e1 : n = o.pe
  · subst e1
    rw [if_pos rfl, if_neg (Ne.symm hne), if_pos rfl, if_neg hne]; omega
  · rw [if_neg e1, if_neg (show ¬ o.pe = n from fun z => e1 z.symm)]
    by_cases e2 : n = o.py
    · subst e2; rw [if_pos rfl, if_pos rfl]; omega
    · rw [if_neg e2, if_neg (show ¬ o.py = n from fun z => e2 z.symm)]; omega
def flowAt (os : List O) (i : Nat) (n : Str) : Int := match os[i]? with
  | some o => flow o n
  | none => 0
def payer (os : List O) (i : Nat) : Option Str := os[i]?.map (·.py)
/-- what a name has with a set of places -/
def sumP (os : List O) (P : Nat → Bool) (n : Str) : Int := ((List.range os.length).map fun i => if P i then flowAt os i n else 0).sum
def bal (fr : DI) (os : List O) (P : Nat → Bool) (n : Str) : Int := getI fr n + sumP os P n
def Closed (os : List O) (P : Nat → Bool) : Prop := ∀ i k, P i = true → k < i → i < os.length → payer os k = payer os i → P k = true
structure Stands (fr : DI) (os : List O) (P : Nat → Bool) : Prop where
  cl : Closed os P
  nn : ∀ n, 0 ≤ bal fr os P n
/-- every set that stands lies within -/
def Over (fr : DI) (os : List O) (P : Nat → Bool) : Prop := ∀ S, Stands fr os S → ∀ i, i < os.length → S i = true → P i = true
structure Great (fr : DI) (os : List O) (P : Nat → Bool) : Prop where
  st : Stands fr os P
  ov : Over fr os P
theorem sum_le {f g : Nat → Int} : ∀ {l : List Nat}, (∀ i ∈ l, f i ≤ g i) → (l.map f).sum ≤ (l.map g).sum
  | [], _ => Int.le_refl 0
  | i :: r, h => by
    have h1 := h i (by simp)
    have h2 := sum_le (l := r) fun j hj => h j (List.mem_cons_of_mem _ hj)
    simp only [List.map_cons, List.sum_cons]; omega
/-- l is the last of its payer in P, and the payer is below 0 with P -/
structure Goes (fr : DI) (os : List O) (P : Nat → Bool) (l : Nat) (x : Str) : Prop where
  lt : l < os.length
  hp : P l = true
  py : payer os l = some x
  la : ∀ i, i < os.length → P i = true → payer os i = some x → i ≤ l
  be : bal fr os P x < 0
theorem flow_ge {o : O} {x : Str} (h : OkO o) (n : o.py ≠ x) : 0 ≤ flow o x := by
  unfold flow
  rw [if_neg n]
  have := h.m0
  split <;> omega
theorem Goes.out {fr : DI} {os : List O} {P : Nat → Bool} {l : Nat} {x : Str} (ok : ∀ o ∈ os, OkO o) (g : Goes fr os P l x) {S : Nat → Bool} (hS : Stands fr os S) (sub : ∀ i, i < os.length → S i = true → P i = true) : S l = false := by
  cases e : S l with
  | false => rfl
  | true =>
    exfalso
    have h1 := hS.nn x
    have h2 := g.be
    unfold bal at h1 h2
    have : sumP os S x ≤ sumP os P x := by
      refine sum_le fun i hi => ?_
      have hi := List.mem_range.mp hi
      obtain ⟨o, ho⟩ : ∃ o, os[i]? = some o := ⟨os[i], List.getElem?_eq_getElem hi⟩
      have hf : flowAt os i x = flow o x := by unfold flowAt; rw [ho]
      have hpy : payer os i = some o.py := by unfold payer; rw [ho]; rfl
      by_cases ex : o.py = x
      · have : S i = P i := by
          cases ep : P i with
          | false => cases es : S i with
            | false => rfl
            | true => rw [sub i hi es] at ep; cases ep
          | true =>
            have hl := g.la i hi ep (by rw [hpy, ex])
            by_cases eil : i = l
            · rw [eil]; exact e
            · exact hS.cl l i e (by omega) g.lt (by rw [hpy, g.py, ex])
        show (if S i = true then _ else _) ≤ (if P i = true then _ else _)
        rw [this]; exact Int.le_refl _
      · have hge := flow_ge (ok o (List.mem_of_getElem? ho)) ex
        show (if S i = true then flowAt os i x else 0) ≤ (if P i = true then flowAt os i x else 0)
        rw [hf]
        cases es : S i with
        | true => rw [sub i hi es]; exact Int.le_refl _
        | false =>
          rw [if_neg Bool.false_ne_true]
          split <;> omega
    omega
/-- some go at once, each the last one of a payer below 0 -/
theorem Over.less {fr : DI} {os : List O} {P : Nat → Bool} (ok : ∀ o ∈ os, OkO o) (ov : Over fr os P) {R : Nat → Bool} (hR : ∀ l, R l = true → ∃ x, Goes fr os P l x) : Over fr os fun i => P i && !R i := by
  intro S hS i hi e
  have h1 := ov S hS i hi e
  show (P i && !R i) = true
  rw [h1, Bool.true_and]
  cases er : R i with
  | false => rfl
  | true =>
    obtain ⟨x, g⟩ := hR i er
    rw [g.out ok hS (ov S hS)] at e; cases e
theorem Closed.less {fr : DI} {os : List O} {P : Nat → Bool} (cl : Closed os P) {R : Nat → Bool} (hR : ∀ l, R l = true → ∃ x, Goes fr os P l x) : Closed os fun i => P i && !R i := by
  intro i k h lt hi hp
  have h : (P i && !R i) = true := h
  rw [Bool.and_eq_true] at h
  show (P k && !R k) = true
  rw [cl i k h.1 lt hi hp, Bool.true_and]
  cases er : R k with
  | false => rfl
  | true =>
    obtain ⟨x, g⟩ := hR k er
    have := g.la i hi h.1 (by rw [← hp]; exact g.py)
    omega
/-- a payer below 0 has an order within -/
theorem below_has {fr : DI} {os : List O} {P : Nat → Bool} {x : Str} (ok : ∀ o ∈ os, OkO o) (f0 : 0 ≤ getI fr x) (h : bal fr os P x < 0) : ∃ i, i < os.length ∧ P i = true ∧ payer os i = some x := by
  refine Classical.byContradiction fun no => ?_
  have : (0 : Int) ≤ sumP os P x := by
    have z : ((List.range os.length).map fun _ => (0 : Int)).sum = 0 := by
      generalize List.range os.length = l
      induction l with
      | nil => rfl
      | cons a r ih => rw [List.map_cons, List.sum_cons, ih]; rfl
    rw [← z]
    refine sum_le fun i hi => ?_
    have hi := List.mem_range.mp hi
    obtain ⟨o, ho⟩ : ∃ o, os[i]? = some o := ⟨os[i], List.getElem?_eq_getElem hi⟩
    show 0 ≤ if P i = true then flowAt os i x else 0
    split
    · rename_i hp
      have : o.py ≠ x := fun e => no ⟨i, hi, hp, by unfold payer; rw [ho, ← e]; rfl⟩
      unfold flowAt; rw [ho]
      exact flow_ge (ok o (List.mem_of_getElem? ho)) this
    · exact Int.le_refl 0
  unfold bal at h
  omega
theorem Great.uniq {fr : DI} {os : List O} {P P' : Nat → Bool} (g : Great fr os P) (g' : Great fr os P') : (List.range os.length).filter P = (List.range os.length).filter P' := by
  refine List.filter_congr fun i hi => ?_
  have hi := List.mem_range.mp hi
  cases e : P i with
  | true => rw [g'.ov P g.st i hi e]
  | false => cases e' : P' i with
    | false => rfl
    | true => rw [g.ov P' g'.st i hi e'] at e; cases e
/-- sums over the list of a set's places -/
theorem sum_filter {f : Nat → Int} {P : Nat → Bool} : ∀ l : List Nat, ((l.filter P).map f).sum = (l.map fun i => if P i then f i else 0).sum
  | [] => rfl
  | i :: r => by
    rw [List.filter_cons, List.map_cons, List.sum_cons, ← sum_filter r]
    cases P i <;> simp
/-- the paper: one behind the other -/
def rm (P : Nat → Bool) (l : Nat) : Nat → Bool := fun i => P i && !decide (i = l)
inductive Walk (fr : DI) (os : List O) : (Nat → Bool) → List Nat → (Nat → Bool) → Prop where
  | nil {P : Nat → Bool} : Walk fr os P [] P
  | cons {P E : Nat → Bool} {l : Nat} {x : Str} {w : List Nat} (g : Goes fr os P l x) (t : Walk fr os (rm P l) w E) : Walk fr os P (l :: w) E
theorem Walk.snoc {fr : DI} {os : List O} {P E : Nat → Bool} {w : List Nat} {l : Nat} {x : Str} (h : Walk fr os P w E) (g : Goes fr os E l x) : Walk fr os P (w ++ [l]) (rm E l) := by
  induction h with
  | nil => exact .cons g .nil
  | cons g' _ ih => exact .cons g' (ih g)
theorem filter_rm {P : Nat → Bool} {l : Nat} : ∀ {r : List Nat}, r.Nodup → l ∈ r → P l = true → (r.filter P).Perm (l :: r.filter (rm P l))
  | [], _, h, _ => by cases h
  | a :: r, nd, h, hp => by
    rw [List.nodup_cons] at nd
    rcases List.mem_cons.mp h with e | h
    · subst e
      have e2 : r.filter (rm P l) = r.filter P := List.filter_congr fun i hi => by
        have : i ≠ l := fun e => nd.1 (e ▸ hi)
        unfold rm; simp [this]
      rw [List.filter_cons_of_pos hp, List.filter_cons_of_neg (by unfold rm; simp), e2]
    · have hne : a ≠ l := fun e => nd.1 (e ▸ h)
      have ih := filter_rm (P := P) nd.2 h hp
      have ea : rm P l a = P a := by unfold rm; simp [hne]
      rw [List.filter_cons, List.filter_cons, ea]
      split
      · exact (ih.cons a).trans (List.Perm.swap l a _)
      · exact ih
theorem Walk.perm {fr : DI} {os : List O} {P E : Nat → Bool} {w : List Nat} (h : Walk fr os P w E) : ((List.range os.length).filter P).Perm (w ++ (List.range os.length).filter E) := by
  induction h with
  | nil => exact List.Perm.refl _
  | cons g _ ih => exact (filter_rm List.nodup_range (List.mem_range.mpr g.lt) g.hp).trans (ih.cons _)
theorem perm_sum {l l' : List Int} (p : l.Perm l') : l.sum = l'.sum := by
  induction p with
  | nil => rfl
  | cons x _ ih => rw [List.sum_cons, List.sum_cons, ih]
  | swap x y l => simp only [List.sum_cons]; omega
  | trans _ _ a b => exact a.trans b
theorem bal_rm {fr : DI} {os : List O} {P : Nat → Bool} {l : Nat} (hl : l < os.length) (hp : P l = true) (n : Str) : bal fr os (rm P l) n = bal fr os P n - flowAt os l n := by
  unfold bal sumP
  rw [← sum_filter, ← sum_filter]
  have := (filter_rm (P := P) (l := l) List.nodup_range (List.mem_range.mpr hl) hp).map (flowAt os · n)
  rw [perm_sum this, List.map_cons, List.sum_cons]
  omega
end My
set_option Elab.async false
set_option maxRecDepth 100000
set_option maxHeartbeats 1600000
namespace My
open PySem PySem.Spec PyProof.Rows L2
section
/-- enumerate(v) of anything whose iterator is told -/
theorem enum_new1 {v : Value} {o : Obj} {Hv : Heap → Prop} (B : Begins v o Hv) :
    Meets (Builtin.«enumerate.__new__» ⟨[.type "enumerate", v], []⟩) (fun _ R s => Hv s.heap ∧ R (.ok (.ret (.ref (s.heap.push o).objs.size)))
      { s with heap := (s.heap.push o).push ⟨.type "enumerate", none, .fields #[.none, .bool false, .ref s.heap.objs.size, rawInt 0, .none, .none], #[]⟩ }) :=
  .of_wp fun prog w A R s h => by
    obtain ⟨hp, g, d, tk, os⟩ := s
    obtain ⟨h1, h⟩ := h
    have f1 := sub_enumerate
    have q1 : ∀ {A' : Around} {E' : Value → Shared → Prop} {Q' : Value → Shared → Prop}, Q' (.ref hp.objs.size) ⟨hp.push o, g, d, tk, os⟩ → wpAny (model prog w) A' (pyIter v) Q' E' ⟨hp, g, d, tk, os⟩ :=
      fun q => B.iter _ _ _ _ ⟨hp, g, d, tk, os⟩ _ h1 q
    wp_walk using q1
    refine wpAny_stack_any fun _ => wpAny_pure ?_
    split
    case h_1 c _ _ _ _ _ =>
      cases (c == Value.type "enumerate") <;> (wp_walk using q1; exact ⟨_, rfl, h⟩)
    case h_2 =>
      wp_walk using q1
      exact ⟨_, rfl, h⟩
variable {prog : Program} {w : World} {A : Around} {E : Value → Shared → Prop} {s : Shared}
theorem enum_call1 {v : Value} {o : Obj} {Hv : Heap → Prop} {Q : Value → Shared → Prop} (B : Begins v o Hv) (h1 : Hv s.heap)
    (h : ∀ h', IsEnum h' (s.heap.objs.size + 1) s.heap.objs.size 0 .none → h'.get? s.heap.objs.size = some o → (∀ b o, s.heap.get? b = some o → h'.get? b = some o) → Q (.ref (s.heap.objs.size + 1)) { s with heap := h' }) :
    wpAny (model prog w) A (call (.type "enumerate") [v]) Q E s := by
  refine callType_new PySem.F.called_enumerate (by decide) (PySem.F.typeCall_enumerate_1 _) (PySem.F.newCall_enumerate_1 _) (fun x => PySem.F.args_object_init_2 x _) PySem.F.entry_enumerate_new (enum_new1 B) ⟨h1, ?_⟩
  have z : (s.heap.push o).objs.size = s.heap.objs.size + 1 := Heap.size_push ..
  show _ ∧ _
  rw [z]
  have he : IsEnum ((s.heap.push o).push ⟨.type "enumerate", none, .fields #[.none, .bool false, .ref s.heap.objs.size, rawInt 0, .none, .none], #[]⟩) (s.heap.objs.size + 1) s.heap.objs.size 0 .none :=
    z ▸ Heap.get?_push_size (s.heap.push o) rfl
  exact ⟨⟨_, he, rfl⟩, h _ he (Heap.get?_push_of_some _ (Heap.get?_push_size _ B.free)) fun b u x => Heap.get?_push_of_some _ (Heap.get?_push_of_some _ x)⟩
end
/-- the tuple at a, each item in a new pair with its place -/
def IteT (K : PySem.W.Frag) (a : Addr) : It where
  go := fun i H => ∃ (xs : List V) (x : V), SqT K H a xs ∧ xs[i]? = some x
  yld := fun i H v H' => ∃ T x, v = .ref T ∧ H T = none ∧ H' = upd H T (.tup [.int (i : Nat), x]) ∧ ∀ xs, SqT K H a xs → xs[i]? = some x
  stop := fun i H => ∃ xs : List V, SqT K H a xs ∧ xs.length = i
theorem turn_enumT {P : Program} {w : World} {K : PySem.W.Frag} {elts : List Expr} {kk : Nat} {tpos : Pos} (a e it : Addr) :
    Turn P w K (.Tuple elts kk tpos) (IteT K a) [e, it] e (fun i h => (∃ old, IsEnum h e it ((i : Nat) : Int) old) ∧ h.IsTupleIter it a i ∧ e ≠ it) where
  mem := List.mem_cons_self
  obj := by
    rintro i h ⟨⟨old, he⟩, ⟨o, ho, hc, hd⟩, _⟩ b hb
    rcases List.mem_cons.mp hb with rfl | hb
    · exact ⟨_, he, fun v q => nomatch q⟩
    · obtain rfl := List.mem_singleton.mp hb
      exact ⟨o, ho, fun v q => by rw [hd] at q; cases q⟩
  keep := by
    rintro i h h' ⟨⟨old, he⟩, hi, ne⟩ k
    exact ⟨⟨old, k e (by simp) _ he⟩, hi.at fun o q => k it (by simp) o q, ne⟩
  item := by
    rintro X rfl rfl rfl hc i pins s σ H E I hf ⟨⟨old, he⟩, hit, hne⟩ ⟨xs, x, hq, hx⟩
    obtain ⟨its, rv, pT, hz⟩ := I.tuple hq
    obtain ⟨u, hu, ru⟩ := rv.get hx
    have hlen : i < its.length := (List.getElem?_eq_some_iff.mp hu).1
    have le : e < s.heap.objs.size := Heap.lt_size he
    have li : it < s.heap.objs.size := by obtain ⟨_, q, _⟩ := hit; exact Heap.lt_size q
    have hat : a ≠ it := fun z => by
      obtain ⟨o1, q1, c1, _⟩ := hit
      obtain ⟨o2, q2, c2, _⟩ := pT
      rw [z, q1] at q2; cases q2; rw [c1] at c2; injection c2 with c2; exact absurd c2 (by decide)
    have hae : e ∉ [it, a] := fun z => by
      rcases List.mem_cons.mp z with z | z
      · exact hne z
      · rw [List.mem_singleton] at z
        obtain ⟨o2, q2, c2, _⟩ := pT
        rw [← z] at q2
        have q3 : s.heap.get? e = _ := he
        rw [q2] at q3; cases q3; injection c2 with c2; exact absurd c2 (by decide)
    have D := Draws.tuple (prog := X.prog) (w := X.w) (A := X.A.in1) (I.ok.hd hc) it a hat its.toArray
    refine wpAny_pyNext_enum_itemD D he ⟨hit, pT⟩ (by simpa using hlen) hne hae fun y h' tk hy ho st hT hs hk => ?_
    have ey : y = u := by
      have : its[i]? = some y := by simpa using hy
      rw [hu] at this; exact (Option.some.inj this).symm
    subst ey
    refine ⟨_, rfl, wpAny_letOwnedTupleGo_enum (s := { s with heap := h', toks := tk + 1 }) ho fun h'' he' sb => ?_⟩
    have hT2 : h''.get? s.heap.objs.size = some ⟨.type "tuple", none, .seq #[.int i tk, y] 0, #[]⟩ := (sb.2 _ (Nat.ne_of_gt le)).trans hT
    have new : ObjOk X.prog X.w (upd H s.heap.objs.size (.tup [.int (i : Nat), x])) h'' s.heap.objs.size (.tup [.int (i : Nat), x]) :=
      ⟨by show 2 ≤ sizeLine; decide, [.int i tk, y], .cons ⟨_, rfl⟩ (.cons ru .nil), ⟨_, hT2, rfl, _, rfl⟩⟩
    have J : Inv X pins σ (upd H s.heap.objs.size (.tup [.int (i : Nat), x])) { s with heap := h'', toks := tk + 1 } := by
      refine I.turnedNew (ch := [e, it]) (fun b o hb q => ?_) hf (Nat.le_refl _) new
      have n1 : b ≠ e := fun z => hb (by simp [z])
      have n2 : b ≠ it := fun z => hb (by simp [z])
      exact (sb.2 b n1).trans (hk b o n1 n2 q)
    refine ⟨.ref s.heap.objs.size, _, J, rfl, ⟨_, x, rfl, I.hok.fresh (Nat.le_refl _), rfl, fun ys hy => I.tuple_inj hy hq ▸ hx⟩, ⟨⟨y, ?_⟩, st.1.at fun o q => (sb.2 it (Ne.symm hne)).trans q, hne⟩, fun b hb => ?_⟩
    · rw [show ((i + 1 : Nat) : Int) = (i : Int) + 1 by omega]; exact he'
    · have lb : b < s.heap.objs.size := by
        rcases List.mem_cons.mp hb with rfl | z
        · exact le
        · rw [List.mem_singleton.mp z]; exact li
      rw [upd_ne (Nat.ne_of_lt lb)]; exact (hf b hb).1
  done := by
    rintro X rfl rfl rfl hc i pins s σ H E I hf ⟨⟨old, he⟩, hit, hne⟩ ⟨xs, hq, hx⟩
    obtain ⟨its, rv, pT, hz⟩ := I.tuple hq
    have hat : a ≠ it := fun z => by
      obtain ⟨o1, q1, c1, _⟩ := hit
      obtain ⟨o2, q2, c2, _⟩ := pT
      rw [z, q1] at q2; cases q2; rw [c1] at c2; injection c2 with c2; exact absurd c2 (by decide)
    have D := Draws.tuple (prog := X.prog) (w := X.w) (A := X.A.in1) (I.ok.hd hc) it a hat its.toArray
    have hl := rv.length
    have en : i = its.toArray.size := by simp; omega
    obtain ⟨f0, f1, f2, f3, f4, f5⟩ := hf it (by simp)
    refine wpAny_pyNext_enum_endD D he ⟨en ▸ hit, pT⟩ fun h' eb => ⟨rfl, ?_⟩
    exact I.turned (t' := s.toks) (fun b o hb q => eb b o hb q) f0 f1 f3 f4 f5
  self := fun A i s Q E st h => let ⟨⟨_, he⟩, _⟩ := st; wpAny_pyIter_enum he h
def iEnumT (K : PySem.W.Frag) (ta : TA) : TI := fun σ H R => ta σ H fun vs H1 => ∃ a xs, vs = [.ref a] ∧ SqT K H1 a xs ∧ R (IteT K a) H1
theorem pi_enumT {X : Cx} {e : Expr} {ta : TA} {p pos tpos : Pos} {elts : List Expr} {kk : Nat} (hg : Gl X "enumerate") (hm : X.mg "enumerate" = none) (ha : PA X [e] ta) (hs : starEach [e] X.env = [(false, eval e X.env)] := by rfl) :
    PI X (.Tuple elts kk tpos) (.Call (.Name "enumerate" p) [e] [] pos) (iEnumT X.K ta) := by
  refine ⟨fun pins s σ H R I h => Call_ (ld_blt I hg hm boot_enumerate ?_)⟩
  refine callWith_type1 (thn (ha.run pos pins s σ H _ I h) fun us s1 ⟨vs, H1, I1, r1, q1⟩ => ?_) hs rfl
  obtain ⟨a, xs, rfl, hq, q⟩ := q1
  obtain ⟨u, rfl, r⟩ := vals1 r1
  cases (show u = Value.ref a from r)
  obtain ⟨its, rv, pT, hz⟩ := I1.tuple hq
  refine enum_call1 (begins_tuple a its.toArray) pT fun h' he hit hk => wpAny_pyIter_enum he ?_
  have J : Inv X pins σ H1 { s1 with heap := h' } := I1.kept (t' := s1.toks) hk
  refine ⟨s1.heap.objs.size + 1, [s1.heap.objs.size + 1, s1.heap.objs.size], _, _, H1, rfl, J, turn_enumT a _ s1.heap.objs.size, ⟨⟨.none, he⟩, ⟨_, hit, rfl, rfl⟩, Nat.succ_ne_self _⟩, fun b hb => ?_, q⟩
  have lb : s1.heap.objs.size ≤ b := by
    rcases List.mem_cons.mp hb with rfl | z
    · exact Nat.le_add_right _ _
    · rw [List.mem_singleton.mp z]; exact Nat.le_refl _
  exact I1.fpOk lb (I1.hok.fresh lb)
theorem walk_enumT {K : PySem.W.Frag} {a : Addr} {xs : List V} : L2.Walk (IteT K a) xs.length (fun H => SqT K H a xs) (YPair (fun i => some (.int (i : Nat))) (fun i => xs[i]?)) where
  goes := fun i H hi q => ⟨xs, xs[i], q, List.getElem?_eq_getElem hi⟩
  stops := fun H q => ⟨xs, q, rfl⟩
  yields := fun i H x H' hi q ⟨T, y, e1, e2, e3, e4⟩ => ⟨T, _, y, e1, e2, e3, rfl, e4 xs q⟩
end My
set_option Elab.async false
set_option maxRecDepth 100000
set_option maxHeartbeats 800000
namespace My
open PySem L2 TL
/-! orders, sums and places in the heap -/
def kvI (h : DI) : List (Key × V) := h.map fun p => (Sum.inr p.1, V.int p.2)
theorem key_eq {a b : Str} : ((Sum.inr a : Key) = Sum.inr b) ↔ a = b := ⟨fun h => by injection h, fun h => by rw [h]⟩
theorem valV_kvI {h : DI} {n : Str} : valV (kvI h) (Sum.inr n) = (lookI h n).map V.int := by
  induction h with
  | nil => rfl
  | cons p r ih =>
    by_cases e : p.1 = n
    · have e1 : lookI (p :: r) n = some p.2 := by unfold lookI; simp [e]
      rw [e1]
      show valV ((Sum.inr p.1, V.int p.2) :: kvI r) _ = _
      rw [valV_pos (by rw [e])]; rfl
    · have e1 : lookI (p :: r) n = lookI r n := by unfold lookI; simp [e]
      rw [e1, ← ih]
      exact valV_neg (fun z => e (key_eq.mp z))
theorem putK_kvI {h : DI} {n : Str} {v : Int} : putK (kvI h) (Sum.inr n) (.int v) = kvI (putI h n v) := by
  unfold putK putI
  have ea : (kvI h).any (fun kv => decide (kv.1 = (Sum.inr n : Key))) = h.any fun p => decide (p.1 = n) := by
    unfold kvI
    rw [List.any_map]
    refine congrArg (fun f => h.any f) (funext fun p => ?_)
    show decide ((Sum.inr p.1 : Key) = Sum.inr n) = _
    by_cases e : p.1 = n
    · subst e; simp
    · rw [decide_eq_false e, decide_eq_false fun z => e (key_eq.mp z)]
  rw [ea]
  split
  · unfold kvI
    rw [List.map_map, List.map_map]
    refine List.map_congr_left fun p _ => ?_
    show (if (Sum.inr p.1 : Key) = Sum.inr n then ((Sum.inr p.1 : Key), V.int v) else (Sum.inr p.1, V.int p.2)) = ((Sum.inr (if p.1 = n then (n, v) else p).1 : Key), V.int (if p.1 = n then (n, v) else p).2)
    by_cases e : p.1 = n
    · rw [if_pos e, if_pos (by rw [e]), e]
    · rw [if_neg e, if_neg fun z => e (key_eq.mp z)]
  · unfold kvI; rw [List.map_append]; rfl
theorem get_kvI {H : Hp} {a : Addr} {h : DI} {n : Str} (e : H a = some (.dK (kvI h))) : DGet H a (.str n) ((lookI h n).map V.int) := valV_kvI ▸ DGet.k (k := Sum.inr n) e
theorem getD_kvI {h : DI} {n : Str} : ((lookI h n).map V.int).getD (.int 0) = .int (getI h n) := by
  unfold getI
  cases lookI h n <;> rfl
def vals (o : O) : List V := ordV o.py o.pe o.m o.r o.s o.e
def Ords (H : Hp) (rs : List Addr) (os : List O) : Prop := Paired (fun r o => H r = some (.tup (vals o))) rs os
theorem Ords.keep {H H' : Hp} {rs : List Addr} {os : List O} (h : Ords H rs os) (k : Keep [] H H') : Ords H' rs os := Paired.mapP h fun _ _ x => k _ _ x (by simp)
theorem Ords.at {H : Hp} : ∀ {rs : List Addr} {os : List O} {i : Nat} {o : O}, Ords H rs os → os[i]? = some o → ∃ r, rs[i]? = some r ∧ H r = some (.tup (vals o))
  | _, _, _, _, .nil, e => by simp at e
  | _, _, 0, _, .cons r t, e => by simp at e; subst e; exact ⟨_, rfl, r⟩
  | _, _, i + 1, o, .cons _ t, e => by
    obtain ⟨r, h1, h2⟩ := Ords.at (i := i) (o := o) t (by simpa using e)
    exact ⟨r, by simpa using h1, h2⟩
theorem Ords.len {H : Hp} {rs : List Addr} {os : List O} (h : Ords H rs os) : rs.length = os.length := Paired.length h
def LotAt (H : Hp) (x : Addr) (os : List O) : Prop := ∃ rs : List Addr, (H x = some (.lst (rs.map V.ref)) ∨ H x = some (.tup (rs.map V.ref))) ∧ Ords H rs os
theorem LotAt.keep {H H' : Hp} {x : Addr} {os : List O} (h : LotAt H x os) (k : Keep [] H H') : LotAt H' x os := by
  obtain ⟨rs, h1, h2⟩ := h
  exact ⟨rs, h1.imp (fun z => k _ _ z (by simp)) fun z => k _ _ z (by simp), h2.keep k⟩
structure OkF (fr : DI) : Prop where
  nd : (fr.map (·.1)).Nodup
  nm : ∀ p ∈ fr, NameS p.1
  nn : ∀ p ∈ fr, 0 ≤ p.2
  size : fr.length ≤ 1000
theorem OkF.get {fr : DI} (f : OkF fr) (n : Str) : 0 ≤ getI fr n := by
  unfold getI
  cases e : lookI fr n with
  | none => exact Int.le_refl 0
  | some v => exact f.nn _ (mem_lookI e)
theorem Keep.base {ds : List Addr} {H0 H H' : Hp} (k0 : Keep [] H0 H) (k : Keep ds H H') (h : ∀ d ∈ ds, H0 d = none) : Keep [] H0 H' := fun b o e _ => by
  refine k b o (k0 b o e (by simp)) fun hb => ?_
  rw [h b hb] at e; cases e
/-- behind a lock -/
theorem Keep.unlock {H H' : Hp} {d : Addr} {od : Obj} {u : HO} (h : H d = some u) (k : Keep [] (upd H d (.frz od u)) H') : Keep [] H (upd H' d u) := fun b o e _ => by
  by_cases hb : b = d
  · subst hb; rw [upd_same]; rw [h] at e; exact e
  · rw [upd_ne hb]; exact k b o (by rw [upd_ne hb]; exact e) (by simp)
theorem NameS.v {z : Str} (h : NameS z) : nameV (.str z) = true := by
  show nameB z = true
  unfold nameB
  rw [decide_eq_true h.1, decide_eq_true h.2.1, Bool.true_and, Bool.true_and]
  exact List.all_eq_true.mpr fun c hc => by
    have := h.2.2 c hc
    rw [decide_eq_true this.1, decide_eq_true this.2]; rfl
theorem NameS.len {z : Str} (h : NameS z) : z.length ≤ sizeLine := by
  have := h.2.1
  rw [len_tl]; have : sizeLine = 16777216 := sizeLine_eq; omega
theorem ord_true {o : O} (h : OkO o) : isOrdL (vals o) = true := by
  show (decide (V.str "order" = .str "order") && (nameV (.str o.py) && (nameV (.str o.pe) && (!decide (V.str o.py = .str o.pe) && (rngV 1 1000000000 (.int o.m) && (rngV 0 9 (.int o.r) && (geV 0 (.int o.s) && (geV 0 (.int o.e) && ltV (.int o.s) (.int o.e))))))))) = true
  have e : ¬ V.str o.py = .str o.pe := fun z => h.ne (by injection z)
  have := h.s0; have := h.e0
  rw [h.n1.v, h.n2.v, decide_eq_false e]
  show (decide _ && (true && (true && (!false && ((decide (1 ≤ o.m) && decide (o.m ≤ 1000000000)) && ((decide (0 ≤ o.r) && decide (o.r ≤ 9)) && (decide (0 ≤ o.s) && (decide (0 ≤ o.e) && decide (o.s < o.e)))))))) ) = true
  rw [decide_eq_true h.m0, decide_eq_true h.m1, decide_eq_true h.r0, decide_eq_true h.r1, decide_eq_true h.s0, decide_eq_true h.e0, decide_eq_true (show 0 ≤ o.e by omega)]
  rfl
section
variable {P : Program} {w : World} {K : PySem.W.Frag} {mg : Str → Option Value} {base : Heap}
def sp_islist : Sp := fun vs H Q _ => ∃ a xs, vs = [.ref a] ∧ (H a = some (.lst xs) ∨ H a = some (.tup xs)) ∧ ∀ H', Keep [] H H' → Q (.bl true) H'
theorem p_is_list (T : Txt K mg) : Pr P w K mg base "is_list" s_is_list ["thing"] 1 sp_islist := by
  obtain ⟨f, fd, D⟩ := T.d_is_list
  refine ⟨f, fd, D, D.F.ok sc_is_list (fun vs H Q E h => ?_) (fun cdv A outer s H vs Q E hr h => ?_)⟩
  · obtain ⟨a, xs, rfl, _⟩ := h; rfl
  · obtain ⟨a, xs, rfl, ha, q⟩ := h
    refine ⟨_, (pss_one (ps_ret (pe_callB call_isiT (by rfl) T.z_isinstance (by decide +kernel) (pa_cons (pv 0) (pa_cons (pe_tup (pa_cons (pe_bltn (by rfl) T.z_list (by decide +kernel) (v := .ty "list") rfl) (pa_cons (pe_bltn (by rfl) T.z_tuple (by decide +kernel) (v := .ty "tuple") rfl) pa_nil))) pa_nil))))), ?_⟩
    refine ⟨_, rfl, by show 2 ≤ sizeLine; decide, fun p hp => ?_⟩
    have k := Keep.upd_new (ds := []) hp (o := .tup [V.ty "list", .ty "tuple"])
    rcases ha with ha | ha
    · exact ⟨_, p, _, _, _, true, rfl, upd_same, .cons (.ty _) (.cons (.ty _) .nil), .base (.lst (k _ _ ha (by simp))), kitAny_cons (b := true) (kit_ty (by decide +kernel)) (fun z => by cases z) (fun _ => rfl), q _ k⟩
    · exact ⟨_, p, _, _, _, true, rfl, upd_same, .cons (.ty _) (.cons (.ty _) .nil), .base (.tup (k _ _ ha (by simp))), kitAny_cons (b := false) (kit_ty (by decide +kernel)) (fun _ => kitAny_cons (b := true) (kit_ty (by decide +kernel)) (fun z => by cases z) (fun _ => rfl)) (fun z => by cases z), q _ k⟩
theorem all_rep (n : Nat) : (List.replicate n true).all id = true := by
  rw [List.all_eq_true]; intro x hx; exact (List.mem_replicate.mp hx).2
theorem vals_things {H : Hp} {o : O} (h : OkO o) : ∀ x ∈ vals o, ∃ n, Thing H x n := by
  intro x hx
  unfold vals ordV at hx
  simp only [List.mem_cons, List.not_mem_nil, or_false] at hx
  rcases hx with rfl | rfl | rfl | rfl | rfl | rfl | rfl
  · exact ⟨_, .str _ (by decide +kernel)⟩
  · exact ⟨_, .str _ h.n1.len⟩
  · exact ⟨_, .str _ h.n2.len⟩
  · exact ⟨_, .int _⟩
  · exact ⟨_, .int _⟩
  · exact ⟨_, .int _⟩
  · exact ⟨_, .int _⟩
def sp_look : Sp := fun vs H Q _ => ∃ pf po fr os, vs = [.ref pf, .ref po, .int 60] ∧ H pf = some (.dK (kvI fr)) ∧ LotAt H po os ∧ OkF fr ∧ (∀ o ∈ os, OkO o) ∧ os.length ≤ 60 ∧ ∀ H', Keep [] H H' → Q .non H'
theorem p_look_at_round (T : Txt K mg) : Pr P w K mg base "look_at_round" s_look_at_round ["free", "orders", "most"] 5 sp_look := by
  obtain ⟨f, fd, D⟩ := T.d_look_at_round
  obtain ⟨f_is_order, fd_is_order, D_is_order, G_is_order⟩ := p_is_order (P := P) (w := w) (base := base) T; obtain ⟨f_is_name, fd_is_name, D_is_name, G_is_name⟩ := p_is_name (P := P) (w := w) (base := base) T; obtain ⟨f_is_whole, fd_is_whole, D_is_whole, G_is_whole⟩ := p_is_whole (P := P) (w := w) (base := base) T; obtain ⟨f_is_list, fd_is_list, D_is_list, G_is_list⟩ := p_is_list (P := P) (w := w) (base := base) T
  refine ⟨f, fd, D, D.F.ok sc_look_at_round (fun vs H Q E h => ?_) (fun cdv A outer s H vs Q E hr h => ?_)⟩
  · obtain ⟨a, b, c, d, rfl, _⟩ := h; rfl
  · obtain ⟨pf, po, fr, os, rfl, hf, ⟨rs, ho, hO⟩, F, G, l60, q⟩ := h
    rcases ho with ho | ho
    · refine ⟨_, (pss_cons (ps_if (PW.pt (pw_or (pt_not (pt_val (pe_callB call_isi (by rfl) T.z_isinstance (by decide +kernel) (pa_cons (pv 0) (pa_cons (pe_bltn (by rfl) T.z_dict (by decide +kernel) (v := .ty "dict") rfl) pa_nil))))) (pw_or (pt_not (pt_val (pe_call G_is_list (hr.mono (by decide)) rfl D_is_list.m D_is_list.F.kp D_is_list.b .nil pass0 (pa_cons (pv 1) pa_nil)))) (pw_or1 (pt_cmpR op_gt (pe_callB call_len_seq (by rfl) T.z_len (by decide +kernel) (pa_cons (pv 1) pa_nil)) (pv 2) (nomark _)))))) (pss_one ps_never) pss_nil)
      (pss_cons (ps_if (pt_not (pt_val (pe_callB (cr_all rfl) (by rfl) T.z_all (by decide +kernel) (pa_cons (pe_lock (pe_lc (own := [("name", 3), ("number", 4)]) (g := gTup K 2 (gCons (gName 3) (gCons (gName 4) gNil))) (tt := tYes) rfl sc_look_at_round.nd (pi_items (pv 0)) (blkOk_by (own := [("name", 3), ("number", 4)]) (N := N_look_at_round) (sc := defScope s_look_at_round) (by decide +kernel)) (fun _ _ _ _ _ => (pg_tup rfl (pgs_cons (pg_name (i := 3) sc_look_at_round.nd rfl (Or.inl rfl)) (pgs_cons (pg_name (i := 4) sc_look_at_round.nd rfl (Or.inl rfl)) pgs_nil)))) (fun _ _ _ _ _ => pts_nil) (fun _ _ _ _ _ => (pe_and (pe_call G_is_name (hr.mono (by decide)) rfl D_is_name.m D_is_name.F.kp D_is_name.b .nil pass0 (pa_cons (pv 3) pa_nil)) (pe_one (pe_call G_is_whole (hr.mono (by decide)) rfl D_is_whole.m D_is_whole.F.kp D_is_whole.b .nil pass0 (pa_cons (pv 4) pa_nil))))))) pa_nil)))) (pss_one ps_never) pss_nil)
      (pss_one (ps_if (pt_not (pt_val (pe_callB (cr_all rfl) (by rfl) T.z_all (by decide +kernel) (pa_cons (pe_lc (own := [("order", 5)]) (g := gName 5) (tt := tYes) rfl sc_look_at_round.nd (pi_list (pv 1)) (blkOk_by (own := [("order", 5)]) (N := N_look_at_round) (sc := defScope s_look_at_round) (by decide +kernel)) (fun _ _ _ _ _ => (pg_name (i := 5) sc_look_at_round.nd rfl (Or.inl rfl))) (fun _ _ _ _ _ => pts_nil) (fun _ _ _ _ _ => (pe_call G_is_order (hr.mono (by decide)) rfl D_is_order.m D_is_order.F.kp D_is_order.b .nil pass0 (pa_cons (pv 5) pa_nil)))) pa_nil)))) (pss_one ps_never) pss_nil)))), ?_⟩
      refine ⟨_, rfl, _, _, _, _, true, rfl, .ty _, .base (.dK hf), kit_ty (by decide +kernel), _, rfl, iteF ?_⟩
      refine ⟨_, rfl, po, _, rfl, .inl ho, fun H1 K1 => ⟨_, rfl, iteF ?_⟩⟩
      have hf1 := K1 _ _ hf (by simp)
      have ho1 := K1 _ _ ho (by simp)
      have lr := hO.len
      refine ⟨_, rfl, po, _, rfl, .inl (SqL.of ho1), _, rfl, _, _, rfl, rfl, _, rfl, ?_⟩
      rw [decide_eq_false (show ¬ (60 : Int) < ((rs.map V.ref).length : Nat) by rw [List.length_map]; omega)]
      refine iteF ?_
      refine ⟨pf, _, hf1, trivial, fun od => ⟨_, rfl, pf, od, _, rfl, upd_same, fun L hL => lc_it walk_items (fun i H4 => Keep [] (upd H1 pf (.frz od (.dK (kvI fr)))) H4 ∧ H4 L = some (.lst ((List.replicate i true).map V.bl))) ⟨Keep.upd_new hL, upd_same⟩ (fun i H4 _ ⟨k, _⟩ => k _ _ upd_same (by simp)) ?_ ?_⟩⟩
      · rintro i x H4 H5 hi ⟨K4, h4⟩ ⟨T', a, b, rfl, hT, rfl, ea, eb⟩
        have hi' : i < fr.length := by unfold kvI at hi; rw [List.length_map] at hi; exact hi
        obtain ⟨p, hp⟩ : ∃ p, fr[i]? = some p := ⟨fr[i], List.getElem?_eq_getElem hi'⟩
        have pm := List.mem_of_getElem? hp
        have ek : (kvI fr)[i]? = some (Sum.inr p.1, V.int p.2) := by unfold kvI; rw [List.getElem?_map, hp]; rfl
        have ea : ((kvI fr)[i]?).map (fun kv => kV kv.1) = some a := ea
        have eb : ((kvI fr)[i]?).map Prod.snd = some b := eb
        rw [ek] at ea eb
        obtain rfl : V.str p.1 = a := Option.some.inj ea
        obtain rfl : V.int p.2 = b := Option.some.inj eb
        have nm := (F.nm p pm).v
        have KT := Keep.upd_new (ds := []) hT (o := .tup [V.str p.1, .int p.2])
        refine ⟨T', _, rfl, SqT.of upd_same, rfl, _, _, rfl, _, _, rfl, rfl, rfl, tYes_go (yes ?_)⟩
        refine ⟨_, rfl, _, _, rfl, .str _ (F.nm p pm).len, fun H6 K6 => ⟨_, rfl, ite2 (fun _ => ?_) (fun h => absurd nm h)⟩⟩
        refine ⟨_, rfl, _, _, rfl, .int _, fun H7 K7 => ?_⟩
        have K47 := (KT.trans K6).trans K7
        refine ⟨_, K47 _ _ h4 (by simp), ?_, (K4.trans K47).trans_new hL, ?_⟩
        · rw [List.length_map, List.length_replicate]; have := F.size; have : sizeLine = 16777216 := sizeLine_eq; omega
        · rw [upd_same, List.replicate_succ', List.map_append, show geV 0 (.int p.2) = true from decide_eq_true (F.nn p pm)]; rfl
      · rintro H4 ⟨K4, h4⟩
        have nL : L ≠ pf := (ne_of_none (upd_same (H := H1)) hL).symm
        refine ⟨K4 _ _ upd_same (by simp), L, _, rfl, SqL.of (by rw [upd_ne nL]; exact h4), _, rfl, ?_⟩
        rw [all_rep]
        refine iteF ?_
        have K5 : Keep [] H (upd H4 pf (.dK (kvI fr))) := K1.trans (Keep.unlock hf1 K4)
        have ho5 := K5 _ _ ho (by simp)
        have hO5 := hO.keep K5
        generalize upd H4 pf (.dK (kvI fr)) = H5 at K5 ho5 hO5
        refine ⟨_, rfl, po, rfl, ⟨_, SqL.of ho5⟩, fun L2 hL2 => ?_⟩
        refine lc_list (K := K) (a := po) (xs := rs.map V.ref) (fun i H6 => Keep [] H5 H6 ∧ H6 L2 = some (.lst ((List.replicate i true).map V.bl))) ⟨Keep.upd_new hL2, upd_same⟩ (fun i H6 _ ⟨k, _⟩ => SqL.of (k _ _ ho5 (by simp))) ?_ ?_
        · rintro i x H6 hx ⟨K6, h6⟩
          have hi' : i < os.length := by have := (List.getElem?_eq_some_iff.mp hx).1; rw [List.length_map] at this; omega
          obtain ⟨r, hr1, hr2⟩ := hO5.at (List.getElem?_eq_getElem hi')
          rw [List.getElem?_map, hr1] at hx
          obtain rfl : V.ref r = x := Option.some.inj hx
          have om := G _ (List.getElem_mem hi')
          refine ⟨rfl, tYes_go (yes ?_)⟩
          refine ⟨_, rfl, _, rfl, .inr ⟨r, _, rfl, K6 _ _ hr2 (by simp), vals_things om, fun H7 K7 => ?_⟩⟩
          refine ⟨_, K7 _ _ h6 (by simp), ?_, (K6.trans K7).trans_new hL2, ?_⟩
          · rw [List.length_map, List.length_replicate]; have : sizeLine = 16777216 := sizeLine_eq; omega
          · rw [upd_same, List.replicate_succ', List.map_append, ord_true om]; rfl
        · rintro H6 ⟨K6, h6⟩
          refine ⟨L2, _, rfl, SqL.of h6, _, rfl, ?_⟩
          rw [all_rep]
          exact iteF (q _ (K5.trans K6))
    · refine ⟨_, (pss_cons (ps_if (PW.pt (pw_or (pt_not (pt_val (pe_callB call_isi (by rfl) T.z_isinstance (by decide +kernel) (pa_cons (pv 0) (pa_cons (pe_bltn (by rfl) T.z_dict (by decide +kernel) (v := .ty "dict") rfl) pa_nil))))) (pw_or (pt_not (pt_val (pe_call G_is_list (hr.mono (by decide)) rfl D_is_list.m D_is_list.F.kp D_is_list.b .nil pass0 (pa_cons (pv 1) pa_nil)))) (pw_or1 (pt_cmpR op_gt (pe_callB call_len_seq (by rfl) T.z_len (by decide +kernel) (pa_cons (pv 1) pa_nil)) (pv 2) (nomark _)))))) (pss_one ps_never) pss_nil)
      (pss_cons (ps_if (pt_not (pt_val (pe_callB (cr_all rfl) (by rfl) T.z_all (by decide +kernel) (pa_cons (pe_lock (pe_lc (own := [("name", 3), ("number", 4)]) (g := gTup K 2 (gCons (gName 3) (gCons (gName 4) gNil))) (tt := tYes) rfl sc_look_at_round.nd (pi_items (pv 0)) (blkOk_by (own := [("name", 3), ("number", 4)]) (N := N_look_at_round) (sc := defScope s_look_at_round) (by decide +kernel)) (fun _ _ _ _ _ => (pg_tup rfl (pgs_cons (pg_name (i := 3) sc_look_at_round.nd rfl (Or.inl rfl)) (pgs_cons (pg_name (i := 4) sc_look_at_round.nd rfl (Or.inl rfl)) pgs_nil)))) (fun _ _ _ _ _ => pts_nil) (fun _ _ _ _ _ => (pe_and (pe_call G_is_name (hr.mono (by decide)) rfl D_is_name.m D_is_name.F.kp D_is_name.b .nil pass0 (pa_cons (pv 3) pa_nil)) (pe_one (pe_call G_is_whole (hr.mono (by decide)) rfl D_is_whole.m D_is_whole.F.kp D_is_whole.b .nil pass0 (pa_cons (pv 4) pa_nil))))))) pa_nil)))) (pss_one ps_never) pss_nil)
      (pss_one (ps_if (pt_not (pt_val (pe_callB (cr_all rfl) (by rfl) T.z_all (by decide +kernel) (pa_cons (pe_lc (own := [("order", 5)]) (g := gName 5) (tt := tYes) rfl sc_look_at_round.nd (pi_tup (pv 1)) (blkOk_by (own := [("order", 5)]) (N := N_look_at_round) (sc := defScope s_look_at_round) (by decide +kernel)) (fun _ _ _ _ _ => (pg_name (i := 5) sc_look_at_round.nd rfl (Or.inl rfl))) (fun _ _ _ _ _ => pts_nil) (fun _ _ _ _ _ => (pe_call G_is_order (hr.mono (by decide)) rfl D_is_order.m D_is_order.F.kp D_is_order.b .nil pass0 (pa_cons (pv 5) pa_nil)))) pa_nil)))) (pss_one ps_never) pss_nil)))), ?_⟩
      refine ⟨_, rfl, _, _, _, _, true, rfl, .ty _, .base (.dK hf), kit_ty (by decide +kernel), _, rfl, iteF ?_⟩
      refine ⟨_, rfl, po, _, rfl, .inr ho, fun H1 K1 => ⟨_, rfl, iteF ?_⟩⟩
      have hf1 := K1 _ _ hf (by simp)
      have ho1 := K1 _ _ ho (by simp)
      have lr := hO.len
      refine ⟨_, rfl, po, _, rfl, .inr (SqT.of ho1), _, rfl, _, _, rfl, rfl, _, rfl, ?_⟩
      rw [decide_eq_false (show ¬ (60 : Int) < ((rs.map V.ref).length : Nat) by rw [List.length_map]; omega)]
      refine iteF ?_
      refine ⟨pf, _, hf1, trivial, fun od => ⟨_, rfl, pf, od, _, rfl, upd_same, fun L hL => lc_it walk_items (fun i H4 => Keep [] (upd H1 pf (.frz od (.dK (kvI fr)))) H4 ∧ H4 L = some (.lst ((List.replicate i true).map V.bl))) ⟨Keep.upd_new hL, upd_same⟩ (fun i H4 _ ⟨k, _⟩ => k _ _ upd_same (by simp)) ?_ ?_⟩⟩
      · rintro i x H4 H5 hi ⟨K4, h4⟩ ⟨T', a, b, rfl, hT, rfl, ea, eb⟩
        have hi' : i < fr.length := by unfold kvI at hi; rw [List.length_map] at hi; exact hi
        obtain ⟨p, hp⟩ : ∃ p, fr[i]? = some p := ⟨fr[i], List.getElem?_eq_getElem hi'⟩
        have pm := List.mem_of_getElem? hp
        have ek : (kvI fr)[i]? = some (Sum.inr p.1, V.int p.2) := by unfold kvI; rw [List.getElem?_map, hp]; rfl
        have ea : ((kvI fr)[i]?).map (fun kv => kV kv.1) = some a := ea
        have eb : ((kvI fr)[i]?).map Prod.snd = some b := eb
        rw [ek] at ea eb
        obtain rfl : V.str p.1 = a := Option.some.inj ea
        obtain rfl : V.int p.2 = b := Option.some.inj eb
        have nm := (F.nm p pm).v
        have KT := Keep.upd_new (ds := []) hT (o := .tup [V.str p.1, .int p.2])
        refine ⟨T', _, rfl, SqT.of upd_same, rfl, _, _, rfl, _, _, rfl, rfl, rfl, tYes_go (yes ?_)⟩
        refine ⟨_, rfl, _, _, rfl, .str _ (F.nm p pm).len, fun H6 K6 => ⟨_, rfl, ite2 (fun _ => ?_) (fun h => absurd nm h)⟩⟩
        refine ⟨_, rfl, _, _, rfl, .int _, fun H7 K7 => ?_⟩
        have K47 := (KT.trans K6).trans K7
        refine ⟨_, K47 _ _ h4 (by simp), ?_, (K4.trans K47).trans_new hL, ?_⟩
        · rw [List.length_map, List.length_replicate]; have := F.size; have : sizeLine = 16777216 := sizeLine_eq; omega
        · rw [upd_same, List.replicate_succ', List.map_append, show geV 0 (.int p.2) = true from decide_eq_true (F.nn p pm)]; rfl
      · rintro H4 ⟨K4, h4⟩
        have nL : L ≠ pf := (ne_of_none (upd_same (H := H1)) hL).symm
        refine ⟨K4 _ _ upd_same (by simp), L, _, rfl, SqL.of (by rw [upd_ne nL]; exact h4), _, rfl, ?_⟩
        rw [all_rep]
        refine iteF ?_
        have K5 : Keep [] H (upd H4 pf (.dK (kvI fr))) := K1.trans (Keep.unlock hf1 K4)
        have ho5 := K5 _ _ ho (by simp)
        have hO5 := hO.keep K5
        generalize upd H4 pf (.dK (kvI fr)) = H5 at K5 ho5 hO5
        refine ⟨_, rfl, po, rfl, ⟨_, SqT.of ho5⟩, fun L2 hL2 => ?_⟩
        refine lc_tup (K := K) (a := po) (xs := rs.map V.ref) (fun i H6 => Keep [] H5 H6 ∧ H6 L2 = some (.lst ((List.replicate i true).map V.bl))) ⟨Keep.upd_new hL2, upd_same⟩ (fun i H6 _ ⟨k, _⟩ => SqT.of (k _ _ ho5 (by simp))) ?_ ?_
        · rintro i x H6 hx ⟨K6, h6⟩
          have hi' : i < os.length := by have := (List.getElem?_eq_some_iff.mp hx).1; rw [List.length_map] at this; omega
          obtain ⟨r, hr1, hr2⟩ := hO5.at (List.getElem?_eq_getElem hi')
          rw [List.getElem?_map, hr1] at hx
          obtain rfl : V.ref r = x := Option.some.inj hx
          have om := G _ (List.getElem_mem hi')
          refine ⟨rfl, tYes_go (yes ?_)⟩
          refine ⟨_, rfl, _, rfl, .inr ⟨r, _, rfl, K6 _ _ hr2 (by simp), vals_things om, fun H7 K7 => ?_⟩⟩
          refine ⟨_, K7 _ _ h6 (by simp), ?_, (K6.trans K7).trans_new hL2, ?_⟩
          · rw [List.length_map, List.length_replicate]; have : sizeLine = 16777216 := sizeLine_eq; omega
          · rw [upd_same, List.replicate_succ', List.map_append, ord_true om]; rfl
        · rintro H6 ⟨K6, h6⟩
          refine ⟨L2, _, rfl, SqL.of h6, _, rfl, ?_⟩
          rw [all_rep]
          exact iteF (q _ (K5.trans K6))
end
end My
set_option Elab.async false
set_option maxRecDepth 100000
set_option maxHeartbeats 800000
namespace My
open PySem L2 TL
section
variable {P : Program} {w : World} {K : PySem.W.Frag} {mg : Str → Option Value} {base : Heap}
theorem slA_all {H : Hp} {a : Addr} {xs : List V} {lo hi : Option Int} {Q : VK} (ha : H a = some (.tup xs)) (q : ∀ p H', Keep [] H H' → H' p = some (.tup (cutV xs lo hi)) → Q (.ref p) H') : rSlA K (.ref a) lo hi H Q := by
  refine ⟨a, xs, rfl, SqT.of ha, fun e => ?_, fun _ p hp => q p _ (Keep.upd_new hp) upd_same⟩
  refine q a H Keep.refl ?_
  have : cutV xs lo hi = xs := by
    unfold cutV
    rw [e.1, e.2, List.drop_zero, Nat.sub_zero, List.take_length]
  rw [this]; exact ha
theorem IsD_kvI {H : Hp} {a : Addr} {h : DI} (e : H a = some (.dK (kvI h))) : IsD H a := .inl ⟨_, .inl e⟩
theorem vals_cut (o : O) : cutV (vals o) (some 1) (some 4) = [.str o.py, .str o.pe, .int o.m] := rfl
theorem fold_len {fr : DI} : ∀ os : List O, (os.foldl stepI fr).length ≤ fr.length + 2 * os.length := by
  intro os
  induction os generalizing fr with
  | nil => exact Nat.le_refl _
  | cons o r ih =>
    have h1 := ih (fr := stepI fr o)
    have h2 : (stepI fr o).length ≤ fr.length + 2 := by
      unfold stepI
      have a := len_put (h := fr) (n := o.py) (v := getI fr o.py - o.m)
      have b := len_put (h := putI fr o.py (getI fr o.py - o.m)) (n := o.pe) (v := getI (putI fr o.py (getI fr o.py - o.m)) o.pe + o.m)
      show (putI _ _ _).length ≤ _
      omega
    rw [List.foldl_cons, List.length_cons]; omega
theorem fold_snoc {fr : DI} {os : List O} {i : Nat} {o : O} (h : os[i]? = some o) : (os.take (i + 1)).foldl stepI fr = stepI ((os.take i).foldl stepI fr) o := by
  rw [take_succ_of h, List.foldl_append]; rfl
def sp_have : Sp := fun vs H Q _ => ∃ pf po fr os, vs = [.ref pf, .ref po] ∧ H pf = some (.dK (kvI fr)) ∧ LotAt H po os ∧ OkF fr ∧ os.length ≤ 60 ∧ ∀ p H', H p = none → Keep [] H H' → H' p = some (.dK (kvI (os.foldl stepI fr))) → Q (.ref p) H'
theorem p_have_by_all (T : Txt K mg) : Pr P w K mg base "have_by_all" s_have_by_all ["free", "orders"] 1 sp_have := by
  obtain ⟨f, fd, D⟩ := T.d_have_by_all
  
  refine ⟨f, fd, D, D.F.ok sc_have_by_all (fun vs H Q E h => ?_) (fun cdv A outer s H vs Q E hr h => ?_)⟩
  · obtain ⟨a, b, c, d, rfl, _⟩ := h; rfl
  · obtain ⟨pf, po, fr, os, rfl, hf, ⟨rs, ho, hO⟩, F, l60, q⟩ := h
    have hsl : sizeLine = 16777216 := sizeLine_eq
    have hu := hu_of hr
    rcases ho with ho | ho
    · refine ⟨_, (pss_cons (ps_set (i := 2) sc_have_by_all.nd rfl (Or.inl rfl) (pe_callTy call_dictD (by rfl) T.z_dict (by decide +kernel) (pa_cons (pv 0) pa_nil)))
      (pss_cons (ps_for PassesOwn.never rfl (pi_list (pv 1)) (pg_name (i := 3) sc_have_by_all.nd rfl (Or.inl rfl)) (pss_cons (ps_asg (pe_slice sl_tupA (pv 3) (po_some pe_int) (po_some pe_int)) (pg_tup rfl (pgs_cons (pg_name (i := 4) sc_have_by_all.nd rfl (Or.inl rfl)) (pgs_cons (pg_name (i := 5) sc_have_by_all.nd rfl (Or.inl rfl)) (pgs_cons (pg_name (i := 6) sc_have_by_all.nd rfl (Or.inl rfl)) pgs_nil)))))
      (pss_cons (ps_dput hu (pv 2) (pv 4) (pe_op op_sub (pe_dget2 hu (pv 2) (pv 4) pe_int ⟨rfl, rfl, rfl, rfl⟩) (pv 6)) rfl)
      (pss_one (ps_dput hu (pv 2) (pv 5) (pe_op op_add (pe_dget2 hu (pv 2) (pv 5) pe_int ⟨rfl, rfl, rfl, rfl⟩) (pv 6)) rfl)))))
      (pss_one (ps_ret (pv 2))))), ?_⟩
      refine ⟨_, rfl, pf, _, rfl, .inl hf, fun p hp => ?_⟩
      refine ⟨_, rfl, po, rfl, ⟨_, SqL.of (Keep.upd_new (ds := []) hp _ _ ho (by simp))⟩, for_list (K := K) (a := po) (xs := rs.map V.ref) (fun i σ H2 => Keep [] H H2 ∧ H2 p = some (.dK (kvI ((os.take i).foldl stepI fr))) ∧ ∃ v3 v4 v5 v6, σ = [some (.ref pf), some (.ref po), some (.ref p), v3, v4, v5, v6]) ⟨Keep.upd_new hp, upd_same, none, none, none, none, rfl⟩ (fun i σ H2 _ ⟨k, _⟩ => SqL.of (k _ _ ho (by simp))) ?_ ?_⟩
      · rintro i x σ H2 hx ⟨K2, h2, v3, v4, v5, v6, rfl⟩
        have hi' : i < os.length := by have := (List.getElem?_eq_some_iff.mp hx).1; rw [List.length_map] at this; have := hO.len; omega
        obtain ⟨r, hr1, hr2⟩ := (hO.keep K2).at (List.getElem?_eq_getElem hi')
        rw [List.getElem?_map, hr1] at hx
        obtain rfl : V.ref r = x := Option.some.inj hx
        generalize eo : os[i] = o at hr2
        have hoi : os[i]? = some o := by rw [List.getElem?_eq_getElem hi', eo]
        rw [fold_snoc hoi]
        have L := fold_len (fr := fr) (os.take i)
        have Lt : (os.take i).length ≤ 60 := by rw [List.length_take]; omega
        have := F.size
        generalize (os.take i).foldl stepI fr = g at h2 L
        refine ⟨_, rfl, _, rfl, _, rfl, slA_all hr2 fun T' H3 K3 h3 => ?_⟩
        rw [vals_cut] at h3
        refine ⟨T', _, rfl, SqT.of h3, rfl, _, _, rfl, _, _, rfl, _, _, rfl, rfl, ?_⟩
        have h23 := K3 _ _ h2 (by simp)
        refine ⟨_, rfl, p, rfl, IsD_kvI h23, _, rfl, _, get_kvI h23, ?_⟩
        rw [getD_kvI]
        refine ⟨_, rfl, _, _, rfl, rfl, _, rfl, _, rfl, p, _, rfl, DPutS h23 (by unfold kvI; rw [List.length_map]; omega), ?_⟩
        have e1 : putK (kvI g) (Sum.inr o.py) (.int (getI g o.py - o.m)) = kvI (putI g o.py (getI g o.py - o.m)) := putK_kvI
        rw [e1]
        have l1 := len_put (h := g) (n := o.py) (v := getI g o.py - o.m)
        have K4 : Keep [] H (upd H3 p (.dK (kvI (putI g o.py (getI g o.py - o.m))))) := (K2.trans K3).trans_new hp
        have h4 : (upd H3 p (.dK (kvI (putI g o.py (getI g o.py - o.m))))) p = _ := upd_same
        have e2 : stepI g o = putI (putI g o.py (getI g o.py - o.m)) o.pe (getI (putI g o.py (getI g o.py - o.m)) o.pe + o.m) := rfl
        rw [e2]
        generalize putI g o.py (getI g o.py - o.m) = g1 at K4 h4 l1
        generalize upd H3 p (.dK (kvI g1)) = H4 at K4 h4
        refine ⟨_, rfl, p, rfl, IsD_kvI h4, _, rfl, _, get_kvI h4, ?_⟩
        rw [getD_kvI]
        refine ⟨_, rfl, _, _, rfl, rfl, _, rfl, _, rfl, p, _, rfl, DPutS h4 (by unfold kvI; rw [List.length_map]; omega), ?_⟩
        have e3 : putK (kvI g1) (Sum.inr o.pe) (.int (getI g1 o.pe + o.m)) = kvI (putI g1 o.pe (getI g1 o.pe + o.m)) := putK_kvI
        rw [e3]
        exact ⟨K4.trans_new hp, upd_same, _, _, _, _, rfl⟩
      · rintro σ H2 ⟨K2, h2, v3, v4, v5, v6, rfl⟩
        rw [List.length_map, hO.len, List.take_length] at h2
        exact ⟨_, rfl, q p H2 hp K2 h2⟩
    · refine ⟨_, (pss_cons (ps_set (i := 2) sc_have_by_all.nd rfl (Or.inl rfl) (pe_callTy call_dictD (by rfl) T.z_dict (by decide +kernel) (pa_cons (pv 0) pa_nil)))
      (pss_cons (ps_for PassesOwn.never rfl (pi_tup (pv 1)) (pg_name (i := 3) sc_have_by_all.nd rfl (Or.inl rfl)) (pss_cons (ps_asg (pe_slice sl_tupA (pv 3) (po_some pe_int) (po_some pe_int)) (pg_tup rfl (pgs_cons (pg_name (i := 4) sc_have_by_all.nd rfl (Or.inl rfl)) (pgs_cons (pg_name (i := 5) sc_have_by_all.nd rfl (Or.inl rfl)) (pgs_cons (pg_name (i := 6) sc_have_by_all.nd rfl (Or.inl rfl)) pgs_nil)))))
      (pss_cons (ps_dput hu (pv 2) (pv 4) (pe_op op_sub (pe_dget2 hu (pv 2) (pv 4) pe_int ⟨rfl, rfl, rfl, rfl⟩) (pv 6)) rfl)
      (pss_one (ps_dput hu (pv 2) (pv 5) (pe_op op_add (pe_dget2 hu (pv 2) (pv 5) pe_int ⟨rfl, rfl, rfl, rfl⟩) (pv 6)) rfl)))))
      (pss_one (ps_ret (pv 2))))), ?_⟩
      refine ⟨_, rfl, pf, _, rfl, .inl hf, fun p hp => ?_⟩
      refine ⟨_, rfl, po, rfl, ⟨_, SqT.of (Keep.upd_new (ds := []) hp _ _ ho (by simp))⟩, for_tup (K := K) (a := po) (xs := rs.map V.ref) (fun i σ H2 => Keep [] H H2 ∧ H2 p = some (.dK (kvI ((os.take i).foldl stepI fr))) ∧ ∃ v3 v4 v5 v6, σ = [some (.ref pf), some (.ref po), some (.ref p), v3, v4, v5, v6]) ⟨Keep.upd_new hp, upd_same, none, none, none, none, rfl⟩ (fun i σ H2 _ ⟨k, _⟩ => SqT.of (k _ _ ho (by simp))) ?_ ?_⟩
      · rintro i x σ H2 hx ⟨K2, h2, v3, v4, v5, v6, rfl⟩
        have hi' : i < os.length := by have := (List.getElem?_eq_some_iff.mp hx).1; rw [List.length_map] at this; have := hO.len; omega
        obtain ⟨r, hr1, hr2⟩ := (hO.keep K2).at (List.getElem?_eq_getElem hi')
        rw [List.getElem?_map, hr1] at hx
        obtain rfl : V.ref r = x := Option.some.inj hx
        generalize eo : os[i] = o at hr2
        have hoi : os[i]? = some o := by rw [List.getElem?_eq_getElem hi', eo]
        rw [fold_snoc hoi]
        have L := fold_len (fr := fr) (os.take i)
        have Lt : (os.take i).length ≤ 60 := by rw [List.length_take]; omega
        have := F.size
        generalize (os.take i).foldl stepI fr = g at h2 L
        refine ⟨_, rfl, _, rfl, _, rfl, slA_all hr2 fun T' H3 K3 h3 => ?_⟩
        rw [vals_cut] at h3
        refine ⟨T', _, rfl, SqT.of h3, rfl, _, _, rfl, _, _, rfl, _, _, rfl, rfl, ?_⟩
        have h23 := K3 _ _ h2 (by simp)
        refine ⟨_, rfl, p, rfl, IsD_kvI h23, _, rfl, _, get_kvI h23, ?_⟩
        rw [getD_kvI]
        refine ⟨_, rfl, _, _, rfl, rfl, _, rfl, _, rfl, p, _, rfl, DPutS h23 (by unfold kvI; rw [List.length_map]; omega), ?_⟩
        have e1 : putK (kvI g) (Sum.inr o.py) (.int (getI g o.py - o.m)) = kvI (putI g o.py (getI g o.py - o.m)) := putK_kvI
        rw [e1]
        have l1 := len_put (h := g) (n := o.py) (v := getI g o.py - o.m)
        have K4 : Keep [] H (upd H3 p (.dK (kvI (putI g o.py (getI g o.py - o.m))))) := (K2.trans K3).trans_new hp
        have h4 : (upd H3 p (.dK (kvI (putI g o.py (getI g o.py - o.m))))) p = _ := upd_same
        have e2 : stepI g o = putI (putI g o.py (getI g o.py - o.m)) o.pe (getI (putI g o.py (getI g o.py - o.m)) o.pe + o.m) := rfl
        rw [e2]
        generalize putI g o.py (getI g o.py - o.m) = g1 at K4 h4 l1
        generalize upd H3 p (.dK (kvI g1)) = H4 at K4 h4
        refine ⟨_, rfl, p, rfl, IsD_kvI h4, _, rfl, _, get_kvI h4, ?_⟩
        rw [getD_kvI]
        refine ⟨_, rfl, _, _, rfl, rfl, _, rfl, _, rfl, p, _, rfl, DPutS h4 (by unfold kvI; rw [List.length_map]; omega), ?_⟩
        have e3 : putK (kvI g1) (Sum.inr o.pe) (.int (getI g1 o.pe + o.m)) = kvI (putI g1 o.pe (getI g1 o.pe + o.m)) := putK_kvI
        rw [e3]
        exact ⟨K4.trans_new hp, upd_same, _, _, _, _, rfl⟩
      · rintro σ H2 ⟨K2, h2, v3, v4, v5, v6, rfl⟩
        rw [List.length_map, hO.len, List.take_length] at h2
        exact ⟨_, rfl, q p H2 hp K2 h2⟩
/-! places by their payers -/
def kvA (ls : List (Str × Addr)) : List (Key × V) := ls.map fun p => (Sum.inr p.1, V.ref p.2)
def lookA (ls : List (Str × Addr)) (n : Str) : Option Addr := (ls.find? fun p => decide (p.1 = n)).map (·.2)
theorem valV_kvA {h : List (Str × Addr)} {n : Str} : valV (kvA h) (Sum.inr n) = (lookA h n).map V.ref := by
  induction h with
  | nil => rfl
  | cons p r ih =>
    by_cases e : p.1 = n
    · have e1 : lookA (p :: r) n = some p.2 := by unfold lookA; simp [e]
      rw [e1]
      show valV ((Sum.inr p.1, V.ref p.2) :: kvA r) _ = _
      rw [valV_pos (by rw [e])]; rfl
    · have e1 : lookA (p :: r) n = lookA r n := by unfold lookA; simp [e]
      rw [e1, ← ih]
      exact valV_neg (fun z => e (key_eq.mp z))
theorem lookA_none {h : List (Str × Addr)} {n : Str} : lookA h n = none ↔ ∀ p ∈ h, p.1 ≠ n := by
  unfold lookA
  rw [Option.map_eq_none_iff, List.find?_eq_none]
  simp only [decide_eq_true_eq, ne_eq]
theorem mem_lookA {h : List (Str × Addr)} {n : Str} {v : Addr} (e : lookA h n = some v) : (n, v) ∈ h := by
  unfold lookA at e
  obtain ⟨p, hp, rfl⟩ := Option.map_eq_some_iff.mp e
  have h1 := List.mem_of_find?_eq_some hp
  have h2 := of_decide_eq_true (List.find?_some (p := fun p : Str × Addr => decide (p.1 = n)) hp)
  rw [← h2]; exact h1
theorem putK_kvA {h : List (Str × Addr)} {n : Str} {v : Addr} (e : lookA h n = none) : putK (kvA h) (Sum.inr n) (.ref v) = kvA (h ++ [(n, v)]) := by
  have e := lookA_none.mp e
  unfold putK
  have ea : (kvA h).any (fun kv => decide (kv.1 = (Sum.inr n : Key))) = false := by
    rw [List.any_eq_false]
    intro kv hkv
    obtain ⟨p, hp, rfl⟩ := List.mem_map.mp hkv
    exact fun z => e p hp (key_eq.mp (of_decide_eq_true z))
  rw [ea, if_neg Bool.false_ne_true]
  unfold kvA; rw [List.map_append]; rfl
/-- the lists of a dict of lists of places -/
structure LeftAt (H0 H : Hp) (a : Addr) (ls : List (Str × Addr)) (f : Str → List Nat) : Prop where
  ha : H a = some (.dK (kvA ls))
  na : H0 a = none
  nd : (a :: ls.map (·.2)).Nodup
  nk : (ls.map (·.1)).Nodup
  nw : ∀ p ∈ ls, H0 p.2 = none
  lst : ∀ p ∈ ls, H p.2 = some (.lst ((f p.1).map fun i : Nat => V.int i))
  off : ∀ x, (∀ p ∈ ls, p.1 ≠ x) → f x = []
theorem nodup_map_inj {α β : Type} {f : α → β} : ∀ {l : List α} {a b : α}, (l.map f).Nodup → a ∈ l → b ∈ l → f a = f b → a = b
  | c :: r, a, b, nd, ha, hb, e => by
    rw [List.map_cons, List.nodup_cons] at nd
    rcases List.mem_cons.mp ha with e1 | ha' <;> rcases List.mem_cons.mp hb with e2 | hb'
    · rw [e1, e2]
    · subst e1; exact absurd (List.mem_map.mpr ⟨b, hb', e.symm⟩) nd.1
    · subst e2; exact absurd (List.mem_map.mpr ⟨a, ha', e⟩) nd.1
    · exact nodup_map_inj nd.2 ha' hb' e
theorem LeftAt.keep {H0 H H' : Hp} {a ls f} (L : LeftAt H0 H a ls f) (k : Keep [] H H') : LeftAt H0 H' a ls f :=
  { L with ha := k _ _ L.ha (by simp), lst := fun p hp => k _ _ (L.lst p hp) (by simp) }
theorem LeftAt.get {H0 H : Hp} {a ls f} (L : LeftAt H0 H a ls f) {x : Str} (h : f x ≠ []) : ∃ b, lookA ls x = some b ∧ (x, b) ∈ ls ∧ H b = some (.lst ((f x).map fun i : Nat => V.int i)) := by
  cases e : lookA ls x with
  | none => exact absurd (L.off x (lookA_none.mp e)) h
  | some b => exact ⟨b, rfl, mem_lookA e, L.lst _ (mem_lookA e)⟩
/-- one of the lists is another now -/
theorem LeftAt.set {H0 H : Hp} {a ls f} (L : LeftAt H0 H a ls f) {x : Str} {b : Addr} (hb : (x, b) ∈ ls) {zs : List Nat} {f' : Str → List Nat} (hx : f' x = zs) (hy : ∀ y, y ≠ x → f' y = f y) : LeftAt H0 (upd H b (.lst (zs.map fun i : Nat => V.int i))) a ls f' := by
  have nd := List.nodup_cons.mp L.nd
  have ne : a ≠ b := fun e => nd.1 (List.mem_map.mpr ⟨_, hb, e.symm⟩)
  refine ⟨by rw [upd_ne ne]; exact L.ha, L.na, L.nd, L.nk, L.nw, fun p hp => ?_, fun y hy' => ?_⟩
  · by_cases e : p.2 = b
    · have : p = (x, b) := nodup_map_inj nd.2 hp hb e
      subst this
      show upd H b _ b = some (.lst ((f' x).map _))
      rw [upd_same, hx]
    · have : p.1 ≠ x := fun ex => e (by
        have := nodup_map_inj L.nk hp hb ex
        rw [this])
      rw [upd_ne e, hy _ this]; exact L.lst p hp
  · have : y ≠ x := fun e => hy' _ hb e.symm
    rw [hy y this]; exact L.off y hy'
def at_ (os : List O) (P : Nat → Bool) (m : Nat) (x : Str) : List Nat := (List.range m).filter fun i => P i && decide (payer os i = some x)
theorem at_succ {os : List O} {P : Nat → Bool} {m : Nat} {o : O} (h : os[m]? = some o) (hp : P m = true) (x : Str) : at_ os P (m + 1) x = at_ os P m x ++ if x = o.py then [m] else [] := by
  unfold at_ payer
  rw [List.range_succ, List.filter_append, List.filter_cons, h, hp]
  by_cases e : x = o.py
  · subst e; simp
  · have : ¬ some o.py = some x := fun z => e (by injection z with z; exact z.symm)
    rw [if_neg e]; simp [this]
def sp_left : Sp := fun vs H Q _ => ∃ po os, vs = [.ref po] ∧ LotAt H po os ∧ os.length ≤ 60 ∧ ∀ p ls H', Keep [] H H' → LeftAt H H' p ls (at_ os (fun _ => true) os.length) → Q (.ref p) H'
theorem p__places_by_payer (T : Txt K mg) : Pr P w K mg base "_places_by_payer" s__places_by_payer ["orders"] 1 sp_left := by
  obtain ⟨f, fd, D⟩ := T.d__places_by_payer
  
  refine ⟨f, fd, D, D.F.ok sc__places_by_payer (fun vs H Q E h => ?_) (fun cdv A outer s H vs Q E hr h => ?_)⟩
  · obtain ⟨a, b, rfl, _⟩ := h; rfl
  · obtain ⟨po, os, rfl, ⟨rs, ho, hO⟩, l60, q⟩ := h
    have hsl : sizeLine = 16777216 := sizeLine_eq
    have hu := hu_of hr
    rcases ho with ho | ho
    · refine ⟨_, (pss_cons (ps_set (i := 1) sc__places_by_payer.nd rfl (Or.inl rfl) pe_dnewK)
      (pss_cons (ps_for PassesOwn.never rfl (pi_enum (by rfl) T.z_enumerate (pa_cons (pv 0) pa_nil)) (pg_tup rfl (pgs_cons (pg_name (i := 2) sc__places_by_payer.nd rfl (Or.inl rfl)) (pgs_cons (pg_name (i := 3) sc__places_by_payer.nd rfl (Or.inl rfl)) pgs_nil))) (pss_one (ps_expr (pe_bm PySem.F.plainAttrs_list PySem.F.slot_list_append PySem.F.type_list_append mt_append (pe_dsetd (pv 1) (pe_ix ix_tup (pv 3) pe_int (fun _ _ => rfl)) (pe_lst pa_nil) ⟨rfl, rfl, rfl, rfl⟩) (pa_cons (pv 2) pa_nil)))))
      (pss_one (ps_ret (pv 1))))), ?_⟩
      refine fun p hp => ?_
      refine ⟨_, rfl, po, _, rfl, SqL.of (Keep.upd_new (ds := []) hp _ _ ho (by simp)), for_it (walk_enum (K := K) (a := po) (xs := rs.map V.ref)) (fun i σ H2 => Keep [] H H2 ∧ ∃ ls v2 v3, LeftAt H H2 p ls (at_ os (fun _ => true) i) ∧ ls.length ≤ i ∧ σ = [some (.ref po), some (.ref p), v2, v3]) ⟨Keep.upd_new hp, [], none, none, ⟨upd_same, hp, by simp, by simp, by simp, by simp, fun _ _ => rfl⟩, Nat.le_refl _, rfl⟩ (fun i σ H2 _ ⟨k, _⟩ => SqL.of (k _ _ ho (by simp))) ?_ ?_⟩
      · rintro i x σ H2 H3 hi ⟨K2, ls, v2, v3, L, lls, rfl⟩ ⟨T', a, b, rfl, hT, rfl, ea, eb⟩
        rw [List.length_map, hO.len] at hi
        have eb : (rs.map V.ref)[i]? = some b := eb
        obtain rfl : V.int (i : Nat) = a := Option.some.inj ea
        obtain ⟨r, hr1, hr2⟩ := (hO.keep K2).at (List.getElem?_eq_getElem hi)
        rw [List.getElem?_map, hr1] at eb
        obtain rfl : V.ref r = b := Option.some.inj eb
        generalize eo : os[i] = o at hr2
        have hoi : os[i]? = some o := by rw [List.getElem?_eq_getElem hi, eo]
        have KT := Keep.upd_new (ds := []) hT (o := .tup [V.int (i : Nat), .ref r])
        have hr3 := KT _ _ hr2 (by simp)
        have L3 := L.keep KT
        have K3 := K2.trans KT
        have sT : SqT K (upd H2 T' (.tup [V.int (i : Nat), .ref r])) T' [V.int (i : Nat), .ref r] := SqT.of upd_same
        generalize upd H2 T' (.tup [V.int (i : Nat), .ref r]) = H3 at hr3 L3 K3 sT
        refine ⟨T', _, rfl, sT, rfl, _, _, rfl, _, _, rfl, rfl, ?_⟩
        have step : ∀ x, at_ os (fun _ => true) (i + 1) x = at_ os (fun _ => true) i x ++ if x = o.py then [i] else [] := at_succ hoi rfl
        have zs : (at_ os (fun _ => true) i o.py).length ≤ i := by
          have := List.length_filter_le (fun j => (fun _ => true) j && decide (payer os j = some o.py)) (List.range i)
          rw [List.length_range] at this; exact this
        refine ⟨_, rfl, p, rfl, .inl ⟨_, .inl L3.ha⟩, _, rfl, r, _, 1, _, rfl, rfl, SqT.of hr3, rfl, ?_⟩
        refine ⟨Nat.zero_le _, fun M hM => ?_⟩
        have L4 := L3.keep (Keep.upd_new (ds := []) hM (o := .lst []))
        have K4 := K3.trans (Keep.upd_new (o := .lst []) hM)
        have hM0 := K3.none_of hM (by simp)
        have hMs : (upd H3 M (.lst [])) M = some (.lst []) := upd_same
        have pM : p ≠ M := ne_of_none L3.ha hM
        have lM : ∀ q ∈ ls, q.2 ≠ M := fun q hq => ne_of_none (L3.lst q hq) hM
        generalize upd H3 M (.lst []) = H4 at L4 K4 hMs
        refine ⟨kvA ls, Sum.inr o.py, L4.ha, rfl, by unfold kvA; rw [List.length_map]; omega, fun v hv => ?_, fun hv => ?_⟩
        · rw [valV_kvA] at hv
          obtain ⟨b, hb, rfl⟩ := Option.map_eq_some_iff.mp hv
          have hb := mem_lookA hb
          refine ⟨.inl ⟨rfl, _, SqL.of (L4.lst _ hb)⟩, _, rfl, b, _, _, rfl, rfl, L4.lst _ hb, by rw [List.length_map]; show (at_ os (fun _ => true) i o.py).length < _; omega, ?_⟩
          have e0 : ((at_ os (fun _ => true) i o.py).map fun i : Nat => V.int i) ++ [V.int (i : Nat)] = ((at_ os (fun _ => true) i o.py) ++ [i]).map fun i : Nat => V.int i := by rw [List.map_append]; rfl
          rw [e0]
          refine ⟨K4.trans_new (L4.nw _ hb), ls, _, _, L4.set hb (by rw [step, if_pos rfl]) (fun y hy => by rw [step, if_neg hy, List.append_nil]), by omega, rfl⟩
        · rw [valV_kvA, Option.map_eq_none_iff] at hv
          rw [putK_kvA hv]
          have hv := lookA_none.mp hv
          refine ⟨.inl ⟨rfl, _, SqL.of (by rw [upd_ne pM.symm]; exact hMs)⟩, _, rfl, M, [], _, rfl, rfl, by rw [upd_ne pM.symm]; exact hMs, by show 0 < sizeLine; omega, ?_⟩
          refine ⟨(K4.trans_new L4.na).trans_new hM0, ls ++ [(o.py, M)], _, _, ⟨?_, L4.na, ?_, ?_, ?_, ?_, ?_⟩, by simp; omega, rfl⟩
          · rw [upd_ne pM]; exact upd_same
          · have nd := List.nodup_cons.mp L4.nd
            rw [List.map_append, ← List.cons_append]
            refine List.nodup_append.mpr ⟨L4.nd, by simp, fun a ha b hb => ?_⟩
            obtain rfl : b = M := by simpa using hb
            rcases List.mem_cons.mp ha with rfl | ha
            · exact pM
            · obtain ⟨q, hq, rfl⟩ := List.mem_map.mp ha
              exact lM q hq
          · rw [List.map_append]
            refine List.nodup_append.mpr ⟨L4.nk, by simp, fun a ha b hb => ?_⟩
            obtain rfl : b = o.py := by simpa using hb
            obtain ⟨q, hq, rfl⟩ := List.mem_map.mp ha
            exact hv q hq
          · intro q hq
            rcases List.mem_append.mp hq with hq | hq
            · exact L4.nw q hq
            · obtain rfl : q = (o.py, M) := by simpa using hq
              exact hM0
          · intro q hq
            rcases List.mem_append.mp hq with hq | hq
            · have n1 : q.2 ≠ p := fun e => (List.nodup_cons.mp L4.nd).1 (List.mem_map.mpr ⟨q, hq, e⟩)
              rw [upd_ne (lM q hq), upd_ne n1, step, if_neg (hv q hq), List.append_nil]
              exact L4.lst q hq
            · obtain rfl : q = (o.py, M) := by simpa using hq
              rw [upd_same, step, if_pos rfl, L4.off _ hv]; rfl
          · intro x hx
            have h1 : ∀ q ∈ ls, q.1 ≠ x := fun q hq => hx q (List.mem_append_left _ hq)
            have h2 : o.py ≠ x := hx (o.py, M) (by simp)
            rw [step, if_neg (Ne.symm h2), L4.off x h1]; rfl
      · rintro σ H2 ⟨K2, ls, v2, v3, L, _, rfl⟩
        rw [List.length_map, hO.len] at L
        exact ⟨_, rfl, q p ls H2 K2 L⟩
    · refine ⟨_, (pss_cons (ps_set (i := 1) sc__places_by_payer.nd rfl (Or.inl rfl) pe_dnewK)
      (pss_cons (ps_for PassesOwn.never rfl (pi_enumT (by rfl) T.z_enumerate (pa_cons (pv 0) pa_nil)) (pg_tup rfl (pgs_cons (pg_name (i := 2) sc__places_by_payer.nd rfl (Or.inl rfl)) (pgs_cons (pg_name (i := 3) sc__places_by_payer.nd rfl (Or.inl rfl)) pgs_nil))) (pss_one (ps_expr (pe_bm PySem.F.plainAttrs_list PySem.F.slot_list_append PySem.F.type_list_append mt_append (pe_dsetd (pv 1) (pe_ix ix_tup (pv 3) pe_int (fun _ _ => rfl)) (pe_lst pa_nil) ⟨rfl, rfl, rfl, rfl⟩) (pa_cons (pv 2) pa_nil)))))
      (pss_one (ps_ret (pv 1))))), ?_⟩
      refine fun p hp => ?_
      refine ⟨_, rfl, po, _, rfl, SqT.of (Keep.upd_new (ds := []) hp _ _ ho (by simp)), for_it (walk_enumT (K := K) (a := po) (xs := rs.map V.ref)) (fun i σ H2 => Keep [] H H2 ∧ ∃ ls v2 v3, LeftAt H H2 p ls (at_ os (fun _ => true) i) ∧ ls.length ≤ i ∧ σ = [some (.ref po), some (.ref p), v2, v3]) ⟨Keep.upd_new hp, [], none, none, ⟨upd_same, hp, by simp, by simp, by simp, by simp, fun _ _ => rfl⟩, Nat.le_refl _, rfl⟩ (fun i σ H2 _ ⟨k, _⟩ => SqT.of (k _ _ ho (by simp))) ?_ ?_⟩
      · rintro i x σ H2 H3 hi ⟨K2, ls, v2, v3, L, lls, rfl⟩ ⟨T', a, b, rfl, hT, rfl, ea, eb⟩
        rw [List.length_map, hO.len] at hi
        have eb : (rs.map V.ref)[i]? = some b := eb
        obtain rfl : V.int (i : Nat) = a := Option.some.inj ea
        obtain ⟨r, hr1, hr2⟩ := (hO.keep K2).at (List.getElem?_eq_getElem hi)
        rw [List.getElem?_map, hr1] at eb
        obtain rfl : V.ref r = b := Option.some.inj eb
        generalize eo : os[i] = o at hr2
        have hoi : os[i]? = some o := by rw [List.getElem?_eq_getElem hi, eo]
        have KT := Keep.upd_new (ds := []) hT (o := .tup [V.int (i : Nat), .ref r])
        have hr3 := KT _ _ hr2 (by simp)
        have L3 := L.keep KT
        have K3 := K2.trans KT
        have sT : SqT K (upd H2 T' (.tup [V.int (i : Nat), .ref r])) T' [V.int (i : Nat), .ref r] := SqT.of upd_same
        generalize upd H2 T' (.tup [V.int (i : Nat), .ref r]) = H3 at hr3 L3 K3 sT
        refine ⟨T', _, rfl, sT, rfl, _, _, rfl, _, _, rfl, rfl, ?_⟩
        have step : ∀ x, at_ os (fun _ => true) (i + 1) x = at_ os (fun _ => true) i x ++ if x = o.py then [i] else [] := at_succ hoi rfl
        have zs : (at_ os (fun _ => true) i o.py).length ≤ i := by
          have := List.length_filter_le (fun j => (fun _ => true) j && decide (payer os j = some o.py)) (List.range i)
          rw [List.length_range] at this; exact this
        refine ⟨_, rfl, p, rfl, .inl ⟨_, .inl L3.ha⟩, _, rfl, r, _, 1, _, rfl, rfl, SqT.of hr3, rfl, ?_⟩
        refine ⟨Nat.zero_le _, fun M hM => ?_⟩
        have L4 := L3.keep (Keep.upd_new (ds := []) hM (o := .lst []))
        have K4 := K3.trans (Keep.upd_new (o := .lst []) hM)
        have hM0 := K3.none_of hM (by simp)
        have hMs : (upd H3 M (.lst [])) M = some (.lst []) := upd_same
        have pM : p ≠ M := ne_of_none L3.ha hM
        have lM : ∀ q ∈ ls, q.2 ≠ M := fun q hq => ne_of_none (L3.lst q hq) hM
        generalize upd H3 M (.lst []) = H4 at L4 K4 hMs
        refine ⟨kvA ls, Sum.inr o.py, L4.ha, rfl, by unfold kvA; rw [List.length_map]; omega, fun v hv => ?_, fun hv => ?_⟩
        · rw [valV_kvA] at hv
          obtain ⟨b, hb, rfl⟩ := Option.map_eq_some_iff.mp hv
          have hb := mem_lookA hb
          refine ⟨.inl ⟨rfl, _, SqL.of (L4.lst _ hb)⟩, _, rfl, b, _, _, rfl, rfl, L4.lst _ hb, by rw [List.length_map]; show (at_ os (fun _ => true) i o.py).length < _; omega, ?_⟩
          have e0 : ((at_ os (fun _ => true) i o.py).map fun i : Nat => V.int i) ++ [V.int (i : Nat)] = ((at_ os (fun _ => true) i o.py) ++ [i]).map fun i : Nat => V.int i := by rw [List.map_append]; rfl
          rw [e0]
          refine ⟨K4.trans_new (L4.nw _ hb), ls, _, _, L4.set hb (by rw [step, if_pos rfl]) (fun y hy => by rw [step, if_neg hy, List.append_nil]), by omega, rfl⟩
        · rw [valV_kvA, Option.map_eq_none_iff] at hv
          rw [putK_kvA hv]
          have hv := lookA_none.mp hv
          refine ⟨.inl ⟨rfl, _, SqL.of (by rw [upd_ne pM.symm]; exact hMs)⟩, _, rfl, M, [], _, rfl, rfl, by rw [upd_ne pM.symm]; exact hMs, by show 0 < sizeLine; omega, ?_⟩
          refine ⟨(K4.trans_new L4.na).trans_new hM0, ls ++ [(o.py, M)], _, _, ⟨?_, L4.na, ?_, ?_, ?_, ?_, ?_⟩, by simp; omega, rfl⟩
          · rw [upd_ne pM]; exact upd_same
          · have nd := List.nodup_cons.mp L4.nd
            rw [List.map_append, ← List.cons_append]
            refine List.nodup_append.mpr ⟨L4.nd, by simp, fun a ha b hb => ?_⟩
            obtain rfl : b = M := by simpa using hb
            rcases List.mem_cons.mp ha with rfl | ha
            · exact pM
            · obtain ⟨q, hq, rfl⟩ := List.mem_map.mp ha
              exact lM q hq
          · rw [List.map_append]
            refine List.nodup_append.mpr ⟨L4.nk, by simp, fun a ha b hb => ?_⟩
            obtain rfl : b = o.py := by simpa using hb
            obtain ⟨q, hq, rfl⟩ := List.mem_map.mp ha
            exact hv q hq
          · intro q hq
            rcases List.mem_append.mp hq with hq | hq
            · exact L4.nw q hq
            · obtain rfl : q = (o.py, M) := by simpa using hq
              exact hM0
          · intro q hq
            rcases List.mem_append.mp hq with hq | hq
            · have n1 : q.2 ≠ p := fun e => (List.nodup_cons.mp L4.nd).1 (List.mem_map.mpr ⟨q, hq, e⟩)
              rw [upd_ne (lM q hq), upd_ne n1, step, if_neg (hv q hq), List.append_nil]
              exact L4.lst q hq
            · obtain rfl : q = (o.py, M) := by simpa using hq
              rw [upd_same, step, if_pos rfl, L4.off _ hv]; rfl
          · intro x hx
            have h1 : ∀ q ∈ ls, q.1 ≠ x := fun q hq => hx q (List.mem_append_left _ hq)
            have h2 : o.py ≠ x := hx (o.py, M) (by simp)
            rw [step, if_neg (Ne.symm h2), L4.off x h1]; rfl
      · rintro σ H2 ⟨K2, ls, v2, v3, L, _, rfl⟩
        rw [List.length_map, hO.len] at L
        exact ⟨_, rfl, q p ls H2 K2 L⟩
def First (h : DI) (v : V) : Prop := (v = .non ∧ ∀ p ∈ h, 0 ≤ p.2) ∨ ∃ p ∈ h, v = .str p.1 ∧ p.2 < 0
def sp_first : Sp := fun vs H Q _ => ∃ pd h, vs = [.ref pd] ∧ H pd = some (.dK (kvI h)) ∧ ∀ v H', Keep [] H H' → First h v → Q v H'
theorem p_first_below (T : Txt K mg) : Pr P w K mg base "first_below" s_first_below ["have"] 1 sp_first := by
  obtain ⟨f, fd, D⟩ := T.d_first_below
  
  refine ⟨f, fd, D, D.F.ok sc_first_below (fun vs H Q E h => ?_) (fun cdv A outer s H vs Q E hr h => ?_)⟩
  · obtain ⟨a, b, rfl, _⟩ := h; rfl
  · obtain ⟨pd, h, rfl, hd, q⟩ := h
    have hu := hu_of hr
    refine ⟨_, (pss_cons (ps_lock (ps_for PassesOwn.never rfl (pi_items (pv 0)) (pg_tup rfl (pgs_cons (pg_name (i := 1) sc_first_below.nd rfl (Or.inl rfl)) (pgs_cons (pg_name (i := 2) sc_first_below.nd rfl (Or.inl rfl)) pgs_nil))) (pss_one (ps_if (pt_cmpR op_lt (pv 2) pe_int (nomark _)) (pss_one (ps_ret (pv 1))) pss_nil))))
      (pss_one (ps_ret pe_non))), ?_⟩
    refine ⟨pd, _, hd, trivial, fun od => ⟨_, rfl, pd, od, _, rfl, upd_same, for_it walk_items (fun i σ H2 => Keep [] (upd H pd (.frz od (.dK (kvI h)))) H2 ∧ (∀ p ∈ h.take i, 0 ≤ p.2) ∧ ∃ v1 v2, σ = [some (.ref pd), v1, v2]) ⟨Keep.refl, by simp, none, none, rfl⟩ (fun i σ H2 _ ⟨k, _⟩ => k _ _ upd_same (by simp)) ?_ ?_⟩⟩
    · rintro i x σ H2 H3 hi ⟨K2, hn, v1, v2, rfl⟩ ⟨T', a, b, rfl, hT, rfl, ea, eb⟩
      have hi' : i < h.length := by unfold kvI at hi; rw [List.length_map] at hi; exact hi
      obtain ⟨p, hp⟩ : ∃ p, h[i]? = some p := ⟨h[i], List.getElem?_eq_getElem hi'⟩
      have pm := List.mem_of_getElem? hp
      have ek : (kvI h)[i]? = some (Sum.inr p.1, V.int p.2) := by unfold kvI; rw [List.getElem?_map, hp]; rfl
      have ea : ((kvI h)[i]?).map (fun kv => kV kv.1) = some a := ea
      have eb : ((kvI h)[i]?).map Prod.snd = some b := eb
      rw [ek] at ea eb
      obtain rfl : V.str p.1 = a := Option.some.inj ea
      obtain rfl : V.int p.2 = b := Option.some.inj eb
      have K3 := K2.trans (Keep.upd_new hT (o := .tup [V.str p.1, .int p.2]))
      refine ⟨T', _, rfl, SqT.of upd_same, rfl, _, _, rfl, _, _, rfl, rfl, ?_⟩
      generalize upd H2 T' (.tup [V.str p.1, .int p.2]) = H3 at K3
      refine ⟨_, rfl, _, _, rfl, rfl, _, rfl, ?_⟩
      refine ite2 (fun c => ?_) fun c => ?_
      · have c : p.2 < 0 := of_decide_eq_true c
        refine ⟨_, rfl, K3 _ _ upd_same (by simp), q _ _ (Keep.unlock hd K3) (.inr ⟨p, pm, rfl, c⟩)⟩
      · have c : ¬ p.2 < 0 := of_decide_eq_false (eq_false_of_ne_true c)
        refine ⟨K3, fun p' hp' => ?_, _, _, rfl⟩
        rw [take_succ_of hp] at hp'
        rcases List.mem_append.mp hp' with hp' | hp'
        · exact hn p' hp'
        · obtain rfl : p' = p := by simpa using hp'
          omega
    · rintro σ H2 ⟨K2, hn, v1, v2, rfl⟩
      have hl : (kvI h).length = h.length := by unfold kvI; rw [List.length_map]
      rw [hl, List.take_length] at hn
      exact ⟨K2 _ _ upd_same (by simp), q _ _ (Keep.unlock hd K2) (.inl ⟨rfl, hn⟩)⟩
def sp_undo : Sp := fun vs H Q _ => ∃ pd h r o, vs = [.ref pd, .ref r] ∧ H pd = some (.dK (kvI h)) ∧ H r = some (.tup (vals o)) ∧ (lookI h o.py).isSome = true ∧ (lookI h o.pe).isSome = true ∧ h.length ≤ 2000 ∧ ∀ H', Keep [pd] H H' → H' pd = some (.dK (kvI (backI h o))) → Q .non H'
theorem p__undo (T : Txt K mg) : Pr P w K mg base "_undo" s__undo ["have", "order"] 1 sp_undo := by
  obtain ⟨f, fd, D⟩ := T.d__undo
  
  refine ⟨f, fd, D, D.F.ok sc__undo (fun vs H Q E h => ?_) (fun cdv A outer s H vs Q E hr h => ?_)⟩
  · obtain ⟨a, b, c, d, rfl, _⟩ := h; rfl
  · obtain ⟨pd, h, r, o, rfl, hd, ho, p1, p2, l, q⟩ := h
    have hu := hu_of hr
    have hsl : sizeLine = 16777216 := sizeLine_eq
    obtain ⟨g1, e1⟩ := Option.isSome_iff_exists.mp p1
    have f1 : getI h o.py = g1 := by unfold getI; rw [e1]; rfl
    refine ⟨_, (pss_cons (ps_asg (pe_slice sl_tupA (pv 1) (po_some pe_int) (po_some pe_int)) (pg_tup rfl (pgs_cons (pg_name (i := 2) sc__undo.nd rfl (Or.inl rfl)) (pgs_cons (pg_name (i := 3) sc__undo.nd rfl (Or.inl rfl)) (pgs_cons (pg_name (i := 4) sc__undo.nd rfl (Or.inl rfl)) pgs_nil)))))
      (pss_cons (ps_daug hu (pv 0) (pv 2) (pv 4) in_add (fun _ _ _ => rfl))
      (pss_one (ps_daug hu (pv 0) (pv 3) (pv 4) in_sub (fun _ _ _ => rfl))))), ?_⟩
    refine ⟨_, rfl, _, rfl, _, rfl, slA_all ho fun T' H3 K3 h3 => ?_⟩
    rw [vals_cut] at h3
    refine ⟨T', _, rfl, SqT.of h3, rfl, _, _, rfl, _, _, rfl, _, _, rfl, rfl, ?_⟩
    have h23 := K3 _ _ hd (by simp)
    refine ⟨_, rfl, _, rfl, pd, _, rfl, e1 ▸ get_kvI h23, _, rfl, _, _, rfl, rfl, _, DPutS h23 (by unfold kvI; rw [List.length_map]; omega), ?_⟩
    have e3 : putK (kvI h) (Sum.inr o.py) (.int (g1 + o.m)) = kvI (putI h o.py (getI h o.py + o.m)) := by rw [f1]; exact putK_kvI
    rw [e3]
    have l1 := len_put (h := h) (n := o.py) (v := getI h o.py + o.m)
    have K4 : Keep [pd] H (upd H3 pd (.dK (kvI (putI h o.py (getI h o.py + o.m))))) := (K3.mono (by simp)).trans (Keep.upd_in (by simp))
    have h4 : (upd H3 pd (.dK (kvI (putI h o.py (getI h o.py + o.m))))) pd = _ := upd_same
    obtain ⟨g2, e2⟩ : ∃ g2, lookI (putI h o.py (getI h o.py + o.m)) o.pe = some g2 := by
      rw [lookI_put]
      split
      · exact ⟨_, rfl⟩
      · exact Option.isSome_iff_exists.mp p2
    have f2 : getI (putI h o.py (getI h o.py + o.m)) o.pe = g2 := by unfold getI at e2 ⊢; rw [e2]; rfl
    have eb : backI h o = putI (putI h o.py (getI h o.py + o.m)) o.pe (getI (putI h o.py (getI h o.py + o.m)) o.pe - o.m) := rfl
    rw [eb] at q
    generalize putI h o.py (getI h o.py + o.m) = g at K4 h4 l1 q e2 f2
    generalize upd H3 pd (.dK (kvI g)) = H4 at K4 h4
    refine ⟨_, rfl, _, rfl, pd, _, rfl, e2 ▸ get_kvI h4, _, rfl, _, _, rfl, rfl, _, DPutS h4 (by unfold kvI; rw [List.length_map]; omega), ?_⟩
    have e4 : putK (kvI g) (Sum.inr o.pe) (.int (g2 - o.m)) = kvI (putI g o.pe (getI g o.pe - o.m)) := by rw [f2]; exact putK_kvI
    rw [e4]
    exact q _ (K4.trans (Keep.upd_in (by simp))) upd_same
end
end My
set_option Elab.async false
set_option maxRecDepth 100000
set_option maxHeartbeats 800000
namespace My
open PySem L2 TL
/-! what the sums by names say -/
structure HaveOk (fr : DI) (os : List O) (P : Nat → Bool) (h : DI) : Prop where
  nd : (h.map (·.1)).Nodup
  ks : ∀ o ∈ os, (lookI h o.py).isSome = true ∧ (lookI h o.pe).isSome = true
  len : h.length ≤ 1200
  eq : ∀ n, getI h n = bal fr os P n
theorem look_put {h : DI} {n k : Str} {v : Int} (e : (lookI h k).isSome = true) : (lookI (putI h n v) k).isSome = true := by
  rw [lookI_put]; split
  · rfl
  · exact e
theorem len_put_in {h : DI} {n : Str} {v : Int} (e : (lookI h n).isSome = true) : (putI h n v).length = h.length := by
  obtain ⟨u, hu⟩ := Option.isSome_iff_exists.mp e
  have hm := mem_lookI hu
  unfold putI
  rw [if_pos (List.any_eq_true.mpr ⟨_, hm, by simp⟩), List.length_map]
theorem fold_get {fr : DI} {os : List O} (ok : ∀ o ∈ os, OkO o) (n : Str) : ∀ k, k ≤ os.length → getI ((os.take k).foldl stepI fr) n = getI fr n + ((List.range k).map (flowAt os · n)).sum
  | 0, _ => by simp
  | k + 1, h => by
    have ih := fold_get (fr := fr) ok n k (by omega)
    have hk : os[k]? = some os[k] := List.getElem?_eq_getElem (by omega)
    rw [fold_snoc hk, getI_step (ok _ (List.getElem_mem _)).ne, ih, List.range_succ, List.map_append, List.sum_append]
    have : flowAt os k n = flow os[k] n := by unfold flowAt; rw [hk]
    simp only [List.map_cons, List.map_nil, List.sum_cons, List.sum_nil, this]
    omega
theorem fold_keys {fr : DI} {os : List O} : ∀ k, k ≤ os.length → (∀ i o, i < k → os[i]? = some o → (lookI ((os.take k).foldl stepI fr) o.py).isSome = true ∧ (lookI ((os.take k).foldl stepI fr) o.pe).isSome = true)
  | 0, _ => fun _ _ h => absurd h (Nat.not_lt_zero _)
  | k + 1, h => by
    intro i o hi ho
    have hk : os[k]? = some os[k] := List.getElem?_eq_getElem (by omega)
    rw [fold_snoc hk]
    have ih := fold_keys (fr := fr) (os := os) k (by omega)
    unfold stepI
    by_cases e : i = k
    · subst e
      rw [hk] at ho
      obtain rfl := Option.some.inj ho
      refine ⟨look_put ?_, ?_⟩
      · rw [lookI_put, if_pos rfl]; rfl
      · rw [lookI_put, if_pos rfl]; rfl
    · obtain ⟨a, b⟩ := ih i o (by omega) ho
      exact ⟨look_put (look_put a), look_put (look_put b)⟩
theorem fold_nd {fr : DI} (nd : (fr.map (·.1)).Nodup) : ∀ os : List O, ((os.foldl stepI fr).map (·.1)).Nodup := by
  intro os
  induction os generalizing fr with
  | nil => exact nd
  | cons o r ih => exact ih (fr := stepI fr o) (nodup_put (nodup_put nd))
theorem HaveOk.start {fr : DI} {os : List O} (F : OkF fr) (ok : ∀ o ∈ os, OkO o) (l : os.length ≤ 60) : HaveOk fr os (fun _ => true) (os.foldl stepI fr) := by
  refine ⟨fold_nd F.nd os, fun o ho => ?_, ?_, fun n => ?_⟩
  · obtain ⟨i, hi, e⟩ := List.mem_iff_getElem.mp ho
    have := fold_keys (fr := fr) (os := os) os.length (Nat.le_refl _) i o hi (by rw [List.getElem?_eq_getElem hi, e])
    rwa [List.take_length] at this
  · have := fold_len (fr := fr) os
    have := F.size
    omega
  · have := fold_get (fr := fr) ok n os.length (Nat.le_refl _)
    rw [List.take_length] at this
    rw [this]
    unfold bal sumP
    simp
theorem HaveOk.back {fr : DI} {os : List O} {P : Nat → Bool} {h : DI} {l : Nat} {o : O} (k : HaveOk fr os P h) (ho : os[l]? = some o) (ne : o.py ≠ o.pe) (hp : P l = true) : HaveOk fr os (rm P l) (backI h o) := by
  have hl := (List.getElem?_eq_some_iff.mp ho).1
  have om := List.mem_of_getElem? ho
  refine ⟨nodup_put (nodup_put k.nd), fun o' ho' => ⟨look_put (look_put (k.ks o' ho').1), look_put (look_put (k.ks o' ho').2)⟩, ?_, fun n => ?_⟩
  · have a := len_put_in (v := getI h o.py + o.m) (k.ks o om).1
    have b : (putI h o.py (getI h o.py + o.m)).length = h.length := a
    show (putI _ _ _).length ≤ 1200
    rw [len_put_in (look_put (k.ks o om).2), b]; exact k.len
  · rw [getI_back ne, k.eq, bal_rm hl hp]
    have : flowAt os l n = flow o n := by unfold flowAt; rw [ho]
    rw [this]
theorem HaveOk.neg {fr : DI} {os : List O} {P : Nat → Bool} {h : DI} (k : HaveOk fr os P h) {p : Str × Int} (hp : p ∈ h) (hn : p.2 < 0) : bal fr os P p.1 < 0 := by
  rw [← k.eq]
  unfold getI
  rw [lookI_mem k.nd (show (p.1, p.2) ∈ h from hp)]; exact hn
theorem HaveOk.nn {fr : DI} {os : List O} {P : Nat → Bool} {h : DI} (k : HaveOk fr os P h) (a : ∀ p ∈ h, 0 ≤ p.2) (n : Str) : 0 ≤ bal fr os P n := by
  rw [← k.eq]
  unfold getI
  cases e : lookI h n with
  | none => exact Int.le_refl 0
  | some v => exact a _ (mem_lookI e)
theorem Walk.mem {fr : DI} {os : List O} {P E : Nat → Bool} {w : List Nat} (h : Walk fr os P w E) : ∀ i, E i = (P i && !decide (i ∈ w)) := by
  induction h with
  | nil => intro i; simp
  | cons g _ ih =>
    rename_i P E l x w _
    intro i
    rw [ih i]
    unfold rm
    by_cases e : i = l
    · subst e; simp
    · simp [e]
theorem Walk.lt {fr : DI} {os : List O} {P E : Nat → Bool} {w : List Nat} (h : Walk fr os P w E) : ∀ i ∈ w, i < os.length := by
  induction h with
  | nil => simp
  | cons g _ ih =>
    intro i hi
    rcases List.mem_cons.mp hi with rfl | hi
    · exact g.lt
    · exact ih i hi
theorem Walk.room {fr : DI} {os : List O} {E : Nat → Bool} {w : List Nat} (h : Walk fr os (fun _ => true) w E) : w.length + ((List.range os.length).filter E).length = os.length := by
  have := h.perm.length_eq
  rw [List.length_append] at this
  rw [← this, List.filter_eq_self.mpr (fun _ _ => rfl), List.length_range]
/-- the last of a payer's places, and the others -/
theorem at_last {fr : DI} {os : List O} {P : Nat → Bool} {x : Str} (F : OkF fr) (ok : ∀ o ∈ os, OkO o) (hb : bal fr os P x < 0) : ∃ ini l, at_ os P os.length x = ini ++ [l] ∧ Goes fr os P l x ∧ at_ os (rm P l) os.length x = ini ∧ ∀ y, y ≠ x → at_ os (rm P l) os.length y = at_ os P os.length y := by
  have ne : at_ os P os.length x ≠ [] := by
    obtain ⟨i, hi, hp, hy⟩ := below_has ok (F.get x) hb
    exact List.ne_nil_of_mem (List.mem_filter.mpr ⟨List.mem_range.mpr hi, by simp [hp, hy]⟩)
  obtain ⟨ini, l, e⟩ : ∃ ini l, at_ os P os.length x = ini ++ [l] := ⟨_, _, (List.dropLast_concat_getLast ne).symm⟩
  have hm : l ∈ at_ os P os.length x := by rw [e]; simp
  obtain ⟨h1, h2⟩ := List.mem_filter.mp hm
  simp only [Bool.and_eq_true, decide_eq_true_eq] at h2
  have srt : (at_ os P os.length x).Pairwise (· < ·) := List.Pairwise.filter _ List.pairwise_lt_range
  rw [e] at srt
  have lt : ∀ i ∈ ini, i < l := fun i hi => (List.pairwise_append.mp srt).2.2 i hi l (by simp)
  refine ⟨ini, l, e, ⟨List.mem_range.mp h1, h2.1, h2.2, fun i hi hp hy => ?_, hb⟩, ?_, fun y hy => ?_⟩
  · have : i ∈ at_ os P os.length x := List.mem_filter.mpr ⟨List.mem_range.mpr hi, by simp [hp, hy]⟩
    rw [e] at this
    rcases List.mem_append.mp this with h | h
    · exact Nat.le_of_lt (lt i h)
    · simp at h; omega
  · have : at_ os (rm P l) os.length x = (at_ os P os.length x).filter fun i => !decide (i = l) := by
      unfold at_
      rw [List.filter_filter]
      refine List.filter_congr fun i _ => ?_
      unfold rm
      cases P i <;> cases decide (payer os i = some x) <;> cases decide (i = l) <;> rfl
    rw [this, e, List.filter_append]
    have e1 : ini.filter (fun i => !decide (i = l)) = ini := List.filter_eq_self.mpr fun i hi => by have := lt i hi; simp; omega
    rw [e1]; simp
  · refine List.filter_congr fun i _ => ?_
    unfold rm
    by_cases e : i = l
    · subst e
      have : ¬ payer os i = some y := fun z => hy (by rw [h2.2] at z; exact (Option.some.inj z).symm)
      simp [this]
    · simp [e]
theorem Great.of {fr : DI} {os : List O} {P : Nat → Bool} (cl : Closed os P) (ov : Over fr os P) (nn : ∀ n, 0 ≤ bal fr os P n) : Great fr os P := ⟨⟨cl, nn⟩, ov⟩
theorem less_rm {fr : DI} {os : List O} {P : Nat → Bool} {l : Nat} {x : Str} (ok : ∀ o ∈ os, OkO o) (g : Goes fr os P l x) (cl : Closed os P) (ov : Over fr os P) : Closed os (rm P l) ∧ Over fr os (rm P l) :=
  ⟨Closed.less (fr := fr) cl (R := fun i => decide (i = l)) fun _ hk => ⟨x, of_decide_eq_true hk ▸ g⟩, Over.less ok ov (R := fun i => decide (i = l)) fun _ hk => ⟨x, of_decide_eq_true hk ▸ g⟩⟩
theorem all_over {fr : DI} {os : List O} : Closed os (fun _ => true) ∧ Over fr os (fun _ => true) := ⟨fun _ _ _ _ _ _ => rfl, fun _ _ _ _ _ => rfl⟩
end My
set_option Elab.async false
set_option maxRecDepth 100000
set_option maxHeartbeats 800000
namespace My
open PySem L2 TL
section
variable {P : Program} {w : World} {K : PySem.W.Frag} {mg : Str → Option Value} {base : Heap}
abbrev nats (l : List Nat) : List V := l.map fun i : Nat => V.int i
theorem LeftAt.weak {H0 H1 H : Hp} {a ls f} (L : LeftAt H1 H a ls f) (k : Keep [] H0 H1) : LeftAt H0 H a ls f :=
  { L with na := k.none_of L.na (by simp), nw := fun p hp => k.none_of (L.nw p hp) (by simp) }
theorem LeftAt.keepD {H0 H H' : Hp} {a ls f} {ds : List Addr} (L : LeftAt H0 H a ls f) (k : Keep ds H H') (h : a ∉ ds) (h2 : ∀ p ∈ ls, p.2 ∉ ds) : LeftAt H0 H' a ls f :=
  { L with ha := k _ _ L.ha h, lst := fun p hp => k _ _ (L.lst p hp) (h2 p hp) }
theorem get_kvA {H : Hp} {a : Addr} {h : List (Str × Addr)} {n : Str} (e : H a = some (.dK (kvA h))) : DGet H a (.str n) ((lookA h n).map V.ref) := valV_kvA ▸ DGet.k (k := Sum.inr n) e
theorem inV_nat (i : Nat) : ∀ w : List Nat, inV (V.int (i : Nat)) (nats w) = decide (i ∈ w)
  | [] => rfl
  | j :: r => by
    have e := inV_nat i r
    unfold inV nats at e ⊢
    rw [List.map_cons, List.any_cons, e]
    show (decide ((j : Int) = (i : Int)) || decide (i ∈ r)) = _
    by_cases h : i = j
    · subst h; simp
    · have : ¬ (j : Int) = (i : Int) := by omega
      rw [decide_eq_false this]; simp [h]
theorem all_flat_nat (w : List Nat) : (nats w).all flatV = true := by
  rw [List.all_eq_true]; intro v hv
  obtain ⟨z, _, rfl⟩ := List.mem_map.mp hv; rfl
theorem nats_last {ini : List Nat} {l : Nat} : (nats (ini ++ [l]))[(nats (ini ++ [l])).length - 1]? = some (.int l) ∧ (nats (ini ++ [l])).dropLast = nats ini := by
  unfold nats
  rw [List.map_append]
  refine ⟨?_, by simp⟩
  simp
def sp_great : Sp := fun vs H Q _ => ∃ pf po fr os, vs = [.ref pf, .ref po] ∧ H pf = some (.dK (kvI fr)) ∧ LotAt H po os ∧ OkF fr ∧ (∀ o ∈ os, OkO o) ∧ os.length ≤ 60 ∧
  ∀ R pL pW P w H', Keep [] H H' → H' R = some (.tup [.ref pL, .ref pW]) → H' pL = some (.lst (nats ((List.range os.length).filter P))) → H pL = none → H' pW = some (.tup (nats w)) → Walk fr os (fun _ => true) w P → Great fr os P → Q (.ref R) H'
theorem p_greatest (T : Txt K mg) : Pr P w K mg base "greatest" s_greatest ["free", "orders"] 6 sp_great := by
  obtain ⟨f, fd, D⟩ := T.d_greatest
  obtain ⟨f_first_below, fd_first_below, D_first_below, G_first_below⟩ := p_first_below (P := P) (w := w) (base := base) T; obtain ⟨f__undo, fd__undo, D__undo, G__undo⟩ := p__undo (P := P) (w := w) (base := base) T; obtain ⟨f__places_by_payer, fd__places_by_payer, D__places_by_payer, G__places_by_payer⟩ := p__places_by_payer (P := P) (w := w) (base := base) T; obtain ⟨f_have_by_all, fd_have_by_all, D_have_by_all, G_have_by_all⟩ := p_have_by_all (P := P) (w := w) (base := base) T; obtain ⟨f_look_at_round, fd_look_at_round, D_look_at_round, G_look_at_round⟩ := p_look_at_round (P := P) (w := w) (base := base) T; obtain ⟨t_MOST_ORDERS, g_MOST_ORDERS⟩ := T.g_MOST_ORDERS
  refine ⟨f, fd, D, D.F.ok sc_greatest (fun vs H Q E h => ?_) (fun cdv A outer s H vs Q E hr h => ?_)⟩
  · obtain ⟨a, b, c, d, rfl, _⟩ := h; rfl
  · obtain ⟨pf, po, fr, os, rfl, hf, hL, F, G, l60, q⟩ := h
    have hsl : sizeLine = 16777216 := sizeLine_eq
    have hu := hu_of hr
    obtain ⟨rs, ho, hO⟩ := id hL
    rcases ho with ho | ho
    · refine ⟨_, (pss_cons (ps_expr (pe_call G_look_at_round (hr.mono (by decide)) rfl D_look_at_round.m D_look_at_round.F.kp D_look_at_round.b .nil pass0 (pa_cons (pv 0) (pa_cons (pv 1) (pa_cons (pe_glob (v := .int 60) rfl g_MOST_ORDERS ⟨_, rfl⟩) pa_nil)))))
      (pss_cons (ps_set (i := 2) sc_greatest.nd rfl (Or.inl rfl) (pe_call G_have_by_all (hr.mono (by decide)) rfl D_have_by_all.m D_have_by_all.F.kp D_have_by_all.b .nil pass0 (pa_cons (pv 0) (pa_cons (pv 1) pa_nil))))
      (pss_cons (ps_set (i := 3) sc_greatest.nd rfl (Or.inl rfl) (pe_call G__places_by_payer (hr.mono (by decide)) rfl D__places_by_payer.m D__places_by_payer.F.kp D__places_by_payer.b .nil pass0 (pa_cons (pv 1) pa_nil)))
      (pss_cons (ps_set (i := 4) sc_greatest.nd rfl (Or.inr rfl) (pe_lst pa_nil))
      (pss_cons (ps_set (i := 5) sc_greatest.nd rfl (Or.inl rfl) (pe_call G_first_below (hr.mono (by decide)) rfl D_first_below.m D_first_below.F.kp D_first_below.b .nil pass0 (pa_cons (pv 2) pa_nil)))
      (pss_cons (ps_while PassesOwn.never (pt_cmpR op_notN (pv 5) pe_non (nomark _)) (pss_cons (ps_set (i := 6) sc_greatest.nd rfl (Or.inl rfl) (pe_bm0 PySem.F.plainAttrs_list PySem.F.slot_list_pop PySem.F.type_list_pop mt_pop (pe_dget hu (pv 3) (pv 5) (fun _ _ => rfl))))
      (pss_cons (ps_expr (pe_call G__undo (hr.mono (by decide)) rfl D__undo.m D__undo.F.kp D__undo.b .nil pass0 (pa_cons (pv 2) (pa_cons (pe_ix ix_list (pv 1) (pv 6) (fun _ _ => rfl)) pa_nil))))
      (pss_cons (ps_expr (pe_bm PySem.F.plainAttrs_list PySem.F.slot_list_append PySem.F.type_list_append mt_append (pv 4) (pa_cons (pv 6) pa_nil)))
      (pss_one (ps_set (i := 5) sc_greatest.nd rfl (Or.inl rfl) (pe_call G_first_below (hr.mono (by decide)) rfl D_first_below.m D_first_below.F.kp D_first_below.b .nil pass0 (pa_cons (pv 2) pa_nil))))))))
      (pss_cons (ps_setLc (i := 7) (own := [("place", 6)]) (g := gName 6) rfl sc_greatest.nd rfl rfl (sw_true rfl rfl rfl (by decide +kernel)) (pi_range1 rfl T.z_range (pa_cons (pe_callB call_len_seq (by rfl) T.z_len (by decide +kernel) (pa_cons (pv 1) pa_nil)) pa_nil)) (blkOk_by (own := [("place", 6)]) (N := N_greatest) (sc := defScope s_greatest) (by decide +kernel)) (fun _ _ _ _ _ => (pg_name (i := 6) sc_greatest.nd rfl (Or.inl rfl))) (fun _ _ _ _ _ => pts_one (pt_cmpR (op_notIn_seqK (K := K) rfl) (pv 6) (pv 4) (by rfl))) (fun _ _ _ _ _ => (pv 6)))
      (pss_one (ps_ret (pe_tup (pa_cons (pv 7) (pa_cons (pe_callTy call_tuple_of (by rfl) T.z_tuple (by decide +kernel) (pa_cons (pv 4) pa_nil)) pa_nil)))))))))))), ?_⟩
      refine ⟨_, rfl, _, rfl, pf, po, fr, os, rfl, hf, hL, F, G, l60, fun H1 K1 => ?_⟩
      have hf1 := K1 _ _ hf (by simp)
      have hL1 := hL.keep K1
      refine ⟨_, rfl, _, rfl, pf, po, fr, os, rfl, hf1, hL1, F, l60, fun ph H2 hph K2 h2 => ?_⟩
      have hL2 := hL1.keep K2
      have hph0 := K1.none_of hph (by simp)
      have K02 := K1.trans K2
      refine ⟨_, rfl, po, os, rfl, hL2, l60, fun pl ls H3 K3 L3 => ?_⟩
      have h3 := K3 _ _ h2 (by simp)
      refine ⟨Nat.zero_le _, fun pw hpw => ?_⟩
      have nhp : ph ≠ pl := ne_of_none h2 L3.na
      have pw3 : ∀ q ∈ ls, q.2 ≠ pw := fun q hq => ne_of_none (L3.lst q hq) hpw
      have L3 := (L3.weak K02).keep (Keep.upd_new (ds := []) hpw (o := .lst []))
      have K03 : Keep [] H (upd H3 pw (.lst [])) := (K02.trans K3).trans (Keep.upd_new hpw)
      have h3 : (upd H3 pw (.lst [])) ph = _ := Keep.upd_new (ds := []) hpw _ _ h3 (by simp)
      have hw3 : (upd H3 pw (.lst [])) pw = some (.lst (nats [])) := upd_same
      have hpw0 := (K02.trans K3).none_of hpw (by simp)
      generalize upd H3 pw (.lst []) = H4 at L3 K03 h3 hw3
      refine ⟨_, rfl, ph, _, rfl, h3, fun vb H5 K5 fst => ?_⟩
      have nhl : ∀ q ∈ ls, q.2 ≠ ph := fun q hq => ne_of (L3.lst q hq) h3 (by intro z; cases z)
      have hst := HaveOk.start F G l60
      have inv : ∀ {P h v}, HaveOk fr os P h → First h v → (v = .non ∧ ∀ n, 0 ≤ bal fr os P n) ∨ ∃ x, v = .str x ∧ bal fr os P x < 0 := fun k f => f.imp (fun ⟨a, b⟩ => ⟨a, k.nn b⟩) fun ⟨p, hp, a, b⟩ => ⟨p.1, a, k.neg hp b⟩
      refine ⟨fun m σ H6 => ∃ P w h vb v6 v7, σ = [some (.ref pf), some (.ref po), some (.ref ph), some (.ref pl), some (.ref pw), some vb, v6, v7] ∧ m = os.length - w.length ∧ Keep [] H H6 ∧ H6 ph = some (.dK (kvI h)) ∧ HaveOk fr os P h ∧ LeftAt H H6 pl ls (at_ os P os.length) ∧ H6 pw = some (.lst (nats w)) ∧ Walk fr os (fun _ => true) w P ∧ Closed os P ∧ Over fr os P ∧ ((vb = .non ∧ ∀ n, 0 ≤ bal fr os P n) ∨ ∃ x, vb = .str x ∧ bal fr os P x < 0), ⟨_, fun _ => true, [], _, vb, none, none, rfl, rfl, K03.trans K5, K5 _ _ h3 (by simp), hst, L3.keep K5, K5 _ _ hw3 (by simp), .nil, (all_over (fr := fr)).1, all_over.2, inv hst fst⟩, ?_⟩
      rintro m σ H6 ⟨P, w, h, vb, v6, v7, rfl, rfl, K6, h6, hv, L6, w6, wk, cl, ov, hb⟩
      refine ⟨_, rfl, rfl, ?_⟩
      rcases hb with ⟨rfl, nn⟩ | ⟨x, rfl, hx⟩
      · refine ⟨false, rfl, iteF ?_⟩
        have lr := hO.len
        refine ⟨_, rfl, po, _, rfl, .inl (SqL.of (K6 _ _ ho (by simp))), _, rfl, by rw [List.length_map]; omega, by rw [List.length_map]; omega, fun L hL => ?_⟩
        have en : (((rs.map V.ref).length : Nat) : Int).toNat = os.length := by rw [List.length_map, lr]; omega
        have w7 : (upd H6 L (.lst [])) pw = _ := Keep.upd_new (ds := []) hL _ _ w6 (by simp)
        have K7 : Keep [] H6 (upd H6 L (.lst [])) := Keep.upd_new hL
        refine lc_range (lo := 0) (n := (((rs.map V.ref).length : Nat) : Int).toNat) (fun i H8 => Keep [] H6 H8 ∧ H8 L = some (.lst (nats ((List.range i).filter fun j => !decide (j ∈ w))))) ⟨K7, upd_same⟩ ?_ ?_
        · rintro i H8 hi ⟨K8, h8⟩
          rw [en] at hi
          refine ⟨rfl, _, rfl, _, rfl, pw, _, rfl, .inl (SqL.of (K8 _ _ w6 (by simp))), rfl, all_flat_nat w, _, rfl, ?_⟩
          have ei : inV (V.int (0 + (i : Nat))) (nats w) = decide (i ∈ w) := by rw [Int.zero_add]; exact inV_nat i w
          rw [ei, List.range_succ, List.filter_append]
          cases hd : decide (i ∈ w) with
          | true => refine iteF ⟨K8, ?_⟩; simp only [List.filter_cons, hd]; simpa using h8
          | false =>
            refine iteT ⟨_, rfl, _, h8, ?_, K8.trans_new hL, ?_⟩
            · rw [List.length_map]
              refine Nat.lt_of_le_of_lt (List.length_filter_le _ _) ?_
              rw [List.length_range]; omega
            · rw [upd_same]; simp only [List.filter_cons, hd]; simp [nats]
        · rintro H8 ⟨K8, h8⟩
          rw [en] at h8
          have ef : (List.range os.length).filter (fun j => !decide (j ∈ w)) = (List.range os.length).filter P := List.filter_congr fun i _ => by rw [wk.mem i, Bool.true_and]
          rw [ef] at h8
          have K08 := K6.trans K8
          refine ⟨_, rfl, _, rfl, pw, _, rfl, .inl ⟨SqL.of (K8 _ _ w6 (by simp)), fun W hW => ⟨by show 2 ≤ sizeLine; omega, fun R hR => ?_⟩⟩⟩
          have K9 := K08.trans (Keep.upd_new hW (o := .tup (nats w)))
          have h9 := Keep.upd_new (ds := []) hW (o := .tup (nats w)) _ _ h8 (by simp)
          have K10 := K9.trans (Keep.upd_new hR (o := .tup [.ref L, .ref W]))
          have hWR : W ≠ R := ne_of_none upd_same hR
          exact q R L W P w _ K10 upd_same (Keep.upd_new (ds := []) hR _ _ h9 (by simp)) (K6.none_of hL (by simp)) (by rw [upd_ne hWR]; exact upd_same) wk (Great.of cl ov nn)
      · obtain ⟨ini, l, e1, gs, e2, e3⟩ := at_last F G hx
        have hne : at_ os P os.length x ≠ [] := by rw [e1]; simp
        obtain ⟨b, hb1, hb2, hb3⟩ := L6.get hne
        rw [e1] at hb3
        obtain ⟨o, hol⟩ : ∃ o, os[l]? = some o := ⟨_, List.getElem?_eq_getElem gs.lt⟩
        have om := List.mem_of_getElem? hol
        have hbp : b ≠ ph := nhl _ hb2
        have hbw : b ≠ pw := pw3 _ hb2
        refine ⟨true, rfl, iteT ⟨_, fun _ _ q => q, ?_⟩⟩
        have dg : DGet H6 pl (.str x) (some (.ref b)) := by
          have := get_kvA (n := x) L6.ha
          rw [hb1] at this; exact this
        refine ⟨_, rfl, _, rfl, pl, .ref b, rfl, dg, .inl ⟨rfl, _, SqL.of hb3⟩, b, _, _, rfl, rfl, hb3, nats_last.1, ?_⟩
        rw [nats_last.2]
        have L7 := L6.set hb2 e2 e3
        have K7 : Keep [] H (upd H6 b (.lst (nats ini))) := K6.trans_new (L6.nw _ hb2)
        have h7 : (upd H6 b (.lst (nats ini))) ph = some (.dK (kvI h)) := by rw [upd_ne hbp.symm]; exact h6
        have w7 : (upd H6 b (.lst (nats ini))) pw = some (.lst (nats w)) := by rw [upd_ne hbw.symm]; exact w6
        have L7 : LeftAt H (upd H6 b (.lst (nats ini))) pl ls (at_ os (rm P l) os.length) := L7
        generalize upd H6 b (.lst (nats ini)) = H7 at K7 h7 w7 L7
        obtain ⟨r, hr1, hr2⟩ := (hO.keep K7).at hol
        have hrr : (rs.map V.ref)[l]? = some (.ref r) := by rw [List.getElem?_map, hr1]; rfl
        refine ⟨_, rfl, _, rfl, _, rfl, po, _, l, _, rfl, rfl, SqL.of (K7 _ _ ho (by simp)), atI_nat hrr, ?_⟩
        refine ⟨ph, h, r, o, rfl, h7, hr2, (hv.ks o om).1, (hv.ks o om).2, by have := hv.len; omega, fun H8 K8 h8 => ?_⟩
        have L8 := L7.keepD K8 (by simpa using nhp.symm) fun q hq => by simpa using nhl q hq
        have npw : pw ≠ ph := ne_of w7 h7 (by intro z; cases z)
        have npl : pw ≠ pl := ne_of w7 L7.ha (by intro z; cases z)
        have w8 := K8 _ _ w7 (by simpa using npw)
        have K08 : Keep [] H H8 := Keep.base K7 K8 fun d hd => by simp at hd; subst hd; exact hph0
        have room := wk.room
        have wl : w.length < os.length := by
          have : 0 < ((List.range os.length).filter P).length := List.length_pos_of_mem (List.mem_filter.mpr ⟨List.mem_range.mpr gs.lt, gs.hp⟩)
          omega
        refine ⟨_, rfl, .inl ⟨rfl, _, SqL.of w8⟩, _, rfl, pw, _, _, rfl, rfl, w8, by rw [List.length_map]; omega, ?_⟩
        have ew : nats w ++ [V.int (l : Nat)] = nats (w ++ [l]) := by unfold nats; rw [List.map_append]; rfl
        rw [ew]
        have L9 := L8.keepD (Keep.upd_in (ds := [pw]) (p := pw) (o := .lst (nats (w ++ [l]))) (by simp)) (by simpa using npl.symm) fun q hq => by simpa using pw3 q hq
        have K09 : Keep [] H (upd H8 pw (.lst (nats (w ++ [l])))) := K08.trans_new hpw0
        have h9 : (upd H8 pw (.lst (nats (w ++ [l])))) ph = _ := Keep.upd_in (ds := [pw]) (by simp) _ _ h8 (by simpa using npw.symm)
        have w9 : (upd H8 pw (.lst (nats (w ++ [l])))) pw = _ := upd_same
        generalize upd H8 pw (.lst (nats (w ++ [l]))) = H9 at L9 K09 h9 w9
        refine ⟨_, rfl, ph, _, rfl, h9, fun vb2 H10 K10 fst2 => ?_⟩
        have hv' := hv.back hol (G o om).ne gs.hp
        have lr := less_rm G gs cl ov
        refine ⟨_, ?_, rm P l, w ++ [l], backI h o, vb2, _, _, rfl, rfl, K09.trans K10, K10 _ _ h9 (by simp), hv', L9.keep K10, K10 _ _ w9 (by simp), wk.snoc gs, lr.1, lr.2, inv hv' fst2⟩
        simp; omega
    · refine ⟨_, (pss_cons (ps_expr (pe_call G_look_at_round (hr.mono (by decide)) rfl D_look_at_round.m D_look_at_round.F.kp D_look_at_round.b .nil pass0 (pa_cons (pv 0) (pa_cons (pv 1) (pa_cons (pe_glob (v := .int 60) rfl g_MOST_ORDERS ⟨_, rfl⟩) pa_nil)))))
      (pss_cons (ps_set (i := 2) sc_greatest.nd rfl (Or.inl rfl) (pe_call G_have_by_all (hr.mono (by decide)) rfl D_have_by_all.m D_have_by_all.F.kp D_have_by_all.b .nil pass0 (pa_cons (pv 0) (pa_cons (pv 1) pa_nil))))
      (pss_cons (ps_set (i := 3) sc_greatest.nd rfl (Or.inl rfl) (pe_call G__places_by_payer (hr.mono (by decide)) rfl D__places_by_payer.m D__places_by_payer.F.kp D__places_by_payer.b .nil pass0 (pa_cons (pv 1) pa_nil)))
      (pss_cons (ps_set (i := 4) sc_greatest.nd rfl (Or.inr rfl) (pe_lst pa_nil))
      (pss_cons (ps_set (i := 5) sc_greatest.nd rfl (Or.inl rfl) (pe_call G_first_below (hr.mono (by decide)) rfl D_first_below.m D_first_below.F.kp D_first_below.b .nil pass0 (pa_cons (pv 2) pa_nil)))
      (pss_cons (ps_while PassesOwn.never (pt_cmpR op_notN (pv 5) pe_non (nomark _)) (pss_cons (ps_set (i := 6) sc_greatest.nd rfl (Or.inl rfl) (pe_bm0 PySem.F.plainAttrs_list PySem.F.slot_list_pop PySem.F.type_list_pop mt_pop (pe_dget hu (pv 3) (pv 5) (fun _ _ => rfl))))
      (pss_cons (ps_expr (pe_call G__undo (hr.mono (by decide)) rfl D__undo.m D__undo.F.kp D__undo.b .nil pass0 (pa_cons (pv 2) (pa_cons (pe_ix ix_tup (pv 1) (pv 6) (fun _ _ => rfl)) pa_nil))))
      (pss_cons (ps_expr (pe_bm PySem.F.plainAttrs_list PySem.F.slot_list_append PySem.F.type_list_append mt_append (pv 4) (pa_cons (pv 6) pa_nil)))
      (pss_one (ps_set (i := 5) sc_greatest.nd rfl (Or.inl rfl) (pe_call G_first_below (hr.mono (by decide)) rfl D_first_below.m D_first_below.F.kp D_first_below.b .nil pass0 (pa_cons (pv 2) pa_nil))))))))
      (pss_cons (ps_setLc (i := 7) (own := [("place", 6)]) (g := gName 6) rfl sc_greatest.nd rfl rfl (sw_true rfl rfl rfl (by decide +kernel)) (pi_range1 rfl T.z_range (pa_cons (pe_callB call_len_seq (by rfl) T.z_len (by decide +kernel) (pa_cons (pv 1) pa_nil)) pa_nil)) (blkOk_by (own := [("place", 6)]) (N := N_greatest) (sc := defScope s_greatest) (by decide +kernel)) (fun _ _ _ _ _ => (pg_name (i := 6) sc_greatest.nd rfl (Or.inl rfl))) (fun _ _ _ _ _ => pts_one (pt_cmpR (op_notIn_seqK (K := K) rfl) (pv 6) (pv 4) (by rfl))) (fun _ _ _ _ _ => (pv 6)))
      (pss_one (ps_ret (pe_tup (pa_cons (pv 7) (pa_cons (pe_callTy call_tuple_of (by rfl) T.z_tuple (by decide +kernel) (pa_cons (pv 4) pa_nil)) pa_nil)))))))))))), ?_⟩
      refine ⟨_, rfl, _, rfl, pf, po, fr, os, rfl, hf, hL, F, G, l60, fun H1 K1 => ?_⟩
      have hf1 := K1 _ _ hf (by simp)
      have hL1 := hL.keep K1
      refine ⟨_, rfl, _, rfl, pf, po, fr, os, rfl, hf1, hL1, F, l60, fun ph H2 hph K2 h2 => ?_⟩
      have hL2 := hL1.keep K2
      have hph0 := K1.none_of hph (by simp)
      have K02 := K1.trans K2
      refine ⟨_, rfl, po, os, rfl, hL2, l60, fun pl ls H3 K3 L3 => ?_⟩
      have h3 := K3 _ _ h2 (by simp)
      refine ⟨Nat.zero_le _, fun pw hpw => ?_⟩
      have nhp : ph ≠ pl := ne_of_none h2 L3.na
      have pw3 : ∀ q ∈ ls, q.2 ≠ pw := fun q hq => ne_of_none (L3.lst q hq) hpw
      have L3 := (L3.weak K02).keep (Keep.upd_new (ds := []) hpw (o := .lst []))
      have K03 : Keep [] H (upd H3 pw (.lst [])) := (K02.trans K3).trans (Keep.upd_new hpw)
      have h3 : (upd H3 pw (.lst [])) ph = _ := Keep.upd_new (ds := []) hpw _ _ h3 (by simp)
      have hw3 : (upd H3 pw (.lst [])) pw = some (.lst (nats [])) := upd_same
      have hpw0 := (K02.trans K3).none_of hpw (by simp)
      generalize upd H3 pw (.lst []) = H4 at L3 K03 h3 hw3
      refine ⟨_, rfl, ph, _, rfl, h3, fun vb H5 K5 fst => ?_⟩
      have nhl : ∀ q ∈ ls, q.2 ≠ ph := fun q hq => ne_of (L3.lst q hq) h3 (by intro z; cases z)
      have hst := HaveOk.start F G l60
      have inv : ∀ {P h v}, HaveOk fr os P h → First h v → (v = .non ∧ ∀ n, 0 ≤ bal fr os P n) ∨ ∃ x, v = .str x ∧ bal fr os P x < 0 := fun k f => f.imp (fun ⟨a, b⟩ => ⟨a, k.nn b⟩) fun ⟨p, hp, a, b⟩ => ⟨p.1, a, k.neg hp b⟩
      refine ⟨fun m σ H6 => ∃ P w h vb v6 v7, σ = [some (.ref pf), some (.ref po), some (.ref ph), some (.ref pl), some (.ref pw), some vb, v6, v7] ∧ m = os.length - w.length ∧ Keep [] H H6 ∧ H6 ph = some (.dK (kvI h)) ∧ HaveOk fr os P h ∧ LeftAt H H6 pl ls (at_ os P os.length) ∧ H6 pw = some (.lst (nats w)) ∧ Walk fr os (fun _ => true) w P ∧ Closed os P ∧ Over fr os P ∧ ((vb = .non ∧ ∀ n, 0 ≤ bal fr os P n) ∨ ∃ x, vb = .str x ∧ bal fr os P x < 0), ⟨_, fun _ => true, [], _, vb, none, none, rfl, rfl, K03.trans K5, K5 _ _ h3 (by simp), hst, L3.keep K5, K5 _ _ hw3 (by simp), .nil, (all_over (fr := fr)).1, all_over.2, inv hst fst⟩, ?_⟩
      rintro m σ H6 ⟨P, w, h, vb, v6, v7, rfl, rfl, K6, h6, hv, L6, w6, wk, cl, ov, hb⟩
      refine ⟨_, rfl, rfl, ?_⟩
      rcases hb with ⟨rfl, nn⟩ | ⟨x, rfl, hx⟩
      · refine ⟨false, rfl, iteF ?_⟩
        have lr := hO.len
        refine ⟨_, rfl, po, _, rfl, .inr (SqT.of (K6 _ _ ho (by simp))), _, rfl, by rw [List.length_map]; omega, by rw [List.length_map]; omega, fun L hL => ?_⟩
        have en : (((rs.map V.ref).length : Nat) : Int).toNat = os.length := by rw [List.length_map, lr]; omega
        have w7 : (upd H6 L (.lst [])) pw = _ := Keep.upd_new (ds := []) hL _ _ w6 (by simp)
        have K7 : Keep [] H6 (upd H6 L (.lst [])) := Keep.upd_new hL
        refine lc_range (lo := 0) (n := (((rs.map V.ref).length : Nat) : Int).toNat) (fun i H8 => Keep [] H6 H8 ∧ H8 L = some (.lst (nats ((List.range i).filter fun j => !decide (j ∈ w))))) ⟨K7, upd_same⟩ ?_ ?_
        · rintro i H8 hi ⟨K8, h8⟩
          rw [en] at hi
          refine ⟨rfl, _, rfl, _, rfl, pw, _, rfl, .inl (SqL.of (K8 _ _ w6 (by simp))), rfl, all_flat_nat w, _, rfl, ?_⟩
          have ei : inV (V.int (0 + (i : Nat))) (nats w) = decide (i ∈ w) := by rw [Int.zero_add]; exact inV_nat i w
          rw [ei, List.range_succ, List.filter_append]
          cases hd : decide (i ∈ w) with
          | true => refine iteF ⟨K8, ?_⟩; simp only [List.filter_cons, hd]; simpa using h8
          | false =>
            refine iteT ⟨_, rfl, _, h8, ?_, K8.trans_new hL, ?_⟩
            · rw [List.length_map]
              refine Nat.lt_of_le_of_lt (List.length_filter_le _ _) ?_
              rw [List.length_range]; omega
            · rw [upd_same]; simp only [List.filter_cons, hd]; simp [nats]
        · rintro H8 ⟨K8, h8⟩
          rw [en] at h8
          have ef : (List.range os.length).filter (fun j => !decide (j ∈ w)) = (List.range os.length).filter P := List.filter_congr fun i _ => by rw [wk.mem i, Bool.true_and]
          rw [ef] at h8
          have K08 := K6.trans K8
          refine ⟨_, rfl, _, rfl, pw, _, rfl, .inl ⟨SqL.of (K8 _ _ w6 (by simp)), fun W hW => ⟨by show 2 ≤ sizeLine; omega, fun R hR => ?_⟩⟩⟩
          have K9 := K08.trans (Keep.upd_new hW (o := .tup (nats w)))
          have h9 := Keep.upd_new (ds := []) hW (o := .tup (nats w)) _ _ h8 (by simp)
          have K10 := K9.trans (Keep.upd_new hR (o := .tup [.ref L, .ref W]))
          have hWR : W ≠ R := ne_of_none upd_same hR
          exact q R L W P w _ K10 upd_same (Keep.upd_new (ds := []) hR _ _ h9 (by simp)) (K6.none_of hL (by simp)) (by rw [upd_ne hWR]; exact upd_same) wk (Great.of cl ov nn)
      · obtain ⟨ini, l, e1, gs, e2, e3⟩ := at_last F G hx
        have hne : at_ os P os.length x ≠ [] := by rw [e1]; simp
        obtain ⟨b, hb1, hb2, hb3⟩ := L6.get hne
        rw [e1] at hb3
        obtain ⟨o, hol⟩ : ∃ o, os[l]? = some o := ⟨_, List.getElem?_eq_getElem gs.lt⟩
        have om := List.mem_of_getElem? hol
        have hbp : b ≠ ph := nhl _ hb2
        have hbw : b ≠ pw := pw3 _ hb2
        refine ⟨true, rfl, iteT ⟨_, fun _ _ q => q, ?_⟩⟩
        have dg : DGet H6 pl (.str x) (some (.ref b)) := by
          have := get_kvA (n := x) L6.ha
          rw [hb1] at this; exact this
        refine ⟨_, rfl, _, rfl, pl, .ref b, rfl, dg, .inl ⟨rfl, _, SqL.of hb3⟩, b, _, _, rfl, rfl, hb3, nats_last.1, ?_⟩
        rw [nats_last.2]
        have L7 := L6.set hb2 e2 e3
        have K7 : Keep [] H (upd H6 b (.lst (nats ini))) := K6.trans_new (L6.nw _ hb2)
        have h7 : (upd H6 b (.lst (nats ini))) ph = some (.dK (kvI h)) := by rw [upd_ne hbp.symm]; exact h6
        have w7 : (upd H6 b (.lst (nats ini))) pw = some (.lst (nats w)) := by rw [upd_ne hbw.symm]; exact w6
        have L7 : LeftAt H (upd H6 b (.lst (nats ini))) pl ls (at_ os (rm P l) os.length) := L7
        generalize upd H6 b (.lst (nats ini)) = H7 at K7 h7 w7 L7
        obtain ⟨r, hr1, hr2⟩ := (hO.keep K7).at hol
        have hrr : (rs.map V.ref)[l]? = some (.ref r) := by rw [List.getElem?_map, hr1]; rfl
        refine ⟨_, rfl, _, rfl, _, rfl, po, _, l, _, rfl, rfl, SqT.of (K7 _ _ ho (by simp)), atI_nat hrr, ?_⟩
        refine ⟨ph, h, r, o, rfl, h7, hr2, (hv.ks o om).1, (hv.ks o om).2, by have := hv.len; omega, fun H8 K8 h8 => ?_⟩
        have L8 := L7.keepD K8 (by simpa using nhp.symm) fun q hq => by simpa using nhl q hq
        have npw : pw ≠ ph := ne_of w7 h7 (by intro z; cases z)
        have npl : pw ≠ pl := ne_of w7 L7.ha (by intro z; cases z)
        have w8 := K8 _ _ w7 (by simpa using npw)
        have K08 : Keep [] H H8 := Keep.base K7 K8 fun d hd => by simp at hd; subst hd; exact hph0
        have room := wk.room
        have wl : w.length < os.length := by
          have : 0 < ((List.range os.length).filter P).length := List.length_pos_of_mem (List.mem_filter.mpr ⟨List.mem_range.mpr gs.lt, gs.hp⟩)
          omega
        refine ⟨_, rfl, .inl ⟨rfl, _, SqL.of w8⟩, _, rfl, pw, _, _, rfl, rfl, w8, by rw [List.length_map]; omega, ?_⟩
        have ew : nats w ++ [V.int (l : Nat)] = nats (w ++ [l]) := by unfold nats; rw [List.map_append]; rfl
        rw [ew]
        have L9 := L8.keepD (Keep.upd_in (ds := [pw]) (p := pw) (o := .lst (nats (w ++ [l]))) (by simp)) (by simpa using npl.symm) fun q hq => by simpa using pw3 q hq
        have K09 : Keep [] H (upd H8 pw (.lst (nats (w ++ [l])))) := K08.trans_new hpw0
        have h9 : (upd H8 pw (.lst (nats (w ++ [l])))) ph = _ := Keep.upd_in (ds := [pw]) (by simp) _ _ h8 (by simpa using npw.symm)
        have w9 : (upd H8 pw (.lst (nats (w ++ [l])))) pw = _ := upd_same
        generalize upd H8 pw (.lst (nats (w ++ [l]))) = H9 at L9 K09 h9 w9
        refine ⟨_, rfl, ph, _, rfl, h9, fun vb2 H10 K10 fst2 => ?_⟩
        have hv' := hv.back hol (G o om).ne gs.hp
        have lr := less_rm G gs cl ov
        refine ⟨_, ?_, rm P l, w ++ [l], backI h o, vb2, _, _, rfl, rfl, K09.trans K10, K10 _ _ h9 (by simp), hv', L9.keep K10, K10 _ _ w9 (by simp), wk.snoc gs, lr.1, lr.2, inv hv' fst2⟩
        simp; omega
end
end My
set_option Elab.async false
set_option maxRecDepth 100000
set_option maxHeartbeats 800000
namespace My
open PySem L2 TL StX
/-! numbers in lists -/
def dnat (l : List Nat) : List PyData := l.map fun i : Nat => PyData.int i
theorem dpAll_nat {K : PySem.W.Frag} {H : Hp} : ∀ l : List Nat, DpAll K H (nats l) (dnat l)
  | [] => .nil
  | _ :: r => .cons (.int _) (dpAll_nat r)
theorem eqvAll_nat : ∀ l m : List Nat, PyData.eqvAll (dnat l) (dnat m) = decide (l = m)
  | [], [] => by simp [dnat, PyData.eqvAll]
  | [], _ :: _ => by simp [dnat, PyData.eqvAll]
  | _ :: _, [] => by simp [dnat, PyData.eqvAll]
  | i :: l, j :: m => by
    have ih := eqvAll_nat l m
    unfold dnat at ih ⊢
    rw [List.map_cons, List.map_cons, PyData.eqvAll, ih, PyData.eqv]
    by_cases h : i = j
    · subst h; simp
    · have : ((i : Int) == (j : Int)) = false := beq_eq_false_iff_ne.mpr (by omega)
      rw [this]; simp [h]
theorem eqv_nat (l m : List Nat) : PyData.eqv (.list (dnat l)) (.list (dnat m)) = decide (l = m) := by rw [PyData.eqv]; exact eqvAll_nat l m
theorem can_nat : ∀ l : List Nat, PyData.canLayAll0 (dnat l) = true ∧ PyData.depthAll (dnat l) = 0
  | [] => by simp [dnat, PyData.canLayAll0, PyData.depthAll]
  | i :: r => by
    have ih := can_nat r
    unfold dnat at ih ⊢
    rw [List.map_cons, PyData.canLayAll0, PyData.depthAll, ih.1, ih.2]
    simp [PyData.canLay0, PyData.depth]
theorem shaped_nat (l : List Nat) : SeqAt.shaped (.list (dnat l)) = true := by
  unfold SeqAt.shaped
  rw [PyData.canLay0, PyData.depth, (can_nat l).1, (can_nat l).2]; rfl
theorem Dp_nat {K : PySem.W.Frag} {H : Hp} {a : Addr} {l : List Nat} (h : SqL K H a (nats l)) : Dp K H (.ref a) (.list (dnat l)) := .lst h (dpAll_nat l)
theorem rgV_nat (n : Nat) : rgV 0 (n : Nat) = nats (List.range n) := by
  unfold rgV nats
  have : ((n : Int) - 0).toNat = n := by omega
  rw [this]
  exact List.map_congr_left fun i _ => by rw [Int.zero_add]
theorem ints_nats {ns : List Int} : ∀ {l : List Nat}, ns.Perm (l.map fun i : Nat => (i : Int)) → ∃ m : List Nat, ns = m.map (fun i : Nat => (i : Int)) ∧ m.Perm l := fun {l} h => by
  refine ⟨ns.map Int.toNat, ?_, ?_⟩
  · rw [List.map_map]
    refine Eq.symm ((List.map_congr_left fun i hi => ?_).trans (List.map_id _))
    obtain ⟨j, _, rfl⟩ := List.mem_map.mp (h.subset hi)
    show ((Int.toNat (j : Int) : Nat) : Int) = _
    rw [Int.toNat_natCast]; rfl
  · have := h.map Int.toNat
    rw [List.map_map] at this
    have e : l.map (Int.toNat ∘ fun i : Nat => (i : Int)) = l := by
      refine (List.map_congr_left fun i _ => ?_).trans (List.map_id _)
      show Int.toNat (i : Int) = _
      rw [Int.toNat_natCast]; rfl
    rw [e] at this; exact this
/-- sorted of places -/
theorem sorted_nat {K : PySem.W.Frag} {H : Hp} {a : Addr} {l s : List Nat} {Q : VK} (h : SqL K H a (nats l)) (hl : l.length < 64) (hp : l.Perm s) (hs : s.Pairwise (· ≤ ·)) (q : ∀ p, H p = none → Q (.ref p) (upd H p (.lst (nats s)))) : rSorted K [.ref a] H Q := by
  have e : nats l = (l.map fun i : Nat => (i : Int)).map V.int := by rw [List.map_map]; rfl
  refine ⟨a, l.map fun i : Nat => (i : Int), rfl, e ▸ h, by rw [List.length_map]; exact hl, fun ns p pm so hp0 => ?_⟩
  obtain ⟨m, rfl, pm2⟩ := ints_nats pm
  have : m = s := by
    refine List.Perm.eq_of_pairwise (le := (· ≤ ·)) (fun a b _ _ h1 h2 => Nat.le_antisymm h1 h2) ?_ hs (pm2.trans hp)
    refine (List.pairwise_map.mp so).imp fun h => by omega
  subst this
  rw [List.map_map]
  exact q p hp0
theorem range_sorted (n : Nat) : (List.range n).Pairwise (· ≤ ·) := List.pairwise_le_range
section
variable {P : Program} {w : World} {K : PySem.W.Frag} {mg : Str → Option Value} {base : Heap}
theorem noArg {σ : L2.St} {H : Hp} {F : List V → Hp → Prop} (h : F [] H) : tNil σ H F := h
end
end My
set_option Elab.async false
set_option maxRecDepth 100000
set_option maxHeartbeats 800000
namespace My
open PySem L2 TL StX
section
variable {P : Program} {w : World} {K : PySem.W.Frag} {mg : Str → Option Value} {base : Heap}
theorem catA_all {H : Hp} {a b : Addr} {xs ys : List V} {Q : VK} (ha : H a = some (.tup xs)) (hb : H b = some (.tup ys)) (hl : xs.length + ys.length ≤ 1000)
    (q : ∀ p H', Keep [] H H' → H' p = some (.tup (xs ++ ys)) → Q (.ref p) H') : rCatA K (.ref a) (.ref b) H Q := by
  refine ⟨a, b, xs, ys, rfl, rfl, SqT.of ha, SqT.of hb, by have : sizeLine = 16777216 := sizeLine_eq; omega, fun e => ?_, fun _ e => ?_, fun _ _ p hp => q p _ (Keep.upd_new hp) upd_same⟩
  · subst e; exact q b H Keep.refl hb
  · subst e; exact q a H Keep.refl (by rw [List.append_nil]; exact ha)
theorem noPart {σ : L2.St} {H : Hp} {F : Option Int → Hp → Prop} (h : F none H) : tNoPart σ H F := h
theorem Ords.keepD {H H' : Hp} {ds : List Addr} {rs : List Addr} {os : List O} (h : Ords H rs os) (k : Keep ds H H') (hd : ∀ b ∈ ds, ∀ xs, H b ≠ some (.tup xs)) : Ords H' rs os :=
  Paired.mapP h fun r o x => k _ _ x fun z => hd r z _ x
theorem Ords.snoc {H : Hp} {r : Addr} {o : O} (hr : H r = some (.tup (vals o))) : ∀ {rs : List Addr} {os : List O}, Ords H rs os → Ords H (rs ++ [r]) (os ++ [o])
  | _, _, .nil => .cons hr .nil
  | _, _, .cons a t => .cons a (Ords.snoc hr t)
theorem lst_notup {H : Hp} {p : Addr} {ys : List V} (h : H p = some (.lst ys)) : ∀ b ∈ [p], ∀ xs, H b ≠ some (.tup xs) := by
  intro b hb xs e
  obtain rfl : b = p := by simpa using hb
  rw [h] at e; cases e
theorem DrawAt.notup {H : Hp} {d c : Addr} (D : DrawAt H d c) : ∀ b ∈ [d], ∀ xs, H b ≠ some (.tup xs) := by
  obtain ⟨ns, k, l, m, h1, _⟩ := D
  intro b hb xs e
  obtain rfl : b = d := by simpa using hb
  rw [h1] at e; cases e
theorem DrawAt.ntup {H : Hp} {d c p : Addr} {xs : List V} (D : DrawAt H d c) (h : H p = some (.tup xs)) : p ∉ [d] := fun z => D.notup p z xs h
def sp_lot : Sp := fun vs H Q _ => ∃ d c a zs m, vs = [.ref d, .ref a, .int m] ∧ DrawAt H d c ∧ H a = some (.lst (zs.map V.str)) ∧ CrewL zs ∧ 2 ≤ zs.length ∧ zs.length ≤ 1000 ∧ 0 ≤ m ∧ m ≤ 60 ∧
  ∀ p rs os H', H p = none → H' p = some (.lst (rs.map V.ref)) → Ords H' rs os → (∀ o ∈ os, OkO o ∧ o.py ∈ zs ∧ o.pe ∈ zs) → (os.length : Int) = m → DrawAt H' d c → Keep [d] H H' → Q (.ref p) H'
theorem p__law_lot (T : Txt K mg) : Pr P w K mg base "_law_lot" s__law_lot ["state", "crew", "many"] 5 sp_lot := by
  obtain ⟨f, fd, D⟩ := T.d__law_lot
  obtain ⟨f__law_next, fd__law_next, D__law_next, G__law_next⟩ := p__law_next (P := P) (w := w) (base := base) T; obtain ⟨f__law_one, fd__law_one, D__law_one, G__law_one⟩ := p__law_one (P := P) (w := w) (base := base) T
  refine ⟨f, fd, D, D.F.ok sc__law_lot (fun vs H Q E h => ?_) (fun cdv A outer s H vs Q E hr h => ?_)⟩
  · obtain ⟨d, c, a, zs, m, rfl, _⟩ := h; rfl
  · obtain ⟨d, c, a, zs, m, rfl, D0, ha, C0, z0, z1, m0, m1, q⟩ := h
    have hsl : sizeLine = 16777216 := sizeLine_eq
    have nad : a ∉ [d] := by
      obtain ⟨ns, k, l, m, h1, _⟩ := D0
      simp only [List.mem_singleton]; exact ne_of ha h1 (by intro z; cases z)
    refine ⟨_, (pss_cons (ps_par (i := 3) (j := 4) (by rfl) sc__law_lot.nd rfl rfl (by decide) rfl rfl (pa_cons (pe_call G__law_next (hr.mono (by decide)) rfl D__law_next.m D__law_next.F.kp D__law_next.b .nil pass0 (pa_cons (pv 0) (pa_cons pe_int pa_nil))) (pa_cons (pe_lst pa_nil) pa_nil)) (by rfl))
      (pss_cons (ps_for PassesOwn.never rfl (pi_range1 rfl T.z_range (pa_cons (pv 2) pa_nil)) (pg_name (i := 5) sc__law_lot.nd rfl (Or.inl rfl)) (pss_cons (ps_set (i := 6) sc__law_lot.nd rfl (Or.inl rfl) (pe_call G__law_one (hr.mono (by decide)) rfl D__law_one.m D__law_one.F.kp D__law_one.b .nil pass0 (pa_cons (pv 0) (pa_cons (pv 1) pa_nil))))
      (pss_one (ps_expr (pe_bm PySem.F.plainAttrs_list PySem.F.slot_list_append PySem.F.type_list_append mt_append (pv 4) (pa_cons (pe_ifExp (pt_cmpR op_eq (pv 3) pe_int (nomark _)) (pe_op op_catA (pe_op op_catA (pe_slice sl_tupA (pv 6) po_none (po_some pe_int)) (pe_tup (pa_cons (pe_op op_add pe_int (pe_call G__law_next (hr.mono (by decide)) rfl D__law_next.m D__law_next.F.kp D__law_next.b .nil pass0 (pa_cons (pv 0) (pa_cons pe_int pa_nil)))) pa_nil))) (pe_slice sl_tupA (pv 6) (po_some pe_int) po_none)) (pv 6)) pa_nil))))))
      (pss_one (ps_ret (pv 4))))), ?_⟩
    refine ⟨_, rfl, d, c, _, rfl, D0, by decide, by decide, fun sm H1 s0 s1 D1 K1 => ?_⟩
    refine ⟨Nat.zero_le _, fun p hp => ?_⟩
    refine ⟨_, _, rfl, _, rfl, m, rfl, by omega, by omega, ?_⟩
    have hp0 := K1.none_of hp (by simpa using (D1.new hp).1.symm)
    have npd : p ∉ [d] := by simpa using (D1.new hp).1.symm
    have npc : c ≠ p := (D1.new hp).2
    refine for_range (lo := 0) (n := m.toNat) (fun i σ H2 => DrawAt H2 d c ∧ Keep [d] H H2 ∧ ∃ rs os v5 v6, σ = [some (.ref d), some (.ref a), some (.int m), some (.int sm), some (.ref p), v5, v6] ∧ H2 p = some (.lst (rs.map V.ref)) ∧ Ords H2 rs os ∧ (∀ o ∈ os, OkO o ∧ o.py ∈ zs ∧ o.pe ∈ zs) ∧ os.length = i) ⟨D1.keep (Keep.upd_new hp), K1.trans (Keep.upd_new hp), [], [], none, none, rfl, upd_same, .nil, by simp, rfl⟩ ?_ ?_
    · rintro i σ H2 hi ⟨D2, K2, rs, os, v5, v6, rfl, h2, O2, G2, il⟩
      refine ⟨_, rfl, _, rfl, d, c, a, zs, rfl, D2, K2 _ _ ha nad, C0, z0, z1, fun T' x y k r s e H3 hT hT3 hx hy hxy k0 k1 r0 r1 s0 s1 e0 e1 D3 K3 => ?_⟩
      have h3 := K3 _ _ h2 npd
      have O3 := O2.keepD K3 D2.notup
      have K03 := K2.trans K3
      have fin : ∀ {H4 : Hp} {t : Addr} {o : O}, DrawAt H4 d c → Keep [d] H3 H4 → H4 t = some (.tup (vals o)) → (OkO o ∧ o.py ∈ zs ∧ o.pe ∈ zs) → DrawAt (upd H4 p (.lst (rs.map V.ref ++ [.ref t]))) d c ∧ Keep [d] H (upd H4 p (.lst (rs.map V.ref ++ [.ref t]))) ∧ ∃ rs' os' v5 v6, [some (V.ref d), some (.ref a), some (.int m), some (.int sm), some (.ref p), some (.int (0 + (i : Nat))), some (.ref T')] = [some (V.ref d), some (.ref a), some (.int m), some (.int sm), some (.ref p), v5, v6] ∧ (upd H4 p (.lst (rs.map V.ref ++ [.ref t]))) p = some (.lst (rs'.map V.ref)) ∧ Ords (upd H4 p (.lst (rs.map V.ref ++ [.ref t]))) rs' os' ∧ (∀ o ∈ os', OkO o ∧ o.py ∈ zs ∧ o.pe ∈ zs) ∧ os'.length = i + 1 := by
        intro H4 t o D4 K4 ht ok
        have h4 := K4 _ _ h3 npd
        have O4 := (O3.keepD K4 D3.notup).snoc ht
        refine ⟨D4.keep (Keep.upd_in (ds := [p]) (by simp)) (by simpa using (D1.new hp).1) (by simpa using npc), fun b o e hb => ?_, rs ++ [t], os ++ [o], _, _, rfl, by rw [upd_same, List.map_append]; rfl, O4.keepD (Keep.upd_in (ds := [p]) (by simp)) (lst_notup h4), fun o ho => ?_, by simp [il]⟩
        · rw [upd_ne (ne_of_none e hp0)]; exact (K03.trans K4) b o e hb
        · rcases List.mem_append.mp ho with ho | ho
          · exact G2 o ho
          · rw [List.mem_singleton] at ho; subst ho; exact ok
      have ok : ∀ k, 1 ≤ k → k ≤ 1000000000 → OkO ⟨x, y, k, r, s, e⟩ ∧ x ∈ zs ∧ y ∈ zs := fun k a b => ⟨⟨C0.ok x hx, C0.ok y hy, hxy, a, b, r0, r1, s0, e0⟩, hx, hy⟩
      refine ⟨_, rfl, .inl ⟨rfl, _, SqL.of h3⟩, ?_⟩
      have rl : (rs.map V.ref).length < sizeLine := by
        have e := O2.len
        rw [List.length_map]; omega
      refine ⟨_, rfl, rfl, _, rfl, ite2 (fun _ => ?_) (fun _ => ?_)⟩
      · refine ⟨_, rfl, ?_⟩
        refine noPart ?_
        refine ⟨_, rfl, slA_all hT3 fun p1 H4 K4 h4 => ?_⟩
        have D4 := D3.keep K4
        refine ⟨_, rfl, d, c, _, rfl, D4, by decide, by decide, fun g H5 g0 g1 D5 K5 => ?_⟩
        refine ⟨_, _, rfl, rfl, by show 1 ≤ sizeLine; omega, fun p2 hp2 => ?_⟩
        have h5 := K5 _ _ h4 (D4.ntup h4)
        have hT5 := K5 _ _ (K4 _ _ hT3 (by simp)) (D4.ntup (K4 _ _ hT3 (by simp)))
        have K6 : Keep [] H5 (upd H5 p2 (.tup [V.int (1 + g)])) := Keep.upd_new hp2
        refine catA_all (K6 _ _ h5 (by simp)) upd_same (by show 3 + 1 ≤ 1000; decide) fun p3 H7 K7 h7 => ?_
        have K57 := K6.trans K7
        refine ⟨_, rfl, _, rfl, ?_⟩
        refine noPart ?_
        refine slA_all (K57 _ _ hT5 (by simp)) fun p4 H8 K8 h8 => ?_
        refine catA_all (K8 _ _ h7 (by simp)) h8 (by show 4 + 3 ≤ 1000; decide) fun p5 H9 K9 h9 => ?_
        have K59 := (K57.trans K8).trans K9
        have K39 : Keep [d] H3 H9 := ((K4.mono (by simp)).trans K5).trans (K59.mono (by simp))
        exact ⟨p, _, _, rfl, rfl, K39 _ _ h3 npd, rl, fin (o := ⟨x, y, 1 + g, r, s, e⟩) (D5.keep K59) K39 h9 (ok (1 + g) (by omega) (by omega))⟩
      · refine ⟨_, rfl, p, _, _, rfl, rfl, h3, rl, fin (o := ⟨x, y, k, r, s, e⟩) D3 Keep.refl hT3 (ok k k0 k1)⟩
    · rintro σ H2 ⟨D2, K2, rs, os, v5, v6, rfl, h2, O2, G2, il⟩
      exact ⟨_, rfl, q p rs os H2 hp0 h2 O2 G2 (by omega) D2 K2⟩
theorem mem_put {h : DI} {n : Str} {v : Int} {p : Str × Int} (m : p ∈ putI h n v) : p = (n, v) ∨ p ∈ h := by
  unfold putI at m
  split at m
  · obtain ⟨q, hq, rfl⟩ := List.mem_map.mp m
    split
    · exact .inl rfl
    · exact .inr hq
  · rcases List.mem_append.mp m with m | m
    · exact .inr m
    · exact .inl (by simpa using m)
def sp_means : Sp := fun vs H Q _ => ∃ d c a zs, vs = [.ref d, .ref a] ∧ DrawAt H d c ∧ H a = some (.lst (zs.map V.str)) ∧ CrewL zs ∧ zs.length ≤ 1000 ∧
  ∀ p fr H', H p = none → H' p = some (.dK (kvI fr)) → OkF fr → (∀ p ∈ fr, p.1 ∈ zs) → DrawAt H' d c → Keep [d] H H' → Q (.ref p) H'
theorem p__law_means (T : Txt K mg) : Pr P w K mg base "_law_means" s__law_means ["state", "crew"] 4 sp_means := by
  obtain ⟨f, fd, D⟩ := T.d__law_means
  obtain ⟨f__law_next, fd__law_next, D__law_next, G__law_next⟩ := p__law_next (P := P) (w := w) (base := base) T
  refine ⟨f, fd, D, D.F.ok sc__law_means (fun vs H Q E h => ?_) (fun cdv A outer s H vs Q E hr h => ?_)⟩
  · obtain ⟨d, c, a, zs, rfl, _⟩ := h; rfl
  · obtain ⟨d, c, a, zs, rfl, D0, ha, C0, z1, q⟩ := h
    have hsl : sizeLine = 16777216 := sizeLine_eq
    have hu := hu_of hr
    have nad : a ∉ [d] := by
      obtain ⟨ns, k, l, m, h1, _⟩ := D0
      simp only [List.mem_singleton]; exact ne_of ha h1 (by intro z; cases z)
    refine ⟨_, (pss_cons (ps_set (i := 2) sc__law_means.nd rfl (Or.inl rfl) pe_dnewK)
      (pss_cons (ps_for PassesOwn.never rfl (pi_list (pv 1)) (pg_name (i := 3) sc__law_means.nd rfl (Or.inl rfl)) (pss_cons (ps_set (i := 4) sc__law_means.nd rfl (Or.inl rfl) (pe_call G__law_next (hr.mono (by decide)) rfl D__law_next.m D__law_next.F.kp D__law_next.b .nil pass0 (pa_cons (pv 0) (pa_cons pe_int pa_nil))))
      (pss_one (ps_if (pt_cmpR op_lt (pv 4) pe_int (nomark _)) (pss_one (ps_dput hu (pv 2) (pv 3) (pe_ix ix_list (pe_lst (pa_cons pe_int (pa_cons (pe_call G__law_next (hr.mono (by decide)) rfl D__law_next.m D__law_next.F.kp D__law_next.b .nil pass0 (pa_cons (pv 0) (pa_cons pe_int pa_nil))) (pa_cons (pe_call G__law_next (hr.mono (by decide)) rfl D__law_next.m D__law_next.F.kp D__law_next.b .nil pass0 (pa_cons (pv 0) (pa_cons pe_int pa_nil))) (pa_cons (pe_call G__law_next (hr.mono (by decide)) rfl D__law_next.m D__law_next.F.kp D__law_next.b .nil pass0 (pa_cons (pv 0) (pa_cons (pe_op op_mul pe_int (pe_op op_pow pe_int pe_int)) pa_nil))) pa_nil))))) (pv 4) (fun _ _ => rfl)) rfl)) pss_nil))))
      (pss_one (ps_ret (pv 2))))), ?_⟩
    refine fun p hp => ?_
    refine ⟨_, rfl, a, rfl, ⟨_, SqL.of (Keep.upd_new (ds := []) hp _ _ ha (by simp))⟩, for_list (K := K) (a := a) (xs := zs.map V.str) (fun i σ H2 => DrawAt H2 d c ∧ Keep [d] H H2 ∧ ∃ fr v3 v4, σ = [some (.ref d), some (.ref a), some (.ref p), v3, v4] ∧ H2 p = some (.dK (kvI fr)) ∧ OkF fr ∧ (∀ p ∈ fr, p.1 ∈ zs) ∧ fr.length ≤ i) ⟨D0.keep (Keep.upd_new hp), Keep.upd_new hp, [], none, none, rfl, upd_same, ⟨by simp, by simp, by simp, by simp⟩, by simp, Nat.le_refl _⟩ (fun i σ H2 _ ⟨_, k, _⟩ => SqL.of (k _ _ ha nad)) ?_ ?_⟩
    · rintro i x σ H2 hx ⟨D2, K2, fr, v3, v4, rfl, h2, F, FZ, fl⟩
      have il := (List.getElem?_eq_some_iff.mp hx).1
      rw [List.length_map] at il
      obtain ⟨z, hz, rfl⟩ := List.mem_map.mp (List.mem_of_getElem? hx)
      refine ⟨_, rfl, d, c, _, rfl, D2, by decide, by decide, fun way H3 w0 w1 D3 K3 => ?_⟩
      have npd : p ∉ [d] := by simpa using (D0.new hp).1.symm
      have h3 := K3 _ _ h2 npd
      refine ⟨_, rfl, _, _, rfl, rfl, _, rfl, ?_⟩
      refine ite2 (fun cw => ?_) fun cw => ⟨D3, K2.trans K3, fr, _, _, rfl, h3, F, FZ, by omega⟩
      have cw : way < 4 := of_decide_eq_true cw
      refine ⟨_, rfl, d, c, _, rfl, D3, by decide, by decide, fun r1 H4 r10 r11 D4 K4 => ?_⟩
      refine ⟨_, rfl, d, c, _, rfl, D4, by decide, by decide, fun r2 H5 r20 r21 D5 K5 => ?_⟩
      refine ⟨_, rfl, _, _, rfl, rfl, ⟨by decide, by decide, by decide⟩, _, _, rfl, rfl, Or.inl ⟨by decide, by decide⟩, d, c, _, rfl, D5, by decide, by decide, fun r3 H6 r30 r31 D6 K6 => ?_⟩
      refine ⟨by show 4 ≤ sizeLine; omega, fun l hl => ?_⟩
      have KA : Keep [d] H2 (upd H6 l (.lst [.int 0, .int r1, .int r2, .int r3])) := (((K3.trans K4).trans K5).trans K6).trans (Keep.upd_new hl)
      have D7 := D6.keep (Keep.upd_new (ds := []) hl (o := .lst [.int 0, .int r1, .int r2, .int r3]))
      have hl7 : (upd H6 l (.lst [.int 0, .int r1, .int r2, .int r3])) l = _ := upd_same
      generalize upd H6 l (.lst [.int 0, .int r1, .int r2, .int r3]) = H7 at KA D7 hl7
      have h7 := KA _ _ h2 npd
      obtain ⟨v, e1, e2⟩ := atI_of (xs := [V.int 0, .int r1, .int r2, .int r3]) (i := way) w0 (by simpa using cw)
      obtain ⟨n, rfl, n0⟩ : ∃ n : Int, v = .int n ∧ 0 ≤ n := by
        have hm := List.mem_of_getElem? e1
        simp only [List.mem_cons, List.not_mem_nil, or_false] at hm
        rcases hm with rfl | rfl | rfl | rfl
        · exact ⟨_, rfl, by decide⟩
        · exact ⟨_, rfl, r10⟩
        · exact ⟨_, rfl, r20⟩
        · exact ⟨_, rfl, r30⟩
      refine ⟨_, rfl, l, _, way, _, rfl, rfl, SqL.of hl7, e2, ?_⟩
      refine ⟨_, rfl, _, rfl, p, _, rfl, DPutS h7 (by unfold kvI; rw [List.length_map]; omega), ?_⟩
      have e3 : putK (kvI fr) (Sum.inr z) (.int n) = kvI (putI fr z n) := putK_kvI
      rw [e3]
      have lp := len_put (h := fr) (n := z) (v := n)
      refine ⟨D7.keep (Keep.upd_in (ds := [p]) (by simp)) (by simpa using (D0.new hp).1) (by simpa using (D0.new hp).2), fun b o e hb => ?_, putI fr z n, _, _, rfl, upd_same, ⟨nodup_put F.nd, fun q hq => ?_, fun q hq => ?_, by omega⟩, fun q hq => ?_, by omega⟩
      · rw [upd_ne (ne_of_none e hp)]; exact (K2.trans KA) b o e hb
      · rcases mem_put hq with rfl | hq
        · exact C0.ok z hz
        · exact F.nm q hq
      · rcases mem_put hq with rfl | hq
        · exact n0
        · exact F.nn q hq
      · rcases mem_put hq with rfl | hq
        · exact hz
        · exact FZ q hq
    · rintro σ H2 ⟨D2, K2, fr, v3, v4, rfl, h2, F, FZ, fl⟩
      exact ⟨_, rfl, q p fr H2 hp h2 F FZ D2 K2⟩
end
end My
set_option Elab.async false
set_option maxRecDepth 100000
set_option maxHeartbeats 800000
namespace My
open PySem L2 TL StX
section
variable {P : Program} {w : World} {K : PySem.W.Frag} {mg : Str → Option Value} {base : Heap}
/-- a list == [] -/
def rEqNil : R2 := fun x y H Q => ∃ a b xs, x = .ref a ∧ y = .ref b ∧ H a = some (.lst xs) ∧ H b = some (.lst []) ∧ Q (.bl xs.isEmpty) H
theorem op_eqNil {X : Cx} (hu : X.A.units + 64 < cLine) : OpR X (compareOp .Eq) rEqNil := by
  intro pins s σ H x y v u Q I rx ry h
  obtain ⟨a, b, xs, rfl, rfl, ha, hb, q⟩ := h
  cases (show v = Value.ref a from rx)
  cases (show u = Value.ref b from ry)
  obtain ⟨_, its, k, rv, h1⟩ := (show ObjOk X.prog X.w H s.heap a (.lst xs) from I.hok a _ ha)
  obtain ⟨_, its2, k2, rv2, h2⟩ := (show ObjOk X.prog X.w H s.heap b (.lst []) from I.hok b _ hb)
  cases rv2
  cases xs with
  | nil =>
    cases rv
    exact SeqAt.RcAt.lists (e := fun _ => true) ⟨_, h1, rfl, _, rfl⟩ ⟨_, h2, rfl, _, rfl⟩ rfl (by omega) (fun j h => absurd h (by simp)) _ _ _ _ ⟨.bl true, H, I, rfl, q⟩
  | cons z r =>
    cases rv with
    | cons r1 r2 =>
      exact SeqAt.RcAt.lists_lengths ⟨_, h1, rfl, _, rfl⟩ ⟨_, h2, rfl, _, rfl⟩ (by simp) (by omega) _ _ _ _ ⟨.bl false, H, I, rfl, q⟩
def picks (os : List O) (l : List Nat) : List O := l.filterMap (os[·]?)
theorem picks_snoc {os : List O} {l : List Nat} {i j : Nat} {o : O} (h : l[i]? = some j) (ho : os[j]? = some o) : picks os (l.take (i + 1)) = picks os (l.take i) ++ [o] := by
  unfold picks
  rw [take_succ_of h, List.filterMap_append]
  simp [ho]
theorem picks_len {os : List O} (l : List Nat) : (picks os l).length ≤ l.length := List.length_filterMap_le _ _
theorem picks_mem {os : List O} {l : List Nat} : ∀ o ∈ picks os l, o ∈ os := fun o h => by
  obtain ⟨i, _, e⟩ := List.mem_filterMap.mp h
  exact List.mem_of_getElem? e
theorem picks_get {fr : DI} {os : List O} (ok : ∀ o ∈ os, OkO o) (n : Str) : ∀ l : List Nat, getI ((picks os l).foldl stepI fr) n = getI fr n + (l.map (flowAt os · n)).sum := by
  intro l
  induction l generalizing fr with
  | nil => simp [picks]
  | cons i r ih =>
    unfold picks at ih ⊢
    rw [List.map_cons, List.sum_cons, List.filterMap_cons]
    cases e : os[i]? with
    | none =>
      have : flowAt os i n = 0 := by unfold flowAt; rw [e]
      simp only []
      rw [ih, this]; omega
    | some o =>
      have : flowAt os i n = flow o n := by unfold flowAt; rw [e]
      simp only [List.foldl_cons]
      rw [ih, getI_step (ok _ (List.mem_of_getElem? e)).ne, this]; omega
theorem picks_bal {fr : DI} {os : List O} {P : Nat → Bool} (ok : ∀ o ∈ os, OkO o) (n : Str) : getI ((picks os ((List.range os.length).filter P)).foldl stepI fr) n = bal fr os P n := by
  rw [picks_get ok, sum_filter]; rfl
theorem fold_step {fr : DI} {os : List O} {o : O} : (os ++ [o]).foldl stepI fr = stepI (os.foldl stepI fr) o := by rw [List.foldl_append]; rfl
def sp_behind : Sp := fun vs H Q _ => ∃ pf pl pp fr os rs l, vs = [.ref pf, .ref pl, .ref pp] ∧ H pf = some (.dK (kvI fr)) ∧ H pl = some (.lst (rs.map V.ref)) ∧ Ords H rs os ∧ fr.length ≤ 1000 ∧ H pp = some (.lst (nats l)) ∧ (∀ i ∈ l, i < os.length) ∧ l.length ≤ 60 ∧
  ∀ p H', H p = none → Keep [] H H' → H' p = some (.dK (kvI ((picks os l).foldl stepI fr))) → Q (.ref p) H'
theorem p__law_behind (T : Txt K mg) : Pr P w K mg base "_law_behind" s__law_behind ["means", "lot", "places"] 1 sp_behind := by
  obtain ⟨f, fd, D⟩ := T.d__law_behind
  
  refine ⟨f, fd, D, D.F.ok sc__law_behind (fun vs H Q E h => ?_) (fun cdv A outer s H vs Q E hr h => ?_)⟩
  · obtain ⟨a, b, c, d, e, g, h, rfl, _⟩ := h; rfl
  · obtain ⟨pf, po, pp, fr, os, rs, l, rfl, hf, ho, hO, size, hp, hlt, l60, q⟩ := h
    have hsl : sizeLine = 16777216 := sizeLine_eq
    have hu := hu_of hr
    refine ⟨_, (pss_cons (ps_set (i := 3) sc__law_behind.nd rfl (Or.inl rfl) (pe_callTy call_dictD (by rfl) T.z_dict (by decide +kernel) (pa_cons (pv 0) pa_nil)))
      (pss_cons (ps_for PassesOwn.never rfl (pi_list (pv 2)) (pg_name (i := 4) sc__law_behind.nd rfl (Or.inl rfl)) (pss_cons (ps_dput hu (pv 3) (pe_ix ix_tup (pe_ix ix_list (pv 1) (pv 4) (fun _ _ => rfl)) pe_int (fun _ _ => rfl)) (pe_op op_sub (pe_dget2 hu (pv 3) (pe_ix ix_tup (pe_ix ix_list (pv 1) (pv 4) (fun _ _ => rfl)) pe_int (fun _ _ => rfl)) pe_int ⟨rfl, rfl, rfl, rfl⟩) (pe_ix ix_tup (pe_ix ix_list (pv 1) (pv 4) (fun _ _ => rfl)) pe_int (fun _ _ => rfl))) rfl)
      (pss_one (ps_dput hu (pv 3) (pe_ix ix_tup (pe_ix ix_list (pv 1) (pv 4) (fun _ _ => rfl)) pe_int (fun _ _ => rfl)) (pe_op op_add (pe_dget2 hu (pv 3) (pe_ix ix_tup (pe_ix ix_list (pv 1) (pv 4) (fun _ _ => rfl)) pe_int (fun _ _ => rfl)) pe_int ⟨rfl, rfl, rfl, rfl⟩) (pe_ix ix_tup (pe_ix ix_list (pv 1) (pv 4) (fun _ _ => rfl)) pe_int (fun _ _ => rfl))) rfl))))
      (pss_one (ps_ret (pv 3))))), ?_⟩
    refine ⟨_, rfl, pf, _, rfl, .inl hf, fun p hpn => ?_⟩
    refine ⟨_, rfl, pp, rfl, ⟨_, SqL.of (Keep.upd_new (ds := []) hpn _ _ hp (by simp))⟩, for_list (K := K) (a := pp) (xs := nats l) (fun i σ H2 => Keep [] H H2 ∧ H2 p = some (.dK (kvI ((picks os (l.take i)).foldl stepI fr))) ∧ ∃ v4, σ = [some (.ref pf), some (.ref po), some (.ref pp), some (.ref p), v4]) ⟨Keep.upd_new hpn, upd_same, none, rfl⟩ (fun i σ H2 _ ⟨k, _⟩ => SqL.of (k _ _ hp (by simp))) ?_ ?_⟩
    · rintro i x σ H2 hx ⟨K2, h2, v4, rfl⟩
      have il := (List.getElem?_eq_some_iff.mp hx).1
      rw [List.length_map] at il
      obtain ⟨j, hj⟩ : ∃ j, l[i]? = some j := ⟨_, List.getElem?_eq_getElem il⟩
      rw [List.getElem?_map, hj] at hx
      obtain rfl : V.int (j : Nat) = x := Option.some.inj hx
      have jl := hlt j (List.mem_of_getElem? hj)
      obtain ⟨o, hoj⟩ : ∃ o, os[j]? = some o := ⟨_, List.getElem?_eq_getElem jl⟩
      obtain ⟨r, hr1, hr2⟩ := (hO.keep K2).at hoj
      have hrr : (rs.map V.ref)[j]? = some (.ref r) := by rw [List.getElem?_map, hr1]; rfl
      have hr2 : H2 r = some (.tup [.str "order", .str o.py, .str o.pe, .int o.m, .int o.r, .int o.s, .int o.e]) := hr2
      have ho2 := K2 _ _ ho (by simp)
      rw [picks_snoc hj hoj, fold_step]
      have L := fold_len (fr := fr) (picks os (l.take i))
      have Lt := picks_len (os := os) (l.take i)
      rw [List.length_take] at Lt
      generalize (picks os (l.take i)).foldl stepI fr = g at h2 L
      refine ⟨_, rfl, p, rfl, IsD_kvI h2, _, rfl, _, rfl, po, _, j, _, rfl, rfl, SqL.of ho2, atI_nat hrr, r, _, 1, _, rfl, rfl, SqT.of hr2, rfl, _, get_kvI h2, ?_⟩
      rw [getD_kvI]
      refine ⟨_, rfl, _, rfl, po, _, j, _, rfl, rfl, SqL.of ho2, atI_nat hrr, r, _, 3, _, rfl, rfl, SqT.of hr2, rfl, _, _, rfl, rfl, ?_⟩
      refine ⟨_, rfl, _, rfl, _, rfl, po, _, j, _, rfl, rfl, SqL.of ho2, atI_nat hrr, r, _, 1, _, rfl, rfl, SqT.of hr2, rfl, p, _, rfl, DPutS h2 (by unfold kvI; rw [List.length_map]; omega), ?_⟩
      have e1 : putK (kvI g) (Sum.inr o.py) (.int (getI g o.py - o.m)) = kvI (putI g o.py (getI g o.py - o.m)) := putK_kvI
      rw [e1]
      have l1 := len_put (h := g) (n := o.py) (v := getI g o.py - o.m)
      have K4 : Keep [] H (upd H2 p (.dK (kvI (putI g o.py (getI g o.py - o.m))))) := K2.trans_new hpn
      have h4 : (upd H2 p (.dK (kvI (putI g o.py (getI g o.py - o.m))))) p = _ := upd_same
      have e2 : stepI g o = putI (putI g o.py (getI g o.py - o.m)) o.pe (getI (putI g o.py (getI g o.py - o.m)) o.pe + o.m) := rfl
      rw [e2]
      have hr4 : (upd H2 p (.dK (kvI (putI g o.py (getI g o.py - o.m))))) r = some (.tup [.str "order", .str o.py, .str o.pe, .int o.m, .int o.r, .int o.s, .int o.e]) := by rw [upd_ne (ne_of hr2 h2 (by intro z; cases z))]; exact hr2
      generalize putI g o.py (getI g o.py - o.m) = g1 at K4 h4 l1 hr4
      generalize upd H2 p (.dK (kvI g1)) = H4 at K4 h4 hr4
      have ho4 := K4 _ _ ho (by simp)
      refine ⟨_, rfl, p, rfl, IsD_kvI h4, _, rfl, _, rfl, po, _, j, _, rfl, rfl, SqL.of ho4, atI_nat hrr, r, _, 2, _, rfl, rfl, SqT.of hr4, rfl, _, get_kvI h4, ?_⟩
      rw [getD_kvI]
      refine ⟨_, rfl, _, rfl, po, _, j, _, rfl, rfl, SqL.of ho4, atI_nat hrr, r, _, 3, _, rfl, rfl, SqT.of hr4, rfl, _, _, rfl, rfl, ?_⟩
      refine ⟨_, rfl, _, rfl, _, rfl, po, _, j, _, rfl, rfl, SqL.of ho4, atI_nat hrr, r, _, 2, _, rfl, rfl, SqT.of hr4, rfl, p, _, rfl, DPutS h4 (by unfold kvI; rw [List.length_map]; omega), ?_⟩
      have e3 : putK (kvI g1) (Sum.inr o.pe) (.int (getI g1 o.pe + o.m)) = kvI (putI g1 o.pe (getI g1 o.pe + o.m)) := putK_kvI
      rw [e3]
      exact ⟨K4.trans_new hpn, upd_same, _, rfl⟩
    · rintro σ H2 ⟨K2, h2, v4, rfl⟩
      have : (nats l).length = l.length := List.length_map ..
      rw [this, List.take_length] at h2
      exact ⟨_, rfl, q p H2 hpn K2 h2⟩
theorem pi_listK {X : Cx} {tg e : Expr} {ta : TE} (ek : X.K = K) (h : PE X e ta) : PI X tg e (iList K ta) := ek ▸ pi_list h
end
end My
set_option Elab.async false
set_option maxRecDepth 100000
set_option maxHeartbeats 1600000
namespace My
open PySem PySem.Spec PyProof.Rows L2
section
variable {prog : Program} {w : World} {A : Around} {R : Result → Shared → Prop} {I : Addr} {fp wr : List Addr} {n : Nat} {P : Nat → Value → Prop} {St : Nat → Heap → Prop}
/-- what the walk has in its list so far: nothing, or the least one twice -/
def Kept (P : Nat → Value → Prop) (val : Nat → Int) (j : Nat) (its : Array Value) : Prop := (j = 0 ∧ its = #[]) ∨ ∃ b v, b < j ∧ P b v ∧ its = #[v, v] ∧ ∀ i, i < j → val b ≤ val i
theorem least_loop (W : Walks prog w A.in1 I fp wr n P St) (val : Nat → Int) (hv : ∀ i v, P i v → ∃ t, v = .int (val i) t) (S : Addr) (hS : S ∉ fp) (dv : Value) :
    ∀ (k j : Nat) (s : Shared) (its : Array Value) (c : Nat), n - j = k → j ≤ n → St j s.heap → Kept P val j its → s.heap.get? S = some ⟨.type "list", none, .seq its c, #[]⟩ →
      (∀ v h' tk, (n = 0 ∧ v = dv ∨ ∃ b, b < n ∧ P b v ∧ ∀ i, i < n → val b ≤ val i) → (∀ b o, b ∉ wr → b ≠ S → s.heap.get? b = some o → h'.get? b = some o) → R (.ok (.ret v)) { s with heap := h', toks := tk }) →
      codeAny (model prog w) A (.builtin "min.loop" ⟨[.ref I, .none, .ref S], [("default", dv)]⟩) R s := by
  have nS : S ∉ wr := fun h => hS (W.sub _ h)
  have nm : (toString "min" ++ toString ".loop" : String) = "min.loop" := by decide
  intro k
  induction k with
  | zero =>
    intro j s its c hk hj st kp hSs hR
    obtain rfl : j = n := by omega
    refine codeAny_builtin F.entry_min_loop ?_
    rw [Around.under_plainId F.plain_min_loop]
    refine wpAny_bind (wpAny_seqItems hSs rfl (wpAny_bind (wpAny_tryCatch (W.done s _ _ st fun h' tk hk' => ?_))))
    have hS' := hk' S _ nS hSs
    rcases kp with ⟨rfl, rfl⟩ | ⟨b, v, hb, pb, rfl, le⟩
    · show wpAny _ _ (do rule (toString "min" ++ toString ".default"); ret dv) _ _ _
      wp_walk
      exact hR dv h' tk (.inl ⟨rfl, rfl⟩) fun b o hb _ e => hk' b o hb e
    · show wpAny _ _ (updateSeq S (fun _ => #[]) >>= _) _ _ _
      refine wpAny_bind (wpAny_updateSeq hS' rfl (wpAny_bind (wpAny_letGo (wpAny_pure ?_))))
      exact hR v _ tk (.inr ⟨b, hb, pb, le⟩) fun a o ha na e => (Heap.get?_update_other _ _ (Ne.symm na)).trans (hk' a o ha e)
  | succ k ih =>
    intro j s its c hk hj st kp hSs hR
    have lt : j < n := by omega
    refine codeAny_builtin F.entry_min_loop ?_
    rw [Around.under_plainId F.plain_min_loop]
    refine wpAny_bind (wpAny_seqItems hSs rfl (wpAny_bind (wpAny_tryCatch (W.item j s _ _ lt st fun v h' tk pv st' hk' => ?_))))
    have hS' := hk' S _ nS hSs
    rcases kp with ⟨rfl, rfl⟩ | ⟨b, vb, hb, pb, rfl, le⟩
    · show wpAny _ _ (updateSeq S (fun _ => #[v, v]) >>= _) _ _ _
      refine wpAny_bind (wpAny_updateSeq hS' rfl ?_)
      rw [nm]
      refine wpAny_pure ⟨plainId_quiet F.plain_min_loop _, ih 1 _ #[v, v] _ (by omega) (by omega) (W.frame _ _ _ st' fun b hb o e => ?_) (.inr ⟨0, v, by omega, pv, rfl, fun i hi => by rw [show i = 0 from Nat.lt_one_iff.mp hi]; exact Int.le_refl _⟩) (Heap.get?_update_self _ hS' rfl) fun v' h2 tk2 hP hk2 => ?_⟩
      · exact (Heap.get?_update_other _ _ (fun z : S = b => hS (z ▸ hb))).trans e
      · exact hR v' h2 tk2 hP fun b o hb nb e => hk2 b o hb nb ((Heap.get?_update_other _ _ (Ne.symm nb)).trans (hk' b o hb e))
    · show wpAny _ _ (tryCatch (holding [v, v] (richCompare .Lt v vb >>= _)) _ >>= _) _ _ _
      refine wpAny_bind (wpAny_tryCatch (wpAny_holding (wpAny_bind (CmpOf.ints_lt val hv j b v vb _ _ _ pv pb ?_))))
      refine wpAny_bind (wpAny_holding (wpAny_truthy_bool (wpAny_bind (wpAny_letGo (wpAny_pure ?_)))))
      show wpAny _ _ (if decide (val j < val b) = true then _ else _) _ _ _
      by_cases hlt : val j < val b
      · rw [decide_eq_true hlt, if_pos rfl]
        show wpAny _ _ (updateSeq S (fun _ => #[v, v]) >>= _) _ _ _
        refine wpAny_bind (wpAny_updateSeq hS' rfl (wpAny_bind (wpAny_letGo ?_)))
        rw [nm]
        refine wpAny_pure ⟨plainId_quiet F.plain_min_loop _, ih (j + 1) _ #[v, v] _ (by omega) (by omega) (W.frame _ _ _ st' fun b hb o e => ?_) (.inr ⟨j, v, by omega, pv, rfl, fun i hi => ?_⟩) (Heap.get?_update_self _ hS' rfl) fun v' h2 tk2 hP hk2 => ?_⟩
        · exact (Heap.get?_update_other _ _ (fun z : S = b => hS (z ▸ hb))).trans e
        · by_cases e : i = j
          · rw [e]; exact Int.le_refl _
          · have := le i (by omega); omega
        · exact hR v' h2 tk2 hP fun b o hb nb e => hk2 b o hb nb ((Heap.get?_update_other _ _ (Ne.symm nb)).trans (hk' b o hb e))
      · rw [decide_eq_false hlt, if_neg Bool.false_ne_true]
        show wpAny _ _ (letGo [v, v] >>= _) _ _ _
        refine wpAny_bind (wpAny_letGo ?_)
        rw [nm]
        refine wpAny_pure ⟨plainId_quiet F.plain_min_loop _, ih (j + 1) _ #[vb, vb] _ (by omega) (by omega) st' (.inr ⟨b, vb, by omega, pb, rfl, fun i hi => ?_⟩) hS' fun v' h2 tk2 hP hk2 => ?_⟩
        · by_cases e : i = j
          · rw [e]; omega
          · exact le i (by omega)
        · exact hR v' h2 tk2 hP fun b o hb nb e => hk2 b o hb nb (hk' b o hb e)
end
section
variable {prog : Program} {w : World} {A : Around} {E : Value → Shared → Prop} {s : Shared} {l : Addr} {its : List Value} {ns : List Int}
theorem args_min_def (a d : Value) : argsOk "min" ⟨[a], [("default", d)]⟩ := by unfold argsOk; kernel_rfl
/-- min of a list of whole numbers, and of none what is told -/
theorem min_def {dv : Value} {Q : Value → Shared → Prop} (hh : A.handled = none) (hl : s.heap.IsList l its.toArray) (hi : IntsAre its ns)
    (h : ∀ v h' tk, (∀ b o, s.heap.get? b = some o → h'.get? b = some o) → (ns = [] ∧ v = dv ∨ ∃ m t, v = .int m t ∧ m ∈ ns ∧ ∀ y ∈ ns, m ≤ y) → Q v { s with heap := h', toks := tk }) :
    wpAny (model prog w) A (call (.builtin "min") [.ref l] [("default", dv)]) Q E s := by
  have nm : (toString "min" ++ toString ".loop" : String) = "min.loop" := by decide
  have okA := args_min_def (.ref l) dv
  obtain ⟨xs, e⟩ := hi.allInts.items
  have hn : numsOf (intItems xs).toList = ns := by rw [← e]; exact hi.numsOf
  rw [nums_intItems] at hn
  subst hn
  rw [e] at hl
  have fin : ∀ v h' tk, (xs.size = 0 ∧ v = dv ∨ ∃ b, b < xs.size ∧ (intItems xs)[b]? = some v ∧ ∀ i, i < xs.size → numAt xs b ≤ numAt xs i) → (∀ b o, s.heap.get? b = some o → h'.get? b = some o) → Q v { s with heap := h', toks := tk } := by
    intro v h' tk hP hk
    refine h v h' tk hk ?_
    rcases hP with ⟨h0, rfl⟩ | ⟨b, hb, hv, le⟩
    · refine .inl ⟨?_, rfl⟩
      rw [Array.eq_empty_of_size_eq_zero h0]; rfl
    · obtain ⟨t, rfl⟩ := intItems_at hv
      refine .inr ⟨_, t, rfl, ?_, fun y hy => ?_⟩
      · rw [numAt_eq]; exact PySem.getD_mem (by rw [List.length_map, Array.length_toList]; omega)
      · obtain ⟨j, hj, rfl⟩ := mem_getD hy
        rw [List.length_map, Array.length_toList] at hj
        rw [← numAt_eq]; exact le j hj
  refine wpAny_call (codeAny_call_builtin F.plain_min F.entry_min ?_)
  have body : wpAny (model prog w) A.in1 (Builtin.«min» ⟨[.ref l], [("default", dv)]⟩) (fun f s' => match f with
      | .done f => (match (Except.ok f : Result) with | .ok (.ret v) => Q v s' | .ok _ => False | .error e => E e s')
      | .again c' => c'.quiet = true ∧ codeAny (model prog w) A c' (fun r s' => match r with | .ok (.ret v) => Q v s' | .ok _ => False | .error e => E e s') s') E s := by
    show wpAny _ A.in1 (Builtin.Builtins.bindParams "min" ["key", "default"] 0 ⟨[], [("default", dv)]⟩ >>= _) _ _ s
    refine wpAny_bind (wpAny_of_eq (show Builtin.Builtins.bindParams "min" ["key", "default"] 0 ⟨[], [("default", dv)]⟩ = pure [none, some dv] from rfl) ?_)
    refine wpAny_bind (wpAny_pure (wpAny_bind (iter_intList hl fun s2 e2 st fp lI => ?_)))
    subst e2
    refine wpAny_bind (wpAny_newObj_type ?_)
    rw [nm]
    have W : Walks prog w A.in1 s.heap.objs.size _ _ _ _ _ := Walks.list (A := A.in1) hh _ l lI (intItems xs)
    refine wpAny_pure ⟨plainId_quiet F.plain_min_loop _, least_loop W (numAt xs) (fun _ _ => intItems_at) _ (fun z => Nat.lt_irrefl _ (fp _ z)) dv _ 0 _ #[] _ rfl (Nat.zero_le _) (W.frame _ _ _ st fun b _ o e => Heap.get?_push_of_some _ e) (.inl ⟨rfl, rfl⟩) (Heap.get?_push_size _ rfl) fun v h' tk hP hk => ?_⟩
    refine fin v h' tk (by simpa [intItems] using hP) fun b o e => hk b o (fun z => ?_) (fun z => ?_) (Heap.get?_push_of_some _ (Heap.get?_push_of_some _ e))
    · rw [List.mem_singleton] at z
      exact Nat.lt_irrefl _ (z ▸ Heap.lt_size e)
    · subst z
      exact Nat.lt_irrefl _ (Nat.lt_trans (Heap.lt_size e) (by rw [Heap.size_push]; exact Nat.lt_succ_self _))
  simp only [checkBuiltinCall, F.kind_min]
  cases sg : Manifest.signature? "min" with
  | none => exact wpAny_pure body
  | some x =>
    simp only [argsOk, sg] at okA
    show wpAny _ A.in1 (Bind.checkArgs "min" x ⟨[.ref l], [("default", dv)]⟩) _ _ s
    rw [show Bind.checkArgs "min" x ⟨[.ref l], [("default", dv)]⟩ = pure () from okA]; exact wpAny_pure body
end
end My
set_option Elab.async false
set_option maxRecDepth 100000
set_option maxHeartbeats 1600000
namespace My
open PySem PySem.Spec PyProof.Rows L2
section
variable {X : Cx}
/-- min(xs, default=k) of whole numbers -/
def rMinDef (K : PySem.W.Frag) : List V → List V → Hp → VK → Prop := fun vs zs H Q => ∃ (a : Addr) (ns : List Int) (k : Int), vs = [V.ref a] ∧ zs = [V.int k] ∧ SqL K H a (ns.map V.int) ∧ (ns = [] → Q (.int k) H) ∧ ∀ m, m ∈ ns → (∀ y ∈ ns, m ≤ y) → Q (.int m) H
theorem cr_minDef (hc : X.calm = true) : CallRK X (.builtin "min") [Str.ofString "default"] (rMinDef X.K) := by
  intro pins s σ H vs zs us ws Q I r rz h
  obtain ⟨a, ns, k, rfl, rfl, hs, q0, q1⟩ := h
  obtain ⟨its, rv, hl, _⟩ := I.list hs
  obtain rfl := Vals.ref1 r
  obtain ⟨w1, rfl, t, rfl⟩ := vals1 rz
  refine min_def (I.ok.hd hc) hl.isList rv.ints fun v h' tk hk hP => ?_
  rcases hP with ⟨h0, rfl⟩ | ⟨m, t, rfl, hm, le⟩
  · exact ⟨.int k, H, I.kept hk, ⟨_, rfl⟩, q0 h0⟩
  · exact ⟨.int m, H, I.kept hk, ⟨_, rfl⟩, q1 m hm le⟩
theorem vals_at : ∀ {xs : List V} {us : List Value}, xs.length = us.length → (∀ (i : Nat) (x : V) (u : Value), xs[i]? = some x → us[i]? = some u → RelV x u) → Vals xs us
  | [], [], _, _ => .nil
  | x :: xs, u :: us, hl, h => .cons (h 0 x u rfl rfl) (vals_at (by simpa using hl) fun i y v hy hv => h (i + 1) y v (by simpa using hy) (by simpa using hv))
  | [], _ :: _, hl, _ => by simp at hl
  | _ :: _, [], hl, _ => by simp at hl
/-- list(o.values()) -/
def tListVals (td : TE) : TE := fun σ H Q => td σ H fun x H1 => ∃ a kvs, x = V.ref a ∧ H1 a = some (.dK kvs) ∧ ∀ l, H1 l = none → Q (.ref l) (upd H1 l (.lst (kvs.map (·.2))))
variable {o : Expr} {p pos apos mpos : Pos} {td : TE}
theorem pe_listVals (hc : X.calm = true) (hg : Gl X "list") (hm : X.mg "list" = none) (hd : PE X o td) (hbase : attributeBase o "values" X.env (eval o X.env) = eval o X.env := by rfl) (hline : (apos.endLine == mpos.line) = true := by rfl)
    (na : starEach [Expr.Call (.Attribute o "values" apos) [] [] mpos] X.env = (false, eval (Expr.Call (.Attribute o "values" apos) [] [] mpos) X.env) :: starEach [] X.env := by rfl) :
    PE X (.Call (.Name "list" p) [.Call (.Attribute o "values" apos) [] [] mpos] [] pos) (tListVals td) := by
  refine ⟨fun pins s σ H Q I h => ?_⟩
  refine Call_ (ld_blt I hg hm boot_list (PyProof.Rows.callWith_type1 (args_cons (wpAny_Call_method0_late hbase hline (thn (hd.run pins s σ H _ I h) fun v s1 ⟨x, H1, I1, r1, a, kvs, ex, ha, q⟩ => ?_)) na) na))
  subst ex
  obtain rfl : v = Value.ref a := r1
  obtain ⟨hz, sys, vs, rel, dof⟩ := dk_of I1.hok ha
  obtain ⟨ep, dat⟩ := dof.dictAt
  obtain ⟨ob, es, ho, ex, _⟩ := id dat
  refine ⟨"dict", "dict.values", F.plainAttrs_dict, F.slot_dict_values, F.type_dict_values, ⟨ob, ho, ex.1⟩, fun b e => by cases e; exact ⟨ob, ho, ex.2.1⟩, Calls.callWith_builtin rfl (PySem.evalArgs_none ?_)⟩
  refine call_meetsIn F.slot_dict_values ⟨ob, ho, ex.1⟩ F.entry_dict_values (F.args_dict_values_1 _) (meets_dict_values (mixKind X.prog X.w) a sys) ⟨⟨vs, dof⟩, args_nil ?_⟩
  have lv : vs.length = kvs.length := (KV.length rel).symm
  refine PySem.W.kdl_call (PySem.W.kdl_values (knd := mixKind X.prog X.w) (kvs := vs) (d := a) (r := s1.heap.objs.size) (ep := ep)) (I1.ok.hd hc) ⟨⟨_, Heap.get?_push_size _ rfl, rfl, rfl⟩, dat.keep fun b u e => Heap.get?_push_of_some _ e⟩ ?_ fun h' tk acc c hk hL hacc => ?_
  · rw [lv]; exact hz
  · have lt : s1.heap.objs.size ≤ (s1.heap.push { cls := .type "dict_values", data := .fields #[.ref a] }).objs.size := by rw [Heap.size_push]; exact Nat.le_succ _
    refine ⟨V.ref _, upd H1 _ (.lst (kvs.map (·.2))), I1.laid (t' := tk) (fun b u e => hk b u (Heap.get?_push_of_some _ e)) lt (show ObjOk X.prog X.w _ _ _ (.lst (kvs.map (·.2))) from ⟨?_, acc.toList, c, vals_at ?_ fun i y u hy hu => ?_, ?_⟩), rfl, q _ (I1.hok.fresh lt)⟩
    · rw [List.length_map]; exact hz
    · rw [List.length_map, Array.length_toList]; exact (hacc.1.trans lv).symm
    · rw [Array.getElem?_toList] at hu
      obtain ⟨k, hk2⟩ := hacc.2 i u hu
      obtain ⟨x, h1, h2⟩ := KV.at' rel hk2
      rw [List.getElem?_map, h1] at hy
      obtain rfl := Option.some.inj hy
      exact h2
    · rw [Array.toArray_toList]; exact hL
end
end My
set_option Elab.async false
set_option maxRecDepth 100000
set_option maxHeartbeats 800000
namespace My
open PySem L2 TL StX
/-! what the law's own look at a set of places says -/
def inL (l : List Nat) : Nat → Bool := fun i => decide (i ∈ l)
theorem perm_in {n : Nat} {l : List Nat} (nd : l.Nodup) (lt : ∀ i ∈ l, i < n) : l.Perm ((List.range n).filter (inL l)) := by
  refine (List.perm_ext_iff_of_nodup nd (List.Pairwise.filter _ List.nodup_range)).mpr fun a => ?_
  rw [List.mem_filter, List.mem_range]
  exact ⟨fun h => ⟨lt a h, decide_eq_true h⟩, fun h => of_decide_eq_true h.2⟩
theorem bal_in {fr : DI} {os : List O} {l : List Nat} (ok : ∀ o ∈ os, OkO o) (nd : l.Nodup) (lt : ∀ i ∈ l, i < os.length) (n : Str) : bal fr os (inL l) n = getI ((picks os l).foldl stepI fr) n := by
  rw [picks_get ok, perm_sum ((perm_in nd lt).map (flowAt os · n)), sum_filter]; rfl
/-- a name's own orders within are those of the one or of the other -/
theorem Stands.union {fr : DI} {os : List O} {S T : Nat → Bool} (ok : ∀ o ∈ os, OkO o) (hS : Stands fr os S) (hT : Stands fr os T) : Stands fr os fun i => S i || T i := by
  refine ⟨fun i k hi hk hl e => ?_, fun n => ?_⟩
  · have hi : (S i || T i) = true := hi
    rw [Bool.or_eq_true] at hi
    show (S k || T k) = true
    rw [Bool.or_eq_true]
    exact hi.imp (fun h => hS.cl i k h hk hl e) fun h => hT.cl i k h hk hl e
  · have key : ∀ {A B : Nat → Bool}, Stands fr os A → (∀ i, i < os.length → payer os i = some n → (A i || B i) = true → A i = true) → 0 ≤ bal fr os (fun i => A i || B i) n := by
      intro A B hA own
      have h0 := hA.nn n
      unfold bal at h0 ⊢
      have : sumP os A n ≤ sumP os (fun i => A i || B i) n := by
        refine sum_le fun i hi => ?_
        have hi := List.mem_range.mp hi
        obtain ⟨o, ho⟩ : ∃ o, os[i]? = some o := ⟨os[i], List.getElem?_eq_getElem hi⟩
        have hf : flowAt os i n = flow o n := by unfold flowAt; rw [ho]
        have hpy : payer os i = some o.py := by unfold payer; rw [ho]; rfl
        show (if A i = true then _ else _) ≤ (if (A i || B i) = true then _ else _)
        by_cases ex : o.py = n
        · have : (A i || B i) = A i := by
            cases ea : A i with
            | true => rfl
            | false => cases eb : B i with
              | false => rfl
              | true => have := own i hi (by rw [hpy, ex]) (by rw [ea, eb]; rfl); rw [ea] at this; cases this
          rw [this]; exact Int.le_refl _
        · have hge := flow_ge (ok o (List.mem_of_getElem? ho)) ex
          rw [hf]
          cases ea : A i with
          | true => simp
          | false =>
            rw [if_neg Bool.false_ne_true]
            split <;> omega
      omega
    by_cases c : ∀ i, i < os.length → payer os i = some n → T i = true → S i = true
    · exact key hS fun i hi hp h => by
        rcases (Bool.or_eq_true _ _).mp h with h | h
        · exact h
        · exact c i hi hp h
    · obtain ⟨m, hm⟩ := Classical.not_forall.mp c
      have hm1 : m < os.length := Classical.byContradiction fun z => hm fun a => absurd a z
      have hm2 : payer os m = some n := Classical.byContradiction fun z => hm fun _ a => absurd a z
      have hm3 : T m = true := Classical.byContradiction fun z => hm fun _ _ a => absurd a z
      have hm4 : S m = false := by
        cases e : S m with
        | false => rfl
        | true => exact absurd (fun _ _ _ => e) hm
      have := key (A := T) (B := S) hT fun i hi hp h => by
        rcases (Bool.or_eq_true _ _).mp h with h | h
        · exact h
        · by_cases lt : i < m
          · exact hT.cl m i hm3 lt hm1 (hp.trans hm2.symm)
          · by_cases eq : i = m
            · rw [eq]; exact hm3
            · have := hS.cl i m h (by omega) hi (hm2.trans hp.symm)
              rw [hm4] at this; cases this
      have ec : (fun i => S i || T i) = fun i => T i || S i := funext fun i => Bool.or_comm _ _
      rw [ec]; exact this
theorem Stands.none {fr : DI} {os : List O} (F : OkF fr) : Stands fr os fun _ => false := by
  refine ⟨fun _ _ h => absurd h Bool.false_ne_true, fun n => ?_⟩
  have z : sumP os (fun _ => false) n = 0 := by
    unfold sumP
    generalize List.range os.length = l
    induction l with
    | nil => rfl
    | cons a r ih => rw [List.map_cons, List.sum_cons, ih]; rfl
  unfold bal
  rw [z]
  have := F.get n
  omega
end My
set_option Elab.async false
set_option maxRecDepth 100000
set_option maxHeartbeats 800000
namespace My
open PySem L2 TL StX
/-! the greatest set of another list of the same orders -/
theorem sum_image {n : Nat} {l : List Nat} {h : Nat → Int} (nd : l.Nodup) (lt : ∀ i ∈ l, i < n) (z : ∀ i, i < n → i ∉ l → h i = 0) : (l.map h).sum = ((List.range n).map h).sum := by
  rw [perm_sum ((perm_in nd lt).map h), sum_filter]
  refine congrArg List.sum (List.map_congr_left fun i hi => ?_)
  show (if inL l i = true then h i else 0) = h i
  by_cases e : i ∈ l
  · rw [show inL l i = true from decide_eq_true e, if_pos rfl]
  · rw [show inL l i = false from decide_eq_false e, if_neg Bool.false_ne_true, z i (List.mem_range.mp hi) e]
/-- os' holds os' orders in another order (or some of them): the place j of os' is the place f j of os -/
structure Pull (os os' : List O) (f : Nat → Nat) : Prop where
  lt : ∀ j, j < os'.length → f j < os.length
  inj : ∀ j k, j < os'.length → k < os'.length → f j = f k → j = k
  at_ : ∀ j, j < os'.length → os'[j]? = os[f j]?
  ord : ∀ j k, j < k → k < os'.length → payer os' j = payer os' k → f j < f k
theorem Pull.py {os os' : List O} {f : Nat → Nat} (p : Pull os os' f) {j : Nat} (h : j < os'.length) : payer os' j = payer os (f j) := by
  unfold payer; rw [p.at_ j h]
theorem Pull.img_nd {os os' : List O} {f : Nat → Nat} (p : Pull os os' f) : ((List.range os'.length).map f).Nodup := by
  exact List.pairwise_map.mpr (List.pairwise_lt_range.imp_of_mem fun ha hb hab e => absurd (p.inj _ _ (List.mem_range.mp ha) (List.mem_range.mp hb) e) (Nat.ne_of_lt hab))
theorem Pull.sum {os os' : List O} {f : Nat → Nat} (p : Pull os os' f) {A A' : Nat → Bool} (h1 : ∀ j, j < os'.length → A' j = A (f j)) (h2 : ∀ i, i < os.length → (∀ j, j < os'.length → f j ≠ i) → A i = false) (x : Str) : sumP os' A' x = sumP os A x := by
  unfold sumP
  have e1 : (List.range os'.length).map (fun i => if A' i = true then flowAt os' i x else 0) = ((List.range os'.length).map f).map fun i => if A i = true then flowAt os i x else 0 := by
    rw [List.map_map]
    refine List.map_congr_left fun j hj => ?_
    have hj := List.mem_range.mp hj
    show (if A' j = true then flowAt os' j x else 0) = if A (f j) = true then flowAt os (f j) x else 0
    have : flowAt os' j x = flowAt os (f j) x := by unfold flowAt; rw [p.at_ j hj]
    rw [h1 j hj, this]
  rw [e1]
  refine sum_image p.img_nd (fun i hi => ?_) fun i hi hn => ?_
  · obtain ⟨j, hj, rfl⟩ := List.mem_map.mp hi
    exact p.lt j (List.mem_range.mp hj)
  · rw [h2 i hi fun j hj e => hn (List.mem_map.mpr ⟨j, List.mem_range.mpr hj, e⟩)]
    exact if_neg Bool.false_ne_true
theorem Great.pull {fr : DI} {os os' : List O} {P : Nat → Bool} {f : Nat → Nat} (p : Pull os os' f) (out : ∀ i, i < os.length → (∀ j, j < os'.length → f j ≠ i) → P i = false ∧ ∀ k, i < k → k < os.length → payer os k ≠ payer os i) (g : Great fr os P) :
    Great fr os' fun j => P (f j) := by
  refine ⟨⟨fun i k hi hk hl e => ?_, fun n => ?_⟩, fun S' hS j hj e => ?_⟩
  · have hkl : k < os'.length := Nat.lt_trans hk hl
    exact g.st.cl (f i) (f k) hi (p.ord k i hk hl e) (p.lt i hl) (by rw [← p.py hkl, ← p.py hl]; exact e)
  · have := g.st.nn n
    unfold bal at this ⊢
    rw [p.sum (A := P) (fun _ _ => rfl) fun i hi h => (out i hi h).1]
    exact this
  · let S : Nat → Bool := fun i => (List.range os'.length).any fun j => decide (f j = i) && S' j
    have hSf : ∀ j, j < os'.length → S' j = S (f j) := fun j hj => by
      cases e : S' j with
      | true => exact (List.any_eq_true.mpr ⟨j, List.mem_range.mpr hj, by simp [e]⟩).symm
      | false =>
        cases e2 : S (f j) with
        | false => rfl
        | true =>
          obtain ⟨k, hk, h⟩ := List.any_eq_true.mp e2
          rw [Bool.and_eq_true] at h
          have := p.inj k j (List.mem_range.mp hk) hj (of_decide_eq_true h.1)
          subst this
          rw [e] at h; exact absurd h.2 Bool.false_ne_true
    have hS0 : ∀ i, i < os.length → (∀ j, j < os'.length → f j ≠ i) → S i = false := fun i _ h => by
      cases e2 : S i with
      | false => rfl
      | true =>
        obtain ⟨k, hk, h2⟩ := List.any_eq_true.mp e2
        rw [Bool.and_eq_true] at h2
        exact absurd (of_decide_eq_true h2.1) (h k (List.mem_range.mp hk))
    have st : Stands fr os S := by
      refine ⟨fun i k hi hk hl e => ?_, fun n => ?_⟩
      · obtain ⟨j, hj, h⟩ := List.any_eq_true.mp hi
        rw [Bool.and_eq_true] at h
        have hj := List.mem_range.mp hj
        obtain rfl := of_decide_eq_true h.1
        by_cases ex : ∃ k', k' < os'.length ∧ f k' = k
        · obtain ⟨k', hk', rfl⟩ := ex
          rw [← hSf k' hk']
          have ep : payer os' k' = payer os' j := by rw [p.py hk', p.py hj]; exact e
          refine hS.cl j k' h.2 ?_ hj ep
          rcases Nat.lt_trichotomy k' j with c | c | c
          · exact c
          · subst c; omega
          · have := p.ord j k' c hk' ep.symm; omega
        · have hkl : k < os.length := Nat.lt_trans hk hl
          exact absurd e.symm ((out k hkl fun j hj e => ex ⟨j, hj, e⟩).2 (f j) hk hl)
      · have := hS.nn n
        unfold bal at this ⊢
        rw [p.sum (A := S) hSf hS0] at this
        exact this
    exact g.ov S st (f j) (p.lt j hj) (by rw [← hSf j hj]; exact e)
/-- who has more free settles no less -/
theorem Great.more {fr fr' : DI} {os : List O} {P P' : Nat → Bool} (le : ∀ n, getI fr n ≤ getI fr' n) (g : Great fr os P) (g' : Great fr' os P') : ∀ i, i < os.length → P i = true → P' i = true :=
  g'.ov P ⟨g.st.cl, fun n => by have := g.st.nn n; have := le n; unfold bal at *; omega⟩
end My
set_option Elab.async false
set_option maxRecDepth 100000
set_option maxHeartbeats 1600000
namespace My
open PySem PySem.Spec PyProof.Rows L2
section
variable {X : Cx}
theorem refs_vals : ∀ {xs : List Addr} {us : List Value}, Vals (xs.map V.ref) us → us = xs.map Value.ref
  | [], _, h => by cases h; rfl
  | x :: r, _, h => by
    cases h with
    | cons h1 h2 =>
      rw [refs_vals h2]
      obtain rfl := (show _ = Value.ref x from h1)
      rfl
theorem merged_new {κ : Type} [DecidableEq κ] : ∀ (more acc : List (κ × Value)), ((acc ++ more).map (·.1)).Nodup → PySem.merged acc more = acc ++ more
  | [], acc, _ => by rw [List.append_nil]; rfl
  | p :: r, acc, nd => by
    have hn : (acc.any fun kv => decide (kv.1 = p.1)) = false := by
      rw [List.any_eq_false]
      intro q hq z
      rw [List.map_append, List.map_cons] at nd
      exact (List.nodup_append.mp nd).2.2 q.1 (List.mem_map.mpr ⟨q, hq, rfl⟩) p.1 (by simp) (of_decide_eq_true z)
    have e : PySem.stored acc p.1 p.2 = acc ++ [p] := by
      unfold PySem.stored
      rw [hn, if_neg Bool.false_ne_true]
    show PySem.merged (PySem.stored acc p.1 p.2) r = _
    rw [e, merged_new r (acc ++ [p]) (by rw [List.append_assoc]; exact nd), List.append_assoc]; rfl
/-- dict(xs), xs a list of pairs with unlike keys -/
def rDictP : List V → Hp → VK → Prop := fun xs H Q => ∃ (l : Addr) (rs : List Addr) (kvs : List (Key × V)), xs = [.ref l] ∧ H l = some (.lst (rs.map V.ref)) ∧ Paired (fun r (kv : Key × V) => H r = some (.tup [kV kv.1, kv.2])) rs kvs ∧ (kvs.map (·.1)).Nodup ∧
  ∀ p, H p = none → Q (.ref p) (upd H p (.dK kvs))
theorem pair_vals {pins : List (Addr × Obj)} {σ : L2.St} {H : Hp} {s : Shared} (I : Inv X pins σ H s) : ∀ {rs : List Addr} {kvs : List (Key × V)}, Paired (fun r (kv : Key × V) => H r = some (.tup [kV kv.1, kv.2])) rs kvs →
    ∃ ps : List (Value × Value), Paired (fun r (p : Value × Value) => s.heap.IsTuple r #[p.1, p.2]) rs ps ∧ Paired (fun (kv : Key × V) (p : Value × Value) => RelV (kV kv.1) p.1 ∧ RelV kv.2 p.2) kvs ps
  | _, _, .nil => ⟨[], .nil, .nil⟩
  | _, _, .cons h t => by
    obtain ⟨ps, h1, h2⟩ := pair_vals I t
    obtain ⟨its, rv, pT, _⟩ := I.tuple (SqT.of h)
    obtain ⟨u1, u2, rfl, e1, e2⟩ := vals2 rv
    exact ⟨(u1, u2) :: ps, .cons pT h1, .cons ⟨e1, e2⟩ h2⟩
theorem paired_at {α β : Type} {F : α → β → Prop} : ∀ {xs : List α} {ys : List β}, Paired F xs ys → ∀ (i : Nat) (x : α) (y : β), xs[i]? = some x → ys[i]? = some y → F x y
  | _, _, .nil => fun _ _ _ h => by simp at h
  | _, _, .cons h t => fun i x y hx hy => by
    cases i with
    | zero => simp at hx hy; subst hx hy; exact h
    | succ i => exact paired_at t i x y (by simpa using hx) (by simpa using hy)
theorem call_dictP (hc : X.calm = true) : CallR X (.type "dict") rDictP := by
  intro pins s σ H xs us Q I r h
  obtain ⟨l, rs, kvs, rfl, hl, hp, nd, q⟩ := h
  rw [Vals.ref1 r]
  obtain ⟨hz, its, n, rv, h1⟩ := (show ObjOk X.prog X.w H s.heap l (.lst (rs.map V.ref)) from I.hok l _ hl)
  obtain rfl := refs_vals rv
  obtain ⟨ps, p1, p2⟩ := pair_vals I hp
  have l1 := p1.length
  have l2 := p2.length
  let vs : List (Key × Value) := (kvs.zip ps).map fun z => (z.1.1, z.2.2)
  have lvs : vs.length = ps.length := by show ((kvs.zip ps).map _).length = _; rw [List.length_map, List.length_zip]; omega
  have vat : ∀ i (p : Value × Value), ps[i]? = some p → ∃ kv : Key × V, kvs[i]? = some kv ∧ vs[i]? = some (kv.1, p.2) := fun i p hpi => by
    have hi : i < kvs.length := by have := (List.getElem?_eq_some_iff.mp hpi).1; omega
    refine ⟨kvs[i], List.getElem?_eq_getElem hi, ?_⟩
    show ((kvs.zip ps).map _)[i]? = _
    have hzp : (kvs.zip ps)[i]? = some (kvs[i], p) := List.getElem?_zip_eq_some.mpr ⟨List.getElem?_eq_getElem hi, hpi⟩
    rw [List.getElem?_map, hzp]; rfl
  have kvr : KV kvs vs := by
    show Paired _ kvs ((kvs.zip ps).map fun z => (z.1.1, z.2.2))
    clear vat lvs l1 l2 p1 hp nd q
    induction p2 with
    | nil => exact .nil
    | cons h _ ih => exact .cons ⟨rfl, h.2⟩ ih
  have nds : (vs.map (·.1)).Nodup := by rw [show vs.map (·.1) = kvs.map (·.1) from (kvr.keys).symm]; exact nd
  have lr : (rs.map Value.ref).length = ps.length := by rw [List.length_map]; exact l1
  refine PySem.call_dict_pairs (knd := mixKind X.prog X.w) (kvs := vs) (PySem.PairArg.list l (rs.map Value.ref).toArray (fun j => rs.getD j 0) ps) (I.ok.hd hc) ⟨⟨_, n, h1, rfl, rfl, rfl⟩, ?_, fun j k v hj => ?_⟩ ⟨lvs, fun i key v hr => ?_⟩ ?_ fun h' tk hd hk => ?_
  · rw [List.size_toArray]; exact lr
  · have hjr : j < rs.length := by have := (List.getElem?_eq_some_iff.mp hj).1; omega
    have e1 : rs[j]? = some rs[j] := List.getElem?_eq_getElem hjr
    have e2 : rs.getD j 0 = rs[j] := by rw [List.getD_eq_getElem?_getD, e1]; rfl
    refine ⟨?_, .inl ?_⟩
    · show (rs.map Value.ref).toArray[j]? = some (Value.ref (rs.getD j 0))
      rw [List.getElem?_toArray, List.getElem?_map, e1, e2]; rfl
    · show s.heap.IsTuple (rs.getD j 0) #[k, v]
      rw [e2]; exact paired_at p1 j _ _ e1 hj
  · obtain ⟨kv, h3, h4⟩ := vat i _ hr
    exact ⟨kv.1, h4, kV_is (paired_at p2 i _ _ h3 hr).1⟩
  · rw [← lr, List.length_map]; rw [List.length_map] at hz; exact hz
  · rw [merged_new vs [] (by rw [List.nil_append]; exact nds), List.nil_append] at hd
    have hm : (s.heap.objs.size == sysModules) = false := beq_eq_false_iff_ne.mpr (Nat.ne_of_gt I.big)
    have hzk : kvs.length ≤ sizeLine := by rw [List.length_map] at hz; omega
    exact ⟨.ref s.heap.objs.size, upd H s.heap.objs.size (.dK kvs), I.laid (t' := tk) (fun b u e => hk b u (fun z => nomatch z) e) (Nat.le_refl _) (show ObjOk X.prog X.w _ _ _ (.dK kvs) from ⟨hzk, hm, vs, kvr, hd⟩), rfl, q _ (I.hok.fresh (Nat.le_refl _))⟩
end
end My
set_option Elab.async false
set_option maxRecDepth 100000
namespace My
open PySem PySem.Spec PyProof.Rows PySem.Froz L2
/-! sets of texts: set(list of texts), sorted(such a set) -/
section
variable {P : Program} {w : World} {A : Around} {E : Value → Shared → Prop} {s : Shared}
/-- l are the texts at a, each once; its table rises -/
structure TsAt (P : Program) (w : World) (h : Heap) (a : Addr) (l : List Str) (D : SD) : Prop where
  at_ : h.get? a = some (sObj "set" D)
  ok : TxOk P w D l
  ris : Ris D.2.2.place.toList
  led : w.params.followText "set-order" = true ∨ D.2.2.led = true
  nd : l.Nodup
def TsO (P : Program) (w : World) (h : Heap) (a : Addr) (l : List Str) : Prop := ∃ D, TsAt P w h a l D
theorem TsO.keep {h h' : Heap} {a : Addr} {l : List Str} (t : TsO P w h a l) (k : ∀ o, h.get? a = some o → h'.get? a = some o) : TsO P w h' a l := by
  obtain ⟨D, t⟩ := t
  exact ⟨D, k _ t.at_, t.ok, t.ris, t.led, t.nd⟩
theorem ris_tail {ep : Nat} {es1 : Array (Int × Value)} {t2 : SetTable} {b : Bool} (r : Ris t2.place.toList) : Ris (tailTx ep es1 t2 b).2.2.place.toList := by
  unfold tailTx
  split
  · exact relayAll_ris ..
  · exact r
theorem led_tail {ep : Nat} {es1 : Array (Int × Value)} {t2 : SetTable} {b : Bool} {F : Prop} (r : F ∨ t2.led = true) : F ∨ (tailTx ep es1 t2 b).2.2.led = true := by
  unfold tailTx
  split
  · exact r.imp id fun z => by rw [relayAll_led]; exact z
  · exact r
theorem off_place (t : SetTable) : (if t.plain = true then { t with plain := false } else t).place = t.place := by split <;> rfl
theorem off_led (t : SetTable) : (if t.plain = true then { t with plain := false } else t).led = t.led := by split <;> rfl
theorem ris_add {h : Int} {v : Value} {D : SD} (r : Ris D.2.2.place.toList) : Ris (addTx h v D).2.2.place.toList := by
  unfold addTx
  refine ris_tail ?_
  rw [off_place]
  exact layNew_ris _ _ _ _ r
theorem led_add {h : Int} {v : Value} {D : SD} {F : Prop} (r : F ∨ D.2.2.led = true) : F ∨ (addTx h v D).2.2.led = true := by
  unfold addTx
  refine led_tail ?_
  rw [off_led, layNew_led]
  exact r
theorem strs_at' : ∀ {us : List Value} {xs : List Str}, StrsAre us xs → ∀ (j : Nat) (v : Value), us[j]? = some v → ∃ u, xs[j]? = some (strOf v) ∧ v = .str (strOf v) u
  | _, _, .nil, j, v, e => by simp at e
  | _, _, .cons x t r, 0, v, e => by simp at e; subst e; exact ⟨t, rfl, rfl⟩
  | _, _, .cons x t r, j + 1, v, e => by
    rw [List.getElem?_cons_succ] at e
    obtain ⟨u, a, b⟩ := strs_at' r j v e
    exact ⟨u, by rw [List.getElem?_cons_succ]; exact a, b⟩
/-- a text that is there stays the one -/
theorem there_x {a : Addr} {D : SD} {l : List Str} {k : Str} {u : Tok} {Q : Bool → Shared → Prop} (t : TsAt P w s.heap a l D) (hk : k ∈ l) (few : l.length < scanBound) (q : Q false s) :
    wpAny (model P w) A (setAddHashed a (.str k u) (hashStr w k)) Q E s := by
  obtain ⟨o, F, _, _, _⟩ := t
  obtain ⟨es, ep, tb⟩ := D
  have z1 : es.size = l.length := F.sz
  have z2 : es.size < scanBound := z1 ▸ few
  have z3 : ElemsOf (strKind P w) es.toList := F.el
  have z4 : tb.fits es.size = true := F.fit
  have z5 : (sObj "set" (es, ep, tb)).data = .set es ep tb := rfl
  unfold setAddHashed setAddHashedIn
  refine wpAny_holding (wpAny_bind (wpAny_setState_of o z5 z4 ?_))
  dsimp only
  rw [byScan_of (x := Value.str k u) rfl z2 z3]
  simp only [↓reduceIte]
  unfold setAddByScan
  refine wpAny_bind (wpAny_bind (wpAny_rule (wpAny_bind (wpAny_setScan_of (knd := strKind P w) (k := k) (is_str k u) o z5 z4 z3 ?_))))
  cases c : List.findIdx? (fun e => (strKind P w).is k e.2) es.toList with
  | some j => exact wpAny_pure (wpAny_pure q)
  | none =>
    obtain ⟨e, he, hp⟩ := (F.mem k).mp hk
    have := List.findIdx?_eq_none_iff.mp c e he
    rw [hp] at this; cases this
/-- a text more, or one that is there -/
theorem add_t {a : Addr} {l : List Str} {k : Str} {u : Tok} {Q : Bool → Shared → Prop} (t : TsO P w s.heap a l) (few : l.length + 1 < scanBound)
    (q : ∀ b h', (∀ c, c ≠ a → h'.get? c = s.heap.get? c) → TsO P w h' a (if k ∈ l then l else k :: l) → Q b { s with heap := h' }) :
    wpAny (model P w) A (setAddHashed a (.str k u) (hashStr w k)) Q E s := by
  obtain ⟨D, t⟩ := t
  by_cases c : k ∈ l
  · refine there_x t c (by omega) ?_
    have := q false s.heap (fun _ _ => rfl) (by rw [if_pos c]; exact ⟨D, t⟩)
    exact this
  · refine add_x t.at_ t.ok c few ?_
    refine q true _ (fun b hb => Heap.get?_update_other _ _ (Ne.symm hb)) ?_
    rw [if_neg c]
    exact ⟨_, get_upd _ t.at_ rfl, add_ok u t.ok, ris_add t.ris, led_add t.led, List.nodup_cons.mpr ⟨c, t.nd⟩⟩
/-- the texts that come of a row of texts -/
def uniq : List Str → List Str → List Str
  | l, [] => l
  | l, k :: r => uniq (if k ∈ l then l else k :: l) r
theorem mem_uniq {x : Str} : ∀ {r l : List Str}, x ∈ uniq l r ↔ x ∈ l ∨ x ∈ r
  | [], l => by simp [uniq]
  | k :: r, l => by
    unfold uniq
    rw [mem_uniq (r := r), List.mem_cons]
    by_cases c : k ∈ l
    · rw [if_pos c]
      exact ⟨fun h => h.imp id .inr, fun h => h.elim .inl fun h => h.elim (fun e => .inl (e ▸ c)) .inr⟩
    · rw [if_neg c, List.mem_cons]
      exact ⟨fun h => h.elim (fun h => h.elim (fun e => .inr (.inl e)) .inl) fun h => .inr (.inr h), fun h => h.elim (fun h => .inl (.inr h)) fun h => h.elim (fun e => .inl (.inl e)) .inr⟩
theorem len_uniq : ∀ {r l : List Str}, (uniq l r).length ≤ l.length + r.length
  | [], l => by simp [uniq]
  | k :: r, l => by
    unfold uniq
    have := len_uniq (r := r) (l := if k ∈ l then l else k :: l)
    rw [List.length_cons]
    split at this
    · rename_i h; rw [if_pos h]; omega
    · rename_i h; rw [if_neg h]; rw [List.length_cons] at this; omega
theorem update_t {I : Addr} {fp wr : List Addr} {G : Array GenState → Array GenState → Prop} {n : Nat} {Pv : Nat → Value → Prop} {St : Nat → Shared → Prop} {R : Result → Shared → Prop}
    (W : WalksS P w A.in1 I fp wr G n Pv St) (a : Addr) (out : a ∉ fp) : ∀ (rest : List Str) (i : Nat) (l : List Str) (s : Shared), i + rest.length = n → l.length + rest.length < 1001 →
      (∀ j v, i ≤ j → Pv j v → ∃ x t, rest[j - i]? = some x ∧ v = .str x t) → St i s → TsO P w s.heap a l →
      (∀ s', Moved (a :: wr) G s s' → TsO P w s'.heap a (uniq l rest) → R (.ok (.ret .none)) s') → codeAny (model P w) A (.builtin "set.update.loop" ⟨[.ref a, .ref I], []⟩) R s := by
  have nw : a ∉ wr := fun z => out (W.sub _ z)
  have inn : ∀ b ∈ wr, b ∈ a :: wr := fun b z => List.mem_cons_of_mem _ z
  intro rest
  induction rest with
  | nil =>
    intro i l s hn few hv st ts fin
    obtain rfl : i = n := by simpa using hn
    refine codeAny_builtin PyProof.Rows.F.entry_set_update_loop ?_; rw [Around.under_plainId PyProof.Rows.F.plain_set_update_loop _]
    refine (wpAny_bind (W.done s _ _ st fun s' mv => ?_) : wpAny _ A.in1 (pyNext (.ref I) >>= _) _ _ s)
    show wpAny _ A.in1 (ret .none) _ _ s'
    exact wpAny_pure (fin s' (mv.mono inn) (ts.keep fun o e => mv.heap a o nw e))
  | cons x rest ih =>
    intro i l s hn few hv st ts fin
    rw [List.length_cons] at hn few
    refine codeAny_builtin PyProof.Rows.F.entry_set_update_loop ?_; rw [Around.under_plainId PyProof.Rows.F.plain_set_update_loop _]
    refine (wpAny_bind (W.item i s _ _ (by omega) st fun v s' pv st' mv => ?_) : wpAny _ A.in1 (pyNext (.ref I) >>= _) _ _ s)
    obtain ⟨y, t, hy, rfl⟩ := hv i v (Nat.le_refl _) pv
    rw [Nat.sub_self] at hy
    obtain rfl : x = y := Option.some.inj hy
    refine (wpAny_bind (wpAny_holding ?_) : wpAny _ A.in1 (holding [Value.str x t] (setAdd a (.str x t)) >>= _) _ _ s')
    unfold setAdd
    refine wpAny_holding (wpAny_bind ((PySem.strKind P w).pyHash (k := x) (strKind_is _ _ _ _) ?_))
    refine add_t (s := { s' with toks := s'.toks + 1 }) (ts.keep fun o e => mv.heap a o nw e) (by unfold scanBound; omega) fun b h' same ts2 => ?_
    refine wpAny_pure ⟨plainId_quiet PyProof.Rows.F.plain_set_update_loop _, ih (i + 1) _ _ (by omega) (by split <;> (first | (rw [List.length_cons]; omega) | omega)) (fun j v hj pj => ?_) (W.frame _ s' _ _ st' (Nat.le_succ _) fun b hb o e => ?_) ts2 fun s2 mv2 ts3 => ?_⟩
    · obtain ⟨z, t', hz, rfl⟩ := hv j v (by omega) pj
      refine ⟨z, t', ?_, rfl⟩
      rw [show j - i = (j - (i + 1)) + 1 by omega, List.getElem?_cons_succ] at hz
      exact hz
    · rw [same b fun z => out (z ▸ hb)]; exact e
    · refine fin s2 (Moved.trans W.gtrans ((mv.mono inn).then_heap (Nat.le_succ _) fun b o hb e => ?_) mv2) ts3
      rw [same b fun z => hb (z ▸ List.mem_cons_self)]; exact e
/-- what set(..) of texts has made -/
def MadeT (P : Program) (w : World) (l : List Str) (s s2 : Shared) : Prop := ∃ h' tk, s2 = { s with heap := h', toks := tk } ∧ TsO P w h' s.heap.objs.size l ∧ ∀ b o, s.heap.get? b = some o → h'.get? b = some o
abbrev freshSet (w : World) : Obj := { cls := .type "set", dict := none, data := .set #[] 0 (.fresh 0 0 (!w.params.followText "set-order")) }
theorem fresh_ts {h : Heap} {a : Addr} (e : h.get? a = some (freshSet w)) : TsO P w h a [] := by
  refine ⟨(#[], 0, .fresh 0 0 (!w.params.followText "set-order")), e, TxOk.nil (by rfl), List.Pairwise.nil, ?_, List.nodup_nil⟩
  show _ ∨ (!w.params.followText "set-order") = true
  cases w.params.followText "set-order" <;> simp
set_option maxHeartbeats 3200000 in
theorem set_of_texts {l : Addr} {its : Array Value} (xs : List Str) {Q : Value → Shared → Prop} (nh : A.handled = none) (li : s.heap.IsList l its) (ia : StrsAre its.toList xs) (few : xs.length < 1001)
    (fin : ∀ s2, MadeT P w (uniq [] xs) s s2 → Q (.ref s.heap.objs.size) s2) : wpAny (model P w) A (call (.type "set") [.ref l]) Q E s := by
  have sz : its.size = xs.length := (Array.length_toList (xs := its)).symm.trans ia.length
  have C := PySem.F.called_set
  obtain ⟨_, _, _⟩ := C.mro
  have m1 := C.made; have m2 := C.sub; have m3 := C.notType; have m4 := C.canCreate; have m5 := F.typeCall_set_1 (.ref l)
  refine wpAny_call (codeAny_of_tree ?_)
  show wpAny _ _ (callAny (.type "set") _) _ _ _
  refine wpAny_pure ⟨Code.quiet_builtin _ (by decide +kernel), codeAny_builtin PySem.F.entry_type_call ?_⟩
  rw [Around.under_plain (weight_type_call_type "set" [.ref l] []) rfl]
  repeat (any_goals (first | assumption | wp_step))
  refine codeAny_mono (code_set_led1 (.ref l) (E := E) (Q₁ := fun z t => z = .ref s.heap.objs.size ∧ t = { s with heap := s.heap.push (freshSet w) }) ⟨rfl, rfl⟩) fun r t hr => ?_
  rcases r with e | (_ | _ | z | _)
  all_goals first | exact hr | exact hr.elim | skip
  obtain ⟨rfl, rfl⟩ := hr
  have g0 : (s.heap.push (freshSet w)).get? s.heap.objs.size = some (freshSet w) := Heap.get?_push_size _ rfl
  have g1 : Shared.TypeIs { s with heap := s.heap.push (freshSet w) } (.ref s.heap.objs.size) "set" := ⟨_, g0, rfl⟩
  have i1 := C.init.lookup; have i2 := C.init.bind (.ref s.heap.objs.size)
  repeat (any_goals (first | assumption | wp_step))
  refine codeAny_mono (codeAny_call_builtin (R := wants (fun r t => r = .none ∧ MadeT P w (uniq [] xs) s t) E) C.init.plain PySem.F.entry_set_init (check_set_init_1 g1 ?_)) fun r t hr => ?_
  · obtain ⟨ob, g2, gc, k, gd⟩ := li
    obtain ⟨_, od, _, os⟩ := ob
    simp only at gc gd
    subst gc; subst gd
    have g3 := Heap.get?_push_of_some (freshSet w) g2
    have d1 := PySem.F.sub_list_set; have d2 := PySem.F.sub_list_frozenset
    have d3 : (Value.type "list" == Value.type "dict") = false := by decide
    have g4 : (s.heap.push (freshSet w)).IsList l its := ⟨_, g3, rfl, k, rfl⟩
    unfold Builtin.«set.__init__» noKeywords Builtin.Frozenset.updateFrom
    generalize hI : pyIter = IT
    wp_walk
    subst hI
    refine wpAny_pyIter_list g4 (wpAny_bind (wpAny_runValue ?_))
    have lt : l < s.heap.objs.size := Heap.lt_size g2
    have n1 : (s.heap.push (freshSet w)).objs.size = s.heap.objs.size + 1 := Heap.size_push ..
    have n2 : l ≠ (s.heap.push (freshSet w)).objs.size := by rw [n1]; exact Nat.ne_of_lt (Nat.lt_succ_of_lt lt)
    have n3 : s.heap.objs.size ∉ [(s.heap.push (freshSet w)).objs.size, l] := by
      rw [n1]; simp only [List.mem_cons, List.not_mem_nil, or_false, not_or]; exact ⟨Nat.ne_of_lt (Nat.lt_succ_self _), Nat.ne_of_gt lt⟩
    have nh3 : A.in1.in1.in1.handled = none := by simp [nh]
    refine update_t (Walks.list nh3 _ l n2 its).toS s.heap.objs.size n3 xs 0 [] _ (by rw [Nat.zero_add]; exact sz.symm) (by simpa using few) (fun j v _ hv => ?_) ⟨⟨_, Heap.get?_push_size _ rfl, rfl, rfl⟩, g4.push _⟩ (fresh_ts (Heap.get?_push_of_some _ g0)) ?_
    · have hv : its[j]? = some v := hv
      have hj : j < its.size := (Array.getElem?_eq_some_iff.mp hv).1
      obtain ⟨u, e⟩ := strs_at' ia j v (by rw [Array.getElem?_toList]; exact hv)
      exact ⟨_, u, by rw [Nat.sub_zero]; exact e.1, e.2⟩
    rintro ⟨h2, q2, r2, tk2, o2⟩ mv R
    obtain rfl : q2 = s.gens := mv.gens
    obtain rfl : r2 = s.drawn := mv.drawn
    obtain rfl : o2 = s.os := mv.os
    show wpAny _ _ _ _ _ _
    refine wpAny_pure ?_
    show wpAny _ _ (ret .none) _ _ _
    refine wpAny_pure ⟨rfl, h2, tk2, rfl, R, fun b o e => ?_⟩
    have lb : b < s.heap.objs.size := Heap.lt_size e
    refine mv.heap b o ?_ (Heap.get?_push_of_some _ (Heap.get?_push_of_some _ e))
    rw [n1]; simp only [List.mem_cons, List.not_mem_nil, or_false, not_or]; exact ⟨Nat.ne_of_lt lb, Nat.ne_of_lt (Nat.lt_succ_of_lt lb)⟩
  · rcases r with e | (_ | _ | z | _)
    all_goals first | exact hr | exact hr.elim | skip
    obtain ⟨rfl, M⟩ := hr
    repeat (any_goals (first | assumption | wp_step))
    exact fin _ M
end
end My
set_option Elab.async false
set_option maxRecDepth 100000
set_option maxHeartbeats 1600000
namespace My
open PySem PySem.Spec PyProof.Rows PySem.Froz L2
section
theorem perm_sub {α : Type} [DecidableEq α] : ∀ {l m : List α}, l.Nodup → (∀ x ∈ l, x ∈ m) → m.length = l.length → m.Perm l
  | [], m, _, _, e => by cases m with
    | nil => exact .nil
    | cons a r => simp at e
  | k :: l, m, nd, sub, e => by
    rw [List.nodup_cons] at nd
    have km := sub k (by simp)
    have p := List.perm_cons_erase km
    refine p.trans ((perm_sub nd.2 (fun x hx => ?_) ?_).cons k)
    · have hne : x ≠ k := fun z => nd.1 (z ▸ hx)
      exact (List.mem_erase_of_ne hne).mpr (sub x (List.mem_cons_of_mem _ hx))
    · have := p.length_eq
      rw [List.length_cons] at this e
      omega
variable {P : Program} {w : World} {A : Around} {E : Value → Shared → Prop} {s : Shared}
theorem isStr_eq {k : Str} {v : Value} (h : (PySem.strKind P w).is k v = true) : ∃ t, v = .str k t := by
  have h : Value.isStrOf k v = true := h
  cases v <;> simp [Value.isStrOf] at h
  subst h; exact ⟨_, rfl⟩
theorem texts_in {D : SD} {l : List Str} (F : TxOk P w D l) (nd : l.Nodup) : (∀ v ∈ D.1.toList.map (·.2), ∃ x t, v = Value.str x t) ∧ ((D.1.toList.map (·.2)).map strOf).Perm l := by
  refine ⟨fun v hv => ?_, ?_⟩
  · obtain ⟨e, he, rfl⟩ := List.mem_map.mp hv
    obtain ⟨⟨k, hk, _⟩, _⟩ := F.el e he
    obtain ⟨t, h⟩ := isStr_eq hk
    exact ⟨k, t, h⟩
  · refine perm_sub nd (fun x hx => ?_) ?_
    · obtain ⟨e, he, hk⟩ := (F.mem x).mp hx
      obtain ⟨t, h⟩ := isStr_eq hk
      refine List.mem_map.mpr ⟨e.2, List.mem_map.mpr ⟨e, he, rfl⟩, ?_⟩
      rw [h]; rfl
    · rw [List.length_map, List.length_map, Array.length_toList]; exact F.sz
theorem sorted_of_texts {a : Addr} {l : List Str} {Q : Value → Shared → Prop} (t : TsO P w s.heap a l) (nh : A.handled = none) (few : l.length < 64)
    (q : ∀ s' p (out : List Value) (c : Nat) (ys : List Str), (∀ b o, s.heap.get? b = some o → s'.heap.get? b = some o) → s'.gens = s.gens → s'.os = s.os → s.heap.objs.size ≤ p → s'.heap.get? p = some (seqObj "list" out.toArray c) → StrsAre out ys → ys.Perm l → sortedS ys = true → Q (.ref p) s') :
    wpAny (model P w) A (call (.builtin "sorted") [.ref a]) Q E s := by
  obtain ⟨D, o, F, r, hl, nd⟩ := t
  obtain ⟨es, ep, tb⟩ := D
  have z1 : es.size = l.length := F.sz
  obtain ⟨i1, i2⟩ := texts_in F nd
  refine Calls.call_function_entry kind_sorted plain_sorted entry_sorted (args_sorted1 _) ?_
  unfold Builtin.«sorted»
  refine wpAny_bind (m := checkCount "sorted" 1 1 _) (wpAny_pure (wpAny_bind (collect_set (A := A.in1) nh ⟨_, o, rfl, rfl⟩ F.fit (by unfold scanBound; show es.size < _; omega) r hl fun s1 vs k1 hz g1 o1 pm => ?_)))
  have vl : vs.length = l.length := by rw [pm.length_eq, List.length_map, Array.length_toList]; exact z1
  have S : StrsAre vs (vs.map strOf) := strsAre_map vs fun v hv => i1 v (pm.mem_iff.mp hv)
  refine wpAny_bind (wpAny_newList ?_ (by rw [vl, sizeLine_eq]; omega))
  have oL : (s1.heap.push (seqObj "list" vs.toArray 0)).get? s1.heap.objs.size = some (seqObj "list" vs.toArray 0) := Heap.get?_push_size _ rfl
  refine wpAny_bind (wpAny_holding (wpAny_call_entry slot_list_sort ⟨_, oL, rfl⟩ entry_list_sort (list_sort_treeK strKind_oneLt oL S.keysOf (fun v₁ v₂ rest e => keyKind_strs (by rw [← e]; exact S)) (by rw [vl]; exact few) fun st' hp hs => ⟨_, rfl, ?_⟩) (args_list_sort _)))
  obtain ⟨ys, j1, j2, j3⟩ := sorted_out_str S hp hs
  obtain ⟨c, hc⟩ := sortedHeap_at (vs := vs) (out := (arrOf st').map (·.2)) oL
  refine wpAny_pure ⟨_, rfl, q _ s1.heap.objs.size ((arrOf st').map (·.2)).toList c ys (fun b u e => ?_) g1 o1 hz (by rw [Array.toArray_toList]; exact hc) j1 (j2.trans ((pm.map strOf).trans i2)) j3⟩
  have z := k1 b u e
  have lt := Heap.lt_size z
  show (sortedHeap (s1.heap.push (seqObj "list" vs.toArray 0)) s1.heap.objs.size vs ((arrOf st').map (·.2))).get? b = some u
  rw [sortedHeap_old (Nat.ne_of_lt lt) (by rw [size_push']; exact Nat.lt_succ_of_lt lt)]; exact Heap.get?_push_of_some _ z
end
section
variable {X : Cx}
/-- the set of texts at a -/
def TsObj (P : Program) (w : World) (a : Addr) (l : List Str) : HO := .ext fun h => TsO P w h a l
theorem tsObj_ok {P : Program} {w : World} {H : Hp} {h : Heap} {a : Addr} {l : List Str} (t : TsO P w h a l) : ObjOk P w H h a (TsObj P w a l) := by
  have ⟨D, x⟩ := t
  exact ⟨t, ⟨_, x.at_⟩, fun h1 h2 p k => TsO.keep p k⟩
/-- set(xs) of texts -/
def rSetS (K : PySem.W.Frag) (P : Program) (w : World) : List V → Hp → VK → Prop := fun vs H Q => ∃ (l : Addr) (xs : List Str), vs = [.ref l] ∧ SqL K H l (xs.map V.str) ∧ xs.length ≤ 1000 ∧ ∀ a, H a = none → Q (.ref a) (upd H a (TsObj P w a (uniq [] xs)))
theorem call_setS (hc : X.calm = true) : CallR X (.type "set") (rSetS X.K X.prog X.w) := by
  intro pins s σ H vs us Q I r h
  obtain ⟨l, xs, rfl, hl, few, q⟩ := h
  obtain rfl := Vals.ref1 r
  obtain ⟨its, rv, pl, _⟩ := I.list hl
  refine set_of_texts xs (I.ok.hd hc) pl.isList (by simpa using rv.strs) (by omega) ?_
  rintro _ ⟨h2, tk, rfl, R, k⟩
  exact ⟨.ref s.heap.objs.size, upd H s.heap.objs.size (TsObj X.prog X.w s.heap.objs.size (uniq [] xs)), I.laid (t' := tk) k (Nat.le_refl _) (tsObj_ok R), rfl, q _ (I.hok.fresh (Nat.le_refl _))⟩
/-- sorted(such a set) -/
def rSortedTs (P : Program) (w : World) : List V → Hp → VK → Prop := fun vs H Q => ∃ (a : Addr) (l : List Str), vs = [.ref a] ∧ H a = some (TsObj P w a l) ∧ l.length < 64 ∧
  ∀ (ys : List Str) (p : Addr), ys.Perm l → sortedS ys = true → H p = none → Q (.ref p) (upd H p (.lst (ys.map V.str)))
theorem cr_sortedTs (hc : X.calm = true) : CallR X (.builtin "sorted") (rSortedTs X.prog X.w) := by
  intro pins s σ H vs us Q I r h
  obtain ⟨a, l, rfl, ha, few, q⟩ := h
  have t : TsO X.prog X.w s.heap a l := (I.hok a _ ha).1
  obtain rfl := Vals.ref1 r
  refine sorted_of_texts t (I.ok.hd hc) few fun s' p out c ys k g o hz hg hS pm so => ?_
  have hl : (ys.map V.str).length ≤ sizeLine := by rw [List.length_map, pm.length_eq, sizeLine_eq]; omega
  have hn : H p = none := I.hok.fresh hz
  have J : Inv X pins σ (upd H p (.lst (ys.map V.str))) { s with heap := s'.heap, gens := s'.gens, drawn := s'.drawn, toks := s'.toks } :=
    I.call (ch := []) (Un.laid k hz hn) (I.hok.laid k hz ⟨hl, out, c, vals_of_strs hS, hg⟩) (by rw [g]; exact I.bare) (fun _ z => nomatch z)
  have e : s' = { s with heap := s'.heap, gens := s'.gens, drawn := s'.drawn, toks := s'.toks } := by
    cases s'; cases s; cases o; rfl
  rw [e]
  exact ⟨.ref p, _, J, rfl, q ys p pm so hn⟩
end
end My
set_option Elab.async false
set_option maxRecDepth 100000
set_option maxHeartbeats 800000
set_option linter.unusedVariables false
namespace My
open PySem L2
section
variable {X : Cx} {a b : Expr} {ta : TE} {t : TA} {p p2 q pos apos : Pos}
/-- more is wanted of what is told -/
def tMono (ta : TE) : TE := fun σ H Q => ∃ R : VK, ta σ H R ∧ ∀ x H1, R x H1 → Q x H1
theorem pe_mono (h : PE X a ta) : PE X a (tMono ta) := ⟨fun pins s σ H Q I ⟨R, h1, h2⟩ => thn (h.run pins s σ H R I h1) fun v s1 ⟨x, H1, I1, r1, q1⟩ => ⟨x, H1, I1, r1, h2 x H1 q1⟩⟩
/-- sorted(set(e)), texts -/
def tSST (K : PySem.W.Frag) (ta : TE) : TE := fun σ H Q => ta σ H fun x H1 => ∃ (l : Addr) (xs : List Str), x = .ref l ∧ SqL K H1 l (xs.map V.str) ∧ xs.length < 64 ∧
  ∀ (ys : List Str) (p : Addr) (H' : Hp), ys.Nodup → (∀ y, y ∈ ys ↔ y ∈ xs) → PyProof.Rows.sortedS ys = true → H1 p = none → Keep [] H1 H' → H' p = some (.lst (ys.map V.str)) → Q (.ref p) H'
theorem nodup_uniq : ∀ {r l : List Str}, l.Nodup → (uniq l r).Nodup
  | [], _, h => h
  | k :: r, l, h => by
    unfold uniq
    by_cases c : k ∈ l
    · rw [if_pos c]; exact nodup_uniq h
    · rw [if_neg c]; exact nodup_uniq (List.nodup_cons.mpr ⟨c, h⟩)
theorem pe_sst (hc : X.calm = true) (hg : Gl X "sorted") (hm : X.mg "sorted" = none) (hg2 : Gl X "set") (hm2 : X.mg "set" = none) (ha : PE X a ta)
    (na : starEach [a] X.env = (false, eval a X.env) :: starEach [] X.env := by rfl) (nb : starEach [.Call (.Name "set" p2) [a] [] q] X.env = (false, eval (.Call (.Name "set" p2) [a] [] q) X.env) :: starEach [] X.env := by rfl) :
    PE X (.Call (.Name "sorted" p) [.Call (.Name "set" p2) [a] [] q] [] pos) (tSST X.K ta) := by
  refine ⟨fun pins s σ H Q I h => ?_⟩
  have full := pe_callB (X := X) (p := p) (pos := pos) (cr_sortedTs hc) hg hm (by decide +kernel) (pa_cons (pe_callTy (p := p2) (pos := q) (call_setS hc) hg2 hm2 (by decide +kernel) (pa_cons (pe_mono ha) pa_nil (hs := na)) (he := na)) pa_nil (hs := nb)) (he := nb)
  refine full.run pins s σ H Q I ⟨_, h, ?_⟩
  rintro x H1 ⟨l, xs, rfl, hs, few, fin⟩
  refine ⟨l, xs, rfl, hs, by omega, fun ps hps => ?_⟩
  have lu := len_uniq (r := xs) (l := [])
  rw [List.length_nil] at lu
  refine ⟨ps, _, rfl, upd_same, by omega, fun ys py pm so hpy => fin ys py _ (pm.nodup_iff.mpr (nodup_uniq List.nodup_nil)) (fun y => by rw [pm.mem_iff, mem_uniq]; simp) so ?_ ((Keep.upd_new hps).trans (Keep.upd_new hpy)) upd_same⟩
  cases e : H1 py with
  | none => rfl
  | some o => exact absurd ((Keep.upd_new (ds := []) hps) _ _ e (by simp)) (by rw [hpy]; simp)
end
end My
set_option Elab.async false
set_option maxRecDepth 100000
set_option maxHeartbeats 800000
namespace My
open PySem L2 TL StX
/-- all tuples stay -/
def KT (H H' : Hp) : Prop := ∀ b xs, H b = some (.tup xs) → H' b = some (.tup xs)
theorem Keep.kt {H H' : Hp} (k : Keep [] H H') : KT H H' := fun b xs e => k b _ e (by simp)
theorem KT.trans {H H1 H2 : Hp} (a : KT H H1) (b : KT H1 H2) : KT H H2 := fun x xs e => b x xs (a x xs e)
theorem KT.upd {H : Hp} {p : Addr} {xs : List V} {o : HO} (h : H p = some (.lst xs)) : KT H (upd H p o) := fun b ys e => by rw [upd_ne (ne_of e h (by intro z; cases z))]; exact e
/-- a comprehension over things that are told one by one: what is picked, and what each one becomes -/
theorem lc_gen {J : It} {n : Nat} {G : Hp → Prop} {Y : Nat → Hp → V → Hp → Prop} (w : L2.Walk J n G Y) {k : Nat} {tt : TT} {te : TE} {vs : List Nat} {σ : L2.St} {H : Hp} {Q : VK} (xs : List V) (sel : V → Bool) (Rel : V → V → Hp → Prop)
    (hY : ∀ i H x H', i < n → Y i H x H' → H' = H ∧ xs[i]? = some x) (hn : xs.length = n) (few : n ≤ 1000) (hG : ∀ H', Keep [] H H' → G H') (stable : ∀ x y H H', Rel x y H → KT H H' → Rel x y H')
    (hw : ∀ x, wipe ((wipe σ vs).set k (some x)) vs = wipe σ vs)
    (test : ∀ x ∈ xs, ∀ H8, Keep [] H H8 → ∀ F : Bool → Hp → Prop, (∀ H9, Keep [] H8 H9 → F (sel x) H9) → tt ((wipe σ vs).set k (some x)) H8 F)
    (step : ∀ x ∈ xs, sel x = true → ∀ H8, Keep [] H H8 → ∀ R : VK, (∀ y H9, Keep [] H8 H9 → Rel x y H9 → R y H9) → te ((wipe σ vs).set k (some x)) H8 R)
    (fin : ∀ L ys H9, H L = none → Keep [] H H9 → H9 L = some (.lst ys) → Paired (fun x y => Rel x y H9) (xs.filter sel) ys → Q (.ref L) H9) :
    tLc (fun _ H R => R J H) (gName k) tt te vs σ H Q := by
  have hsl : sizeLine = 16777216 := sizeLine_eq
  refine fun L hL => lc_it w (fun i H8 => Keep [] H H8 ∧ ∃ ys, H8 L = some (.lst ys) ∧ Paired (fun x y => Rel x y H8) ((xs.take i).filter sel) ys) ⟨Keep.upd_new hL, [], upd_same, .nil⟩ (fun i H8 _ ⟨k, _⟩ => hG H8 k) ?_ ?_
  · rintro i x H8 H9 hi ⟨K8, ys, h8, P8⟩ hy
    obtain ⟨rfl, hx⟩ := hY i H8 x H9 hi hy
    have xm := List.mem_of_getElem? hx
    have snoc : ∀ {x y : V} {H : Hp} {xs ys : List V}, Paired (fun x y => Rel x y H) xs ys → Rel x y H → Paired (fun x y => Rel x y H) (xs ++ [x]) (ys ++ [y]) := by
      intro x y H xs ys p r
      induction p with
      | nil => exact .cons r .nil
      | cons a _ ih => exact .cons a ih
    refine ⟨hw x, test x xm H9 K8 _ fun HA KA => ?_⟩
    rw [take_succ_of hx, List.filter_append]
    have PA := Paired.mapP P8 fun x y r => stable x y _ _ r KA.kt
    have hA := KA _ _ h8 (by simp)
    have K0A := K8.trans KA
    cases hs : sel x with
    | false =>
      refine iteF ⟨K0A, ys, hA, ?_⟩
      simp [hs]
      exact PA
    | true =>
      refine iteT (step x xm hs HA K0A _ fun y HB KB r => ?_)
      have hB := KB _ _ hA (by simp)
      have PB := Paired.mapP PA fun x y r => stable x y _ _ r KB.kt
      refine ⟨ys, hB, ?_, (K0A.trans KB).trans_new hL, ys ++ [y], upd_same, ?_⟩
      · have := Paired.length P8
        have := List.length_filter_le sel (xs.take i)
        rw [List.length_take] at this
        omega
      · have : [x].filter sel = [x] := by simp [hs]
        rw [this]
        exact Paired.mapP (snoc PB r) fun x y r => stable x y _ _ r (KT.upd hB)
  · rintro H8 ⟨K8, ys, h8, P8⟩
    rw [← hn, List.take_length] at P8
    exact fin L ys H8 hL K8 h8 P8
/-- the same, where what each one becomes may be anything new that stands beside the list -/
theorem lc_gen2 {J : It} {n : Nat} {G : Hp → Prop} {Y : Nat → Hp → V → Hp → Prop} (w : L2.Walk J n G Y) {k : Nat} {tt : TT} {te : TE} {vs : List Nat} {σ : L2.St} {H : Hp} {Q : VK} (xs : List V) (sel : V → Bool) (Rel : Addr → V → V → Hp → Prop)
    (hY : ∀ i H x H', i < n → Y i H x H' → H' = H ∧ xs[i]? = some x) (hn : xs.length = n) (few : n ≤ 1000000) (hG : ∀ H', Keep [] H H' → G H') (stable : ∀ L x y H H', Rel L x y H → Keep [L] H H' → Rel L x y H')
    (hw : ∀ x, wipe ((wipe σ vs).set k (some x)) vs = wipe σ vs)
    (test : ∀ x ∈ xs, ∀ H8, Keep [] H H8 → ∀ F : Bool → Hp → Prop, (∀ H9, Keep [] H8 H9 → F (sel x) H9) → tt ((wipe σ vs).set k (some x)) H8 F)
    (step : ∀ L, H L = none → ∀ x ∈ xs, sel x = true → ∀ H8, Keep [] H H8 → (∃ zs, H8 L = some (.lst zs)) → ∀ R : VK, (∀ y H9, Keep [] H8 H9 → Rel L x y H9 → R y H9) → te ((wipe σ vs).set k (some x)) H8 R)
    (fin : ∀ L ys H9, H L = none → Keep [] H H9 → H9 L = some (.lst ys) → Paired (fun x y => Rel L x y H9) (xs.filter sel) ys → Q (.ref L) H9) :
    tLc (fun _ H R => R J H) (gName k) tt te vs σ H Q := by
  have hsl : sizeLine = 16777216 := sizeLine_eq
  refine fun L hL => lc_it w (fun i H8 => Keep [] H H8 ∧ ∃ ys, H8 L = some (.lst ys) ∧ Paired (fun x y => Rel L x y H8) ((xs.take i).filter sel) ys) ⟨Keep.upd_new hL, [], upd_same, .nil⟩ (fun i H8 _ ⟨k, _⟩ => hG H8 k) ?_ ?_
  · rintro i x H8 H9 hi ⟨K8, ys, h8, P8⟩ hy
    obtain ⟨rfl, hx⟩ := hY i H8 x H9 hi hy
    have xm := List.mem_of_getElem? hx
    have snoc : ∀ {x y : V} {H : Hp} {xs ys : List V}, Paired (fun x y => Rel L x y H) xs ys → Rel L x y H → Paired (fun x y => Rel L x y H) (xs ++ [x]) (ys ++ [y]) := by
      intro x y H xs ys p r
      induction p with
      | nil => exact .cons r .nil
      | cons a _ ih => exact .cons a ih
    refine ⟨hw x, test x xm H9 K8 _ fun HA KA => ?_⟩
    rw [take_succ_of hx, List.filter_append]
    have PA := Paired.mapP P8 fun x y r => stable L x y _ _ r (KA.mono (by simp))
    have hA := KA _ _ h8 (by simp)
    have K0A := K8.trans KA
    cases hs : sel x with
    | false =>
      refine iteF ⟨K0A, ys, hA, ?_⟩
      simp [hs]
      exact PA
    | true =>
      refine iteT (step L hL x xm hs HA K0A ⟨_, hA⟩ _ fun y HB KB r => ?_)
      have hB := KB _ _ hA (by simp)
      have PB := Paired.mapP PA fun x y r => stable L x y _ _ r (KB.mono (by simp))
      refine ⟨ys, hB, ?_, (K0A.trans KB).trans_new hL, ys ++ [y], upd_same, ?_⟩
      · have := Paired.length P8
        have := List.length_filter_le sel (xs.take i)
        rw [List.length_take] at this
        omega
      · have : [x].filter sel = [x] := by simp [hs]
        rw [this]
        exact Paired.mapP (snoc PB r) fun x y r => stable L x y _ _ r (Keep.upd_in (by simp))
  · rintro H8 ⟨K8, ys, h8, P8⟩
    rw [← hn, List.take_length] at P8
    exact fin L ys H8 hL K8 h8 P8
end My
set_option Elab.async false
set_option maxRecDepth 100000
set_option maxHeartbeats 800000
namespace My
open PySem L2 TL StX
/-! the law's comprehensions -/
/-- a walk over places -/
def NW (J : It) (H : Hp) (l : List Nat) : Prop := ∃ (n : Nat) (G : Hp → Prop) (Y : Nat → Hp → V → Hp → Prop), L2.Walk J n G Y ∧ (∀ i H x H', i < n → Y i H x H' → H' = H ∧ (nats l)[i]? = some x) ∧ (nats l).length = n ∧ ∀ H', Keep [] H H' → G H'
theorem NW.list {K : PySem.W.Frag} {H : Hp} {a : Addr} {l : List Nat} (h : H a = some (.lst (nats l))) : NW (Itl K a) H l :=
  ⟨_, _, _, walk_list (xs := nats l), fun _ _ _ _ _ y => y, rfl, fun _ k => SqL.of (k _ _ h (by simp))⟩
theorem NW.range {H : Hp} {n : Nat} : NW (Itr 0 n) H (List.range n) :=
  ⟨_, _, _, walk_range, fun i H x H' hi y => ⟨y.1, by
    rw [y.2]
    unfold nats
    rw [List.getElem?_map, List.getElem?_range hi]
    show some (V.int (i : Nat)) = some (V.int (0 + (i : Nat)))
    rw [Int.zero_add]⟩, by unfold nats; rw [List.length_map, List.length_range], fun _ _ => trivial⟩
/-- the number behind a value -/
def numV : V → Nat
  | .int i => i.toNat
  | _ => 0
theorem numV_int (i : Nat) : numV (V.int (i : Nat)) = i := by show Int.toNat (i : Int) = i; omega
theorem nats_filter (p : Nat → Bool) : ∀ l : List Nat, (nats l).filter (fun v => p (numV v)) = nats (l.filter p)
  | [] => rfl
  | i :: r => by
    have ih := nats_filter p r
    unfold nats at ih ⊢
    rw [List.map_cons, List.filter_cons, List.filter_cons, numV_int, ih]
    split <;> simp
theorem paired_same {xs ys : List V} (h : Paired (fun x y => x = y) xs ys) : ys = xs := by
  induction h with
  | nil => rfl
  | cons a _ ih => rw [← a, ih]
theorem nats_mem {l : List Nat} {v : V} (h : v ∈ nats l) : ∃ i : Nat, i ∈ l ∧ v = V.int i := by
  obtain ⟨i, hi, rfl⟩ := List.mem_map.mp h
  exact ⟨i, hi, rfl⟩
section
variable {J : It} {k : Nat} {tt : TT} {te : TE} {vs : List Nat} {σ : L2.St} {H : Hp} {Q : VK} {l : List Nat}
/-- some of the places, each as another number -/
theorem lc_nums (w : NW J H l) (few : l.length ≤ 1000) (p : Nat → Bool) (f : Nat → Nat) (hw : ∀ x, wipe ((wipe σ vs).set k (some x)) vs = wipe σ vs)
    (test : ∀ i ∈ l, ∀ H8, Keep [] H H8 → ∀ F : Bool → Hp → Prop, (∀ H9, Keep [] H8 H9 → F (p i) H9) → tt ((wipe σ vs).set k (some (.int (i : Nat)))) H8 F)
    (step : ∀ i ∈ l, p i = true → ∀ H8, Keep [] H H8 → ∀ R : VK, (∀ H9, Keep [] H8 H9 → R (.int (f i : Nat)) H9) → te ((wipe σ vs).set k (some (.int (i : Nat)))) H8 R)
    (fin : ∀ L H9, H L = none → Keep [] H H9 → H9 L = some (.lst (nats ((l.filter p).map f))) → Q (.ref L) H9) : tLc (fun _ H R => R J H) (gName k) tt te vs σ H Q := by
  obtain ⟨n, G, Y, w, hY, hn, hG⟩ := w
  refine lc_gen w (nats l) (fun v => p (numV v)) (fun x y _ => y = .int (f (numV x) : Nat)) hY hn (by rw [← hn]; unfold nats; rw [List.length_map]; exact few) hG (fun _ _ _ _ r _ => r) hw (fun x hx H8 K8 F q => ?_) (fun x hx hs H8 K8 R q => ?_) fun L ys H9 hL K9 h9 P => ?_
  · obtain ⟨i, hi, rfl⟩ := nats_mem hx
    exact test i hi H8 K8 F fun H9 K9 => by have := q H9 K9; rwa [numV_int] at this
  · obtain ⟨i, hi, rfl⟩ := nats_mem hx
    rw [numV_int] at hs
    exact step i hi hs H8 K8 R fun H9 K9 => q _ H9 K9 (by rw [numV_int])
  · refine fin L H9 hL K9 ?_
    rw [nats_filter] at P
    have : ∀ {m : List Nat} {ys : List V}, Paired (fun x y => y = V.int (f (numV x) : Nat)) (nats m) ys → ys = nats (m.map f) := by
      intro m
      induction m with
      | nil => intro ys h; cases h; rfl
      | cons a r ih =>
        intro ys h
        cases h with
        | cons h t =>
          rw [h, numV_int, ih t]; rfl
    rw [this P] at h9
    exact h9
/-- the orders at some of the places -/
theorem lc_picks {os : List O} {rs : List Addr} (w : NW J H l) (few : l.length ≤ 1000) (hO : Ords H rs os) (lt : ∀ i ∈ l, i < os.length) (p : Nat → Bool) (hw : ∀ x, wipe ((wipe σ vs).set k (some x)) vs = wipe σ vs)
    (test : ∀ i ∈ l, ∀ H8, Keep [] H H8 → ∀ F : Bool → Hp → Prop, (∀ H9, Keep [] H8 H9 → F (p i) H9) → tt ((wipe σ vs).set k (some (.int (i : Nat)))) H8 F)
    (step : ∀ i ∈ l, ∀ r, rs[i]? = some r → ∀ H8, Keep [] H H8 → ∀ R : VK, R (.ref r) H8 → te ((wipe σ vs).set k (some (.int (i : Nat)))) H8 R)
    (fin : ∀ L rs' H9, H L = none → Keep [] H H9 → H9 L = some (.lst (rs'.map V.ref)) → Ords H9 rs' (picks os (l.filter p)) → Q (.ref L) H9) : tLc (fun _ H R => R J H) (gName k) tt te vs σ H Q := by
  obtain ⟨n, G, Y, w, hY, hn, hG⟩ := w
  refine lc_gen w (nats l) (fun v => p (numV v)) (fun x y H' => ∃ r o, y = .ref r ∧ os[numV x]? = some o ∧ H' r = some (.tup (vals o))) hY hn (by rw [← hn]; unfold nats; rw [List.length_map]; exact few) hG (fun _ _ _ _ ⟨r, o, a, b, c⟩ k => ⟨r, o, a, b, k _ _ c⟩) hw (fun x hx H8 K8 F q => ?_) (fun x hx hs H8 K8 R q => ?_) fun L ys H9 hL K9 h9 P => ?_
  · obtain ⟨i, hi, rfl⟩ := nats_mem hx
    exact test i hi H8 K8 F fun H9 K9 => by have := q H9 K9; rwa [numV_int] at this
  · obtain ⟨i, hi, rfl⟩ := nats_mem hx
    have il := lt i hi
    obtain ⟨r, h1, h2⟩ := (hO.keep K8).at (List.getElem?_eq_getElem il)
    exact step i hi r h1 H8 K8 R (q _ H8 Keep.refl ⟨r, os[i], rfl, by rw [numV_int]; exact List.getElem?_eq_getElem il, h2⟩)
  · rw [nats_filter] at P
    have : ∀ {m : List Nat} {ys : List V}, Paired (fun x y => ∃ r o, y = V.ref r ∧ os[numV x]? = some o ∧ H9 r = some (.tup (vals o))) (nats m) ys → ∃ rs' : List Addr, ys = rs'.map V.ref ∧ Ords H9 rs' (picks os m) := by
      intro m
      induction m with
      | nil => intro ys h; cases h; exact ⟨[], rfl, .nil⟩
      | cons a r ih =>
        intro ys h
        cases h with
        | cons h t =>
          obtain ⟨r', o, rfl, e, h2⟩ := h
          obtain ⟨rs', rfl, O⟩ := ih t
          rw [numV_int] at e
          refine ⟨r' :: rs', rfl, ?_⟩
          unfold picks at O ⊢
          rw [List.filterMap_cons_some e]
          exact .cons h2 O
    obtain ⟨rs', rfl, O⟩ := this P
    exact fin L rs' H9 hL K9 h9 O
end
/-- what a comprehension's own rule asks for, from what is shown of it -/
theorem lc_do {J : It} {g : TG} {tt : TT} {te : TE} {vs : List Nat} {σ : L2.St} {H : Hp} {Qd : Addr → Hp → Prop} (h : ∀ Q : VK, (∀ D H', Qd D H' → Q (.ref D) H') → tLc (fun _ H R => R J H) g tt te vs σ H Q) :
    ∀ D, H D = none → ∃ W : Nat → Nat → Hp → Prop, (∃ m, W 0 m (upd H D (.lst []))) ∧ ∀ i m H, W i m H →
      (J.stop i H ∧ Qd D H) ∨ (J.go i H ∧ ∃ Nx : Hp → Prop, (∀ H', Nx H' → ∃ m', m' < m ∧ W (i + 1) m' H') ∧ ∀ x H', J.yld i H x H' → g x (wipe σ vs) H' fun σ2 H2 => wipe σ2 vs = wipe σ vs ∧ tt σ2 H2 fun b H3 =>
        if b = true then te σ2 H3 fun y H4 => ∃ acc, H4 D = some (.lst acc) ∧ acc.length < sizeLine ∧ Nx (upd H4 D (.lst (acc ++ [y]))) else Nx H3) := by
  intro D hD
  obtain ⟨W, w0, turn⟩ := h (fun v H' => ∃ E, v = .ref E ∧ Qd E H') (fun E H' q => ⟨E, rfl, q⟩) D hD
  refine ⟨W, w0, fun i m H w => ?_⟩
  rcases turn i m H w with ⟨a, E, e, q⟩ | r
  · injection e with e
    subst e
    exact .inl ⟨a, q⟩
  · exact .inr r
theorem vals_inj {o o' : O} (h : vals o = vals o') : o = o' := by
  obtain ⟨a, b, c, d, e, f⟩ := o
  obtain ⟨a', b', c', d', e', f'⟩ := o'
  have h : ordV a b c d e f = ordV a' b' c' d' e' f' := h
  unfold ordV at h
  injection h with _ h
  injection h with h1 h
  injection h with h2 h
  injection h with h3 h
  injection h with h4 h
  injection h with h5 h
  injection h with h6 _
  injection h1 with h1; injection h2 with h2; injection h3 with h3; injection h4 with h4; injection h5 with h5; injection h6 with h6
  rw [h1, h2, h3, h4, h5, h6]
section
variable {K : PySem.W.Frag} {tt : TT} {te : TE} {k : Nat} {vs : List Nat} {σ : L2.St} {H : Hp} {Q : VK} {po : Addr} {os : List O} {rs : List Addr}
/-- each order as another one -/
theorem lc_lot (ho : H po = some (.lst (rs.map V.ref))) (hO : Ords H rs os) (l60 : os.length ≤ 60) (g : O → O) (hw : ∀ x, wipe ((wipe σ vs).set k (some x)) vs = wipe σ vs)
    (step : ∀ o ∈ os, ∀ r H8, Keep [] H H8 → H8 r = some (.tup (vals o)) → ∀ R : VK, (∀ t H9, Keep [] H8 H9 → H9 t = some (.tup (vals (g o))) → R (.ref t) H9) → te ((wipe σ vs).set k (some (.ref r))) H8 R)
    (fin : ∀ L rs' H9, H L = none → Keep [] H H9 → H9 L = some (.lst (rs'.map V.ref)) → Ords H9 rs' (os.map g) → Q (.ref L) H9) : tLc (fun _ H R => R (Itl K po) H) (gName k) tYes te vs σ H Q := by
  have lr := hO.len
  refine lc_gen (walk_list (xs := rs.map V.ref)) (rs.map V.ref) (fun _ => true) (fun x y H' => ∃ r o t, x = V.ref r ∧ H r = some (.tup (vals o)) ∧ y = V.ref t ∧ H' t = some (.tup (vals (g o)))) (fun _ _ _ _ _ y => y) rfl (by rw [List.length_map]; omega) (fun _ k => SqL.of (k _ _ ho (by simp))) (fun _ _ _ _ ⟨r, o, t, a, b, c, d⟩ k => ⟨r, o, t, a, b, c, k _ _ d⟩) hw (fun x _ H8 _ F q => tYes_go (q H8 Keep.refl)) (fun x hx _ H8 K8 R q => ?_) fun L ys H9 hL K9 h9 P => ?_
  · obtain ⟨i, hi⟩ := List.mem_iff_getElem?.mp hx
    rw [List.getElem?_map] at hi
    obtain ⟨r, hr, rfl⟩ := Option.map_eq_some_iff.mp hi
    have il : i < os.length := by rw [← lr]; exact (List.getElem?_eq_some_iff.mp hr).1
    have eo := List.getElem?_eq_getElem il
    obtain ⟨r', h1, h2⟩ := hO.at eo
    rw [hr] at h1
    obtain rfl := Option.some.inj h1
    exact step os[i] (List.mem_of_getElem? eo) r H8 K8 (K8 _ _ h2 (by simp)) R fun t H9 K9 h9 => q _ H9 K9 ⟨r, os[i], t, rfl, h2, rfl, h9⟩
  · rw [List.filter_eq_self.mpr fun _ _ => rfl] at P
    have : ∀ {rs : List Addr} {os : List O} {ys : List V}, Ords H rs os → Paired (fun x y => ∃ r o t, x = V.ref r ∧ H r = some (.tup (vals o)) ∧ y = V.ref t ∧ H9 t = some (.tup (vals (g o)))) (rs.map V.ref) ys → ∃ rs' : List Addr, ys = rs'.map V.ref ∧ Ords H9 rs' (os.map g) := by
      intro rs os ys h
      induction h generalizing ys with
      | nil => intro p; cases p; exact ⟨[], rfl, .nil⟩
      | cons h _ ih =>
        intro p
        cases p with
        | cons a t =>
          obtain ⟨r, o, t', e1, e2, rfl, e4⟩ := a
          injection e1 with e1
          subst e1
          have h : H _ = some (.tup (vals _)) := h
          rw [e2] at h
          have eo := vals_inj (HO.tup.inj (Option.some.inj h))
          subst eo
          obtain ⟨rs', rfl, O⟩ := ih t
          exact ⟨t' :: rs', rfl, .cons e4 O⟩
    obtain ⟨rs', rfl, O⟩ := this hO P
    exact fin L rs' H9 hL K9 h9 O
/-- of each order a value -/
theorem lc_lotV (ho : H po = some (.lst (rs.map V.ref))) (hO : Ords H rs os) (l60 : os.length ≤ 60) (g : O → V) (hw : ∀ x, wipe ((wipe σ vs).set k (some x)) vs = wipe σ vs)
    (step : ∀ o ∈ os, ∀ r H8, Keep [] H H8 → H8 r = some (.tup (vals o)) → ∀ R : VK, R (g o) H8 → te ((wipe σ vs).set k (some (.ref r))) H8 R)
    (fin : ∀ L H9, H L = none → Keep [] H H9 → H9 L = some (.lst (os.map g)) → Q (.ref L) H9) : tLc (fun _ H R => R (Itl K po) H) (gName k) tYes te vs σ H Q := by
  have lr := hO.len
  refine lc_gen (walk_list (xs := rs.map V.ref)) (rs.map V.ref) (fun _ => true) (fun x y _ => ∃ r o, x = V.ref r ∧ H r = some (.tup (vals o)) ∧ y = g o) (fun _ _ _ _ _ y => y) rfl (by rw [List.length_map]; omega) (fun _ k => SqL.of (k _ _ ho (by simp))) (fun _ _ _ _ r _ => r) hw (fun x _ H8 _ F q => tYes_go (q H8 Keep.refl)) (fun x hx _ H8 K8 R q => ?_) fun L ys H9 hL K9 h9 P => ?_
  · obtain ⟨i, hi⟩ := List.mem_iff_getElem?.mp hx
    rw [List.getElem?_map] at hi
    obtain ⟨r, hr, rfl⟩ := Option.map_eq_some_iff.mp hi
    have il : i < os.length := by rw [← lr]; exact (List.getElem?_eq_some_iff.mp hr).1
    have eo := List.getElem?_eq_getElem il
    obtain ⟨r', h1, h2⟩ := hO.at eo
    rw [hr] at h1
    obtain rfl := Option.some.inj h1
    exact step os[i] (List.mem_of_getElem? eo) r H8 K8 (K8 _ _ h2 (by simp)) R (q _ H8 Keep.refl ⟨r, os[i], rfl, h2, rfl⟩)
  · rw [List.filter_eq_self.mpr fun _ _ => rfl] at P
    have : ∀ {rs : List Addr} {os : List O} {ys : List V}, Ords H rs os → Paired (fun x y => ∃ r o, x = V.ref r ∧ H r = some (.tup (vals o)) ∧ y = g o) (rs.map V.ref) ys → ys = os.map g := by
      intro rs os ys h
      induction h generalizing ys with
      | nil => intro p; cases p; rfl
      | cons h _ ih =>
        intro p
        cases p with
        | cons a t =>
          obtain ⟨r, o, e1, e2, rfl⟩ := a
          injection e1 with e1
          subst e1
          have h : H _ = some (.tup (vals _)) := h
          rw [e2] at h
          have eo := vals_inj (HO.tup.inj (Option.some.inj h))
          subst eo
          rw [ih t]; rfl
    rw [this hO P] at h9
    exact fin L H9 hL K9 h9
/-- of each name that has something, a pair -/
theorem lc_means {pf : Addr} {fr : DI} (hf : H pf = some (.dK (kvI fr))) (nd : (fr.map (·.1)).Nodup) (few : fr.length ≤ 1000) (ρ : Str → Str) (φ : Int → Int) (hw : ∀ x, wipe ((wipe σ vs).set k (some x)) vs = wipe σ vs)
    (od : Obj) (step : ∀ p ∈ fr, ∀ H8, Keep [] (upd H pf (.frz od (.dK (kvI fr)))) H8 → ∀ R : VK, (∀ t H9, Keep [] H8 H9 → H9 t = some (.tup [.str (ρ p.1), .int (φ p.2)]) → R (.ref t) H9) → te ((wipe σ vs).set k (some (.str p.1))) H8 R)
    (fin : ∀ L ts H9, H L = none → H9 pf = some (.frz od (.dK (kvI fr))) → Keep [] H (upd H9 pf (.dK (kvI fr))) → (upd H9 pf (.dK (kvI fr))) L = some (.lst (ts.map V.ref)) → Paired (fun r (kv : Key × V) => (upd H9 pf (.dK (kvI fr))) r = some (.tup [kV kv.1, kv.2])) ts (kvI (fr.map fun p => (ρ p.1, φ p.2))) → Q (.ref L) H9) :
    tLc (fun _ H R => R (Itk pf od (kvI fr)) H) (gName k) tYes te vs σ (upd H pf (.frz od (.dK (kvI fr)))) Q := by
  refine lc_gen (walk_keys (d := pf) (o := od) (kvs := kvI fr)) (fr.map fun p => V.str p.1) (fun _ => true) (fun x y H' => ∃ p t, p ∈ fr ∧ x = V.str p.1 ∧ y = V.ref t ∧ H' t = some (.tup [.str (ρ p.1), .int (φ p.2)])) ?_ ?_ ?_ (fun _ k => k _ _ upd_same (by simp)) (fun _ _ _ _ ⟨p, t, a, b, c, d⟩ k => ⟨p, t, a, b, c, k _ _ d⟩) hw (fun x _ H8 _ F q => tYes_go (q H8 Keep.refl)) (fun x hx _ H8 K8 R q => ?_) fun L ys H9 hL K9 h9 P => ?_
  · rintro i H x H' hi ⟨rfl, k, v, e, rfl⟩
    refine ⟨rfl, ?_⟩
    unfold kvI at e
    rw [List.getElem?_map] at e ⊢
    obtain ⟨p, hp, e⟩ := Option.map_eq_some_iff.mp e
    rw [hp]
    injection e with e1 e2
    rw [← e1]; rfl
  · unfold kvI; rw [List.length_map, List.length_map]
  · unfold kvI; rw [List.length_map]; exact few
  · obtain ⟨p, hp, rfl⟩ := List.mem_map.mp hx
    exact step p hp H8 K8 R fun t H9 K9 h9 => q _ H9 K9 ⟨p, t, hp, rfl, rfl, h9⟩
  · rw [List.filter_eq_self.mpr fun _ _ => rfl] at P
    have nLb : L ≠ pf := (ne_of_none (upd_same (H := H)) hL).symm
    have : ∀ {m : DI} {ys : List V}, (∀ p ∈ m, p ∈ fr) → Paired (fun x y => ∃ p t, p ∈ fr ∧ x = V.str p.1 ∧ y = V.ref t ∧ H9 t = some (.tup [.str (ρ p.1), .int (φ p.2)])) (m.map fun p => V.str p.1) ys →
        ∃ ts : List Addr, ys = ts.map V.ref ∧ Paired (fun r (kv : Key × V) => H9 r = some (.tup [kV kv.1, kv.2])) ts (kvI (m.map fun p => (ρ p.1, φ p.2))) := by
      intro m
      induction m with
      | nil => intro ys _ h; cases h; exact ⟨[], rfl, .nil⟩
      | cons a r ih =>
        intro ys sub h
        cases h with
        | cons h t =>
          obtain ⟨p, t', pm, e1, rfl, e3⟩ := h
          obtain ⟨ts, rfl, P'⟩ := ih (fun q hq => sub q (List.mem_cons_of_mem _ hq)) t
          injection e1 with e1
          have : p = a := nodup_map_inj nd pm (sub a (by simp)) e1.symm
          subst this
          exact ⟨t' :: ts, rfl, .cons e3 P'⟩
    obtain ⟨ts, rfl, P'⟩ := this (fun p hp => hp) P
    refine fin L ts H9 (by rw [upd_ne nLb] at hL; exact hL) (K9 _ _ upd_same (by simp)) (Keep.unlock hf K9) (by rw [upd_ne nLb]; exact h9) (Paired.mapP P' fun r kv e => ?_)
    have e : H9 r = some (.tup [kV kv.1, kv.2]) := e
    rw [upd_ne (ne_of e (K9 _ _ upd_same (by simp)) (by intro z; cases z))]
    exact e
end
end My
set_option Elab.async false
set_option maxRecDepth 100000
set_option maxHeartbeats 800000
namespace My
open PySem L2 TL StX
/-! parts of a rising list of orders that stand there; settled one behind the other (pure) -/
theorem picks_at {os : List O} : ∀ {l : List Nat}, (∀ i ∈ l, i < os.length) → ∀ j : Nat, (picks os l)[j]? = (l[j]?).bind fun i => os[i]?
  | [], _, j => by simp [picks]
  | i :: r, lt, j => by
    obtain ⟨o, e⟩ : ∃ o, os[i]? = some o := ⟨_, List.getElem?_eq_getElem (lt i (by simp))⟩
    have ih := picks_at (l := r) (fun k hk => lt k (List.mem_cons_of_mem _ hk))
    unfold picks at ih ⊢
    rw [List.filterMap_cons_some e]
    cases j with
    | zero => simp [e]
    | succ j => simpa using ih j
theorem picks_length {os : List O} {l : List Nat} (lt : ∀ i ∈ l, i < os.length) : (picks os l).length = l.length := by
  induction l with
  | nil => rfl
  | cons i r ih =>
    obtain ⟨o, e⟩ : ∃ o, os[i]? = some o := ⟨_, List.getElem?_eq_getElem (lt i (by simp))⟩
    have := ih fun k hk => lt k (List.mem_cons_of_mem _ hk)
    unfold picks at this ⊢
    rw [List.filterMap_cons_some e, List.length_cons, this, List.length_cons]
theorem getD_at {l : List Nat} {j : Nat} (h : j < l.length) : l[j]? = some (l.getD j 0) := by
  rw [List.getD_eq_getElem?_getD, List.getElem?_eq_getElem h]; rfl
theorem map_getD (l : List Nat) : (List.range l.length).map (fun j => l.getD j 0) = l := by
  refine List.ext_getElem? fun j => ?_
  rw [List.getElem?_map]
  by_cases h : j < l.length
  · rw [List.getElem?_range h, getD_at h]; rfl
  · rw [List.getElem?_eq_none (by simpa using h), List.getElem?_eq_none (by simpa using h)]; rfl
structure RiL (n : Nat) (l : List Nat) : Prop where
  ri : l.Pairwise (· < ·)
  lt : ∀ i ∈ l, i < n
theorem RiL.nd {n : Nat} {l : List Nat} (h : RiL n l) : l.Nodup := h.ri.imp fun h => by omega
theorem RiL.filter (n : Nat) (E : Nat → Bool) : RiL n ((List.range n).filter E) := ⟨List.Pairwise.filter _ List.pairwise_lt_range, fun i hi => List.mem_range.mp (List.mem_filter.mp hi).1⟩
theorem RiL.pick {n : Nat} {l : List Nat} (h : RiL n l) (p : Nat → Bool) : RiL n (l.filter p) := ⟨h.ri.filter _, fun i hi => h.lt i (List.mem_filter.mp hi).1⟩
theorem filter_of {n : Nat} {l : List Nat} (ri : l.Pairwise (· < ·)) (lt : ∀ i ∈ l, i < n) : l = (List.range n).filter (inL l) := by
  refine List.Perm.eq_of_pairwise (le := (· < ·)) (fun a b _ _ h1 h2 => absurd h1 (by omega)) ri (List.Pairwise.filter _ List.pairwise_lt_range) ?_
  exact perm_in (ri.imp fun h => by omega) lt
theorem RiL.len {n : Nat} {l : List Nat} (h : RiL n l) : l.length ≤ n := by
  rw [filter_of h.ri h.lt]
  have := List.length_filter_le (inL l) (List.range n)
  rwa [List.length_range] at this
theorem ri_eq {u v : List Nat} (hu : u.Pairwise (· < ·)) (hv : v.Pairwise (· < ·)) (e : ∀ i, i ∈ u ↔ i ∈ v) : u = v :=
  List.Perm.eq_of_pairwise (le := (· < ·)) (fun a b _ _ h1 h2 => absurd h1 (by omega)) hu hv ((List.perm_ext_iff_of_nodup (hu.imp fun h => by omega) (hv.imp fun h => by omega)).mpr e)
theorem ri_at {l : List Nat} (ri : l.Pairwise (· < ·)) {j k : Nat} (hk : k < l.length) (h : j < k) : l.getD j 0 < l.getD k 0 := by
  have hj : j < l.length := by omega
  have := List.pairwise_iff_getElem.mp ri j k hj hk h
  rw [List.getD_eq_getElem?_getD, List.getD_eq_getElem?_getD, List.getElem?_eq_getElem hj, List.getElem?_eq_getElem hk]
  exact this
/-- u is a part of l that stands there with what is had -/
structure SubOk (h : DI) (os : List O) (l u : List Nat) : Prop where
  ri : u.Pairwise (· < ·)
  sub : ∀ i ∈ u, i ∈ l
  cl : ∀ i ∈ u, ∀ k ∈ l, k < i → payer os k = payer os i → k ∈ u
  nn : ∀ n, 0 ≤ getI h n + (u.map (flowAt os · n)).sum
theorem SubOk.nil {h : DI} {os : List O} {l : List Nat} (nn : ∀ n, 0 ≤ getI h n) : SubOk h os l [] :=
  ⟨.nil, by simp, by simp, fun n => by simpa using nn n⟩
section
variable {h : DI} {os : List O} {l : List Nat}
theorem pick_py (R : RiL os.length l) {j : Nat} (hj : j < l.length) : payer (picks os l) j = payer os (l.getD j 0) := by
  unfold payer; rw [picks_at R.lt, getD_at hj]; rfl
theorem pick_flow (R : RiL os.length l) {j : Nat} (hj : j < l.length) (n : Str) : flowAt (picks os l) j n = flowAt os (l.getD j 0) n := by
  unfold flowAt; rw [picks_at R.lt, getD_at hj]; rfl
/-- sums over a part of the picked ones -/
theorem pick_sum (R : RiL os.length l) (T : Nat → Bool) (n : Str) : sumP (picks os l) T n = ((((List.range l.length).filter T).map fun j => l.getD j 0).map (flowAt os · n)).sum := by
  unfold sumP
  rw [picks_length R.lt, ← sum_filter, List.map_map]
  refine congrArg List.sum (List.map_congr_left fun j hj => ?_)
  exact pick_flow R (List.mem_range.mp (List.mem_filter.mp hj).1) n
def lastL (l : List Nat) (T : Nat → Bool) : List Nat := ((List.range l.length).filter T).map fun j => l.getD j 0
theorem mem_lastL {T : Nat → Bool} {i : Nat} : i ∈ lastL l T ↔ ∃ j, j < l.length ∧ T j = true ∧ l.getD j 0 = i := by
  unfold lastL
  rw [List.mem_map]
  exact ⟨fun ⟨j, hj, e⟩ => ⟨j, List.mem_range.mp (List.mem_filter.mp hj).1, (List.mem_filter.mp hj).2, e⟩, fun ⟨j, h1, h2, e⟩ => ⟨j, List.mem_filter.mpr ⟨List.mem_range.mpr h1, h2⟩, e⟩⟩
theorem lastL_ri (R : RiL os.length l) (T : Nat → Bool) : (lastL l T).Pairwise (· < ·) := by
  unfold lastL
  refine List.pairwise_map.mpr (List.Pairwise.imp_of_mem ?_ (List.Pairwise.filter T (List.pairwise_lt_range (n := l.length))))
  intro a b _ hb hab
  exact ri_at R.ri (List.mem_range.mp (List.mem_filter.mp hb).1) hab
theorem lastL_sub {T : Nat → Bool} : ∀ i ∈ lastL l T, i ∈ l := fun i hi => by
  obtain ⟨j, hj, _, rfl⟩ := mem_lastL.mp hi
  exact List.mem_of_getElem? (getD_at hj)
theorem at_of_mem {i : Nat} (hi : i ∈ l) : ∃ j, j < l.length ∧ l.getD j 0 = i := by
  obtain ⟨j, hj⟩ := List.mem_iff_getElem?.mp hi
  have lt := (List.getElem?_eq_some_iff.mp hj).1
  exact ⟨j, lt, Option.some.inj ((getD_at lt).symm.trans hj)⟩
theorem ri_lt (R : RiL os.length l) {j k : Nat} (hj : j < l.length) (hk : k < l.length) (h : l.getD j 0 < l.getD k 0) : j < k := by
  rcases Nat.lt_trichotomy j k with c | c | c
  · exact c
  · subst c; omega
  · have := ri_at R.ri hj c; omega
theorem ri_inj (R : RiL os.length l) {j k : Nat} (hj : j < l.length) (hk : k < l.length) (h : l.getD j 0 = l.getD k 0) : j = k := by
  rcases Nat.lt_trichotomy j k with c | c | c
  · have := ri_at R.ri hk c; omega
  · exact c
  · have := ri_at R.ri hj c; omega
/-- what stands of the picked ones stands there -/
theorem SubOk.of_stands (R : RiL os.length l) {T : Nat → Bool} (s : Stands h (picks os l) T) : SubOk h os l (lastL l T) := by
  have ln := picks_length R.lt
  refine ⟨lastL_ri R T, lastL_sub, fun i hi k hk hki e => ?_, fun n => ?_⟩
  · obtain ⟨j, hj, tj, rfl⟩ := mem_lastL.mp hi
    obtain ⟨m, hm, rfl⟩ := at_of_mem hk
    refine mem_lastL.mpr ⟨m, hm, s.cl j m tj (ri_lt R hm hj hki) (by omega) ?_, rfl⟩
    rw [pick_py R hm, pick_py R hj]; exact e
  · have := s.nn n
    unfold bal at this
    rw [pick_sum R] at this
    exact this
/-- and the other way about -/
theorem SubOk.stands (R : RiL os.length l) {u : List Nat} (s : SubOk h os l u) : Stands h (picks os l) fun j => decide (l.getD j 0 ∈ u) := by
  have ln := picks_length R.lt
  refine ⟨fun j k hj hk hl e => ?_, fun n => ?_⟩
  · rw [ln] at hl
    have hkl : k < l.length := by omega
    rw [pick_py R hkl, pick_py R hl] at e
    exact decide_eq_true (s.cl _ (of_decide_eq_true hj) _ (List.mem_of_getElem? (getD_at hkl)) (ri_at R.ri hl hk) e)
  · have := s.nn n
    unfold bal
    rw [pick_sum R]
    have e : lastL l (fun j => decide (l.getD j 0 ∈ u)) = u := ri_eq (lastL_ri R _) s.ri fun i => by
      rw [mem_lastL]
      refine ⟨fun ⟨j, _, h2, e⟩ => e ▸ of_decide_eq_true h2, fun hi => ?_⟩
      obtain ⟨j, hj, rfl⟩ := at_of_mem (s.sub i hi)
      exact ⟨j, hj, decide_eq_true hi, rfl⟩
    unfold lastL at e
    rw [e]; exact this
theorem SubOk.most (R : RiL os.length l) {T : Nat → Bool} (g : Great h (picks os l) T) {u : List Nat} (s : SubOk h os l u) : ∀ i ∈ u, i ∈ lastL l T := fun i hi => by
  obtain ⟨j, hj, rfl⟩ := at_of_mem (s.sub i hi)
  have ln := picks_length R.lt
  exact mem_lastL.mpr ⟨j, hj, g.ov _ (s.stands R) j (by omega) (decide_eq_true hi), rfl⟩
/-- of fewer orders, all those of some payers -/
theorem SubOk.wide {l' u : List Nat} (s : SubOk h os l' u) (sub : ∀ i ∈ l', i ∈ l) (all : ∀ i ∈ l', ∀ k ∈ l, payer os k = payer os i → k ∈ l') : SubOk h os l u :=
  ⟨s.ri, fun i hi => sub i (s.sub i hi), fun i hi k hk hki e => s.cl i hi k (all i (s.sub i hi) k hk e) hki e, s.nn⟩
end
/-- what stands at the law's turns: what was settled, and what is left -/
structure Led (fr h : DI) (os : List O) (S : Nat → Bool) (l stl : List Nat) : Prop where
  st : Stands fr os S
  le : l = (List.range os.length).filter fun i => !S i
  nd : stl.Nodup
  mem : ∀ i, i ∈ stl ↔ i < os.length ∧ S i = true
  has : ∀ n, getI h n = bal fr os S n
section
variable {fr h : DI} {os : List O} {S : Nat → Bool} {l stl : List Nat}
theorem Led.ri (L : Led fr h os S l stl) : RiL os.length l := L.le ▸ RiL.filter _ _
theorem Led.in_l (L : Led fr h os S l stl) {i : Nat} : i ∈ l ↔ i < os.length ∧ S i = false := by
  rw [L.le, List.mem_filter, List.mem_range]
  cases S i <;> simp
theorem sum_or (f : Nat → Int) (S u : Nat → Bool) : ∀ r : List Nat, (∀ i ∈ r, S i = true → u i = false) → (r.map fun i => if (S i || u i) = true then f i else 0).sum = (r.map fun i => if S i = true then f i else 0).sum + (r.map fun i => if u i = true then f i else 0).sum
  | [], _ => rfl
  | i :: r, d => by
    have ih := sum_or f S u r fun j hj => d j (List.mem_cons_of_mem _ hj)
    have di := d i (by simp)
    simp only [List.map_cons, List.sum_cons] at ih ⊢
    rw [ih]
    cases hS : S i with
    | true => rw [di hS]; simp; omega
    | false => cases u i <;> simp <;> omega
theorem Led.bal_or (L : Led fr h os S l stl) {u : List Nat} (ri : u.Pairwise (· < ·)) (sub : ∀ i ∈ u, i ∈ l) (n : Str) : bal fr os (fun i => S i || decide (i ∈ u)) n = getI h n + (u.map (flowAt os · n)).sum := by
  rw [L.has n]
  unfold bal sumP
  have lt : ∀ i ∈ u, i < os.length := fun i hi => (L.in_l.mp (sub i hi)).1
  rw [sum_or (fun i => flowAt os i n) S (fun i => decide (i ∈ u)) _ fun i _ hS => decide_eq_false fun hu => by
    have := (L.in_l.mp (sub i hu)).2
    rw [hS] at this; cases this]
  have e : (u.map (flowAt os · n)).sum = ((List.range os.length).map fun i => if decide (i ∈ u) = true then flowAt os i n else 0).sum := by
    rw [← sum_filter]
    have : u = (List.range os.length).filter (inL u) := filter_of ri lt
    conv => lhs; rw [this]
    rfl
  rw [e]; omega
/-- what stands in what is left is settled, too -/
theorem Led.step (L : Led fr h os S l stl) {u : List Nat} (s : SubOk h os l u) {h' : DI} (hh : ∀ n, getI h' n = getI h n + (u.map (flowAt os · n)).sum) :
    Led fr h' os (fun i => S i || decide (i ∈ u)) (l.filter fun i => !decide (i ∈ u)) (stl ++ u) := by
  refine ⟨⟨fun i k hi hk hl e => ?_, fun n => ?_⟩, ?_, ?_, fun i => ?_, fun n => ?_⟩
  · have hi : (S i || decide (i ∈ u)) = true := hi
    show (S k || decide (k ∈ u)) = true
    cases hS : S k with
    | true => rfl
    | false =>
      rw [Bool.false_or]
      have kl : k ∈ l := L.in_l.mpr ⟨by omega, hS⟩
      cases hSi : S i with
      | true => rw [L.st.cl i k hSi hk hl e] at hS; cases hS
      | false =>
        rw [hSi, Bool.false_or] at hi
        exact decide_eq_true (s.cl i (of_decide_eq_true hi) k kl hk e)
  · rw [L.bal_or s.ri s.sub n]; exact s.nn n
  · rw [L.le, List.filter_filter]
    refine List.filter_congr fun i _ => ?_
    cases S i <;> cases decide (i ∈ u) <;> rfl
  · refine List.nodup_append.mpr ⟨L.nd, s.ri.imp fun h => by omega, fun a ha b hb => ?_⟩
    rintro rfl
    have h1 := ((L.mem a).mp ha).2
    have h2 := (L.in_l.mp (s.sub a hb)).2
    rw [h1] at h2; cases h2
  · rw [List.mem_append, L.mem i, Bool.or_eq_true, decide_eq_true_eq]
    refine ⟨fun h => h.elim (fun ⟨a, b⟩ => ⟨a, .inl b⟩) fun hu => ⟨(L.in_l.mp (s.sub i hu)).1, .inr hu⟩, fun ⟨a, b⟩ => b.imp (fun b => ⟨a, b⟩) id⟩
  · rw [L.bal_or s.ri s.sub n, hh n]
theorem Led.within {P : Nat → Bool} (L : Led fr h os S l stl) (g : Great fr os P) : ∀ i ∈ stl, i ∈ (List.range os.length).filter P := fun i hi => by
  obtain ⟨a, b⟩ := (L.mem i).mp hi
  exact List.mem_filter.mpr ⟨List.mem_range.mpr a, g.ov S L.st i a b⟩
/-- with the greatest one of what is left all is the greatest one of all -/
theorem Led.whole (ok : ∀ o ∈ os, OkO o) {P T : Nat → Bool} (L : Led fr h os S l stl) (g : Great fr os P) (t : Great h (picks os l) T) : (stl ++ lastL l T).Perm ((List.range os.length).filter P) := by
  have R := L.ri
  have s := SubOk.of_stands R t.st
  have gr : Great fr os fun i => S i || decide (i ∈ lastL l T) := by
    refine ⟨⟨fun i k hi hk hl e => ?_, fun n => ?_⟩, fun A hA i hi hAi => ?_⟩
    · have hi : (S i || decide (i ∈ lastL l T)) = true := hi
      show (S k || decide (k ∈ lastL l T)) = true
      cases hS : S k with
      | true => rfl
      | false =>
        rw [Bool.false_or]
        have kl : k ∈ l := L.in_l.mpr ⟨by omega, hS⟩
        cases hSi : S i with
        | true => rw [L.st.cl i k hSi hk hl e] at hS; cases hS
        | false =>
          rw [hSi, Bool.false_or] at hi
          exact decide_eq_true (s.cl i (of_decide_eq_true hi) k kl hk e)
    · rw [L.bal_or s.ri s.sub n]; exact s.nn n
    · show (S i || decide (i ∈ lastL l T)) = true
      cases hS : S i with
      | true => rfl
      | false =>
        rw [Bool.false_or]
        have un := Stands.union ok L.st hA
        have sA : SubOk h os l (l.filter A) := by
          refine ⟨(R.pick A).ri, fun j hj => (List.mem_filter.mp hj).1, fun j hj k hk hkj e => ?_, fun n => ?_⟩
          · obtain ⟨j1, j2⟩ := List.mem_filter.mp hj
            exact List.mem_filter.mpr ⟨hk, hA.cl j k j2 hkj (R.lt j j1) e⟩
          · have b := L.bal_or (u := l.filter A) (R.pick A).ri (fun j hj => (List.mem_filter.mp hj).1) n
            rw [← b]
            have := un.nn n
            unfold bal sumP at this ⊢
            have z : (List.range os.length).map (fun i => if (S i || decide (i ∈ l.filter A)) = true then flowAt os i n else 0) = (List.range os.length).map (fun i => if (S i || A i) = true then flowAt os i n else 0) := by
              refine List.map_congr_left fun j hj => ?_
              have : (S j || decide (j ∈ l.filter A)) = (S j || A j) := by
                cases hSj : S j with
                | true => rfl
                | false =>
                  rw [Bool.false_or, Bool.false_or]
                  have jl : j ∈ l := L.in_l.mpr ⟨List.mem_range.mp hj, hSj⟩
                  cases hAj : A j with
                  | true => exact decide_eq_true (List.mem_filter.mpr ⟨jl, hAj⟩)
                  | false => exact decide_eq_false fun z => by rw [(List.mem_filter.mp z).2] at hAj; cases hAj
              rw [this]
            rw [z]; exact this
        exact decide_eq_true (SubOk.most R t sA i (List.mem_filter.mpr ⟨L.in_l.mpr ⟨hi, hS⟩, hAi⟩))
  have e := Great.uniq g gr
  rw [e]
  refine (List.perm_ext_iff_of_nodup ?_ ?_).mpr fun i => ?_
  · refine List.nodup_append.mpr ⟨L.nd, s.ri.imp fun h => by omega, fun a ha b hb => ?_⟩
    rintro rfl
    have h1 := ((L.mem a).mp ha).2
    have h2 := (L.in_l.mp (s.sub a hb)).2
    rw [h1] at h2; cases h2
  · exact List.Pairwise.filter _ List.nodup_range
  · rw [List.mem_append, L.mem i, List.mem_filter, List.mem_range, Bool.or_eq_true, decide_eq_true_eq]
    refine ⟨fun h => h.elim (fun ⟨a, b⟩ => ⟨a, .inl b⟩) fun hu => ⟨(L.in_l.mp (s.sub i hu)).1, .inr hu⟩, fun ⟨a, b⟩ => b.imp (fun b => ⟨a, b⟩) id⟩
end
end My
set_option Elab.async false
set_option maxRecDepth 100000
set_option maxHeartbeats 800000
namespace My
open PySem L2 TL StX
/-- of each payer the first ones, so many as g says -/
def firstsAt (os : List O) (g : DI) : Nat → List Nat × DI
  | 0 => ([], g)
  | k + 1 => match os[k]? with
    | some o => if 0 < getI (firstsAt os g k).2 o.py then ((firstsAt os g k).1 ++ [k], putI (firstsAt os g k).2 o.py (getI (firstsAt os g k).2 o.py - 1)) else firstsAt os g k
    | none => firstsAt os g k
theorem firstsAt_len (os : List O) (g : DI) : ∀ k, (firstsAt os g k).1.length ≤ k ∧ (firstsAt os g k).2.length ≤ g.length + k
  | 0 => ⟨Nat.le_refl _, Nat.le_refl _⟩
  | k + 1 => by
    have ih := firstsAt_len os g k
    unfold firstsAt
    split
    · rename_i o _
      split
      · have := len_put (h := (firstsAt os g k).2) (n := o.py) (v := getI (firstsAt os g k).2 o.py - 1)
        refine ⟨?_, ?_⟩
        · show ((firstsAt os g k).1 ++ [k]).length ≤ _
          rw [List.length_append]; show _ + 1 ≤ _; omega
        · show (putI _ _ _).length ≤ _; omega
      · exact ⟨by omega, by omega⟩
    · exact ⟨by omega, by omega⟩
theorem firstsAt_some {os : List O} {g : DI} {k : Nat} {o : O} (h : os[k]? = some o) : firstsAt os g (k + 1) = if 0 < getI (firstsAt os g k).2 o.py then ((firstsAt os g k).1 ++ [k], putI (firstsAt os g k).2 o.py (getI (firstsAt os g k).2 o.py - 1)) else firstsAt os g k := by
  show (match os[k]? with | some o => _ | none => _) = _
  rw [h]
theorem firstsAt_none {os : List O} {g : DI} {k : Nat} (h : os[k]? = none) : firstsAt os g (k + 1) = firstsAt os g k := by
  show (match os[k]? with | some o => _ | none => _) = _
  rw [h]
theorem firstsAt_mem (os : List O) (g : DI) : ∀ k i, i ∈ (firstsAt os g k).1 ↔ i < k ∧ ∃ o, os[i]? = some o ∧ 0 < getI (firstsAt os g i).2 o.py
  | 0, i => by simp [firstsAt]
  | k + 1, i => by
    have ih := firstsAt_mem os g k i
    cases e : os[k]? with
    | none =>
      rw [firstsAt_none e, ih]
      refine ⟨fun ⟨h1, h2⟩ => ⟨by omega, h2⟩, fun ⟨h1, o, h2, h3⟩ => ⟨?_, o, h2, h3⟩⟩
      by_cases c : i = k
      · subst c; rw [e] at h2; cases h2
      · omega
    | some o =>
      rw [firstsAt_some e]
      by_cases c : 0 < getI (firstsAt os g k).2 o.py
      · rw [if_pos c]
        show i ∈ (firstsAt os g k).1 ++ [k] ↔ _
        rw [List.mem_append, List.mem_singleton, ih]
        refine ⟨fun h => h.elim (fun ⟨h1, h2⟩ => ⟨by omega, h2⟩) fun h => by subst h; exact ⟨by omega, o, e, c⟩, fun ⟨h1, h2⟩ => ?_⟩
        by_cases d : i = k
        · exact .inr d
        · exact .inl ⟨by omega, h2⟩
      · rw [if_neg c, ih]
        refine ⟨fun ⟨h1, h2⟩ => ⟨by omega, h2⟩, fun ⟨h1, o', h2, h3⟩ => ⟨?_, o', h2, h3⟩⟩
        by_cases d : i = k
        · subst d; rw [e] at h2; obtain rfl := Option.some.inj h2; exact absurd h3 c
        · omega
theorem firstsAt_rise (os : List O) (g : DI) : ∀ k, (firstsAt os g k).1.Pairwise (· < ·)
  | 0 => List.Pairwise.nil
  | k + 1 => by
    have ih := firstsAt_rise os g k
    cases e : os[k]? with
    | none => rw [firstsAt_none e]; exact ih
    | some o =>
      rw [firstsAt_some e]
      split
      · refine List.pairwise_append.mpr ⟨ih, by simp, fun a ha b hb => ?_⟩
        rw [List.mem_singleton] at hb; subst hb
        exact ((firstsAt_mem os g _ a).mp ha).1
      · exact ih
theorem firstsAt_down (os : List O) (g : DI) (x : Str) : ∀ k m, k ≤ m → getI (firstsAt os g m).2 x ≤ getI (firstsAt os g k).2 x := by
  intro k m h
  induction m with
  | zero => obtain rfl : k = 0 := by omega
            exact Int.le_refl _
  | succ m ih =>
    by_cases c : k = m + 1
    · subst c; exact Int.le_refl _
    · refine Int.le_trans ?_ (ih (by omega))
      cases e : os[m]? with
      | none => rw [firstsAt_none e]; exact Int.le_refl _
      | some o =>
        rw [firstsAt_some e]
        split
        · show getI (putI _ _ _) x ≤ _
          rw [getI_put]
          split
          · rename_i h; subst h; omega
          · exact Int.le_refl _
        · exact Int.le_refl _
theorem firstsAt_closed (os : List O) (g : DI) : ∀ i ∈ (firstsAt os g os.length).1, ∀ k, k < i → payer os k = payer os i → k ∈ (firstsAt os g os.length).1 := by
  intro i hi k hk e
  obtain ⟨hl, o, ho, h0⟩ := (firstsAt_mem os g _ i).mp hi
  refine (firstsAt_mem os g _ k).mpr ⟨by omega, ?_⟩
  unfold payer at e
  rw [ho] at e
  obtain ⟨o', ho', e'⟩ := Option.map_eq_some_iff.mp e
  refine ⟨o', ho', ?_⟩
  rw [show o'.py = o.py from e']
  exact Int.lt_of_lt_of_le h0 (firstsAt_down os g o.py k i (by omega))

/-- of a rising list of places the first ones of each payer -/
def firstsL (os : List O) (l : List Nat) (g : DI) (k : Nat) : List Nat := (firstsAt (picks os l) g k).1.map fun j => l.getD j 0
section
variable {h : DI} {os : List O} {l : List Nat}
theorem firstsL_lt {g : DI} {j : Nat} (R : RiL os.length l) (hj : j ∈ (firstsAt (picks os l) g l.length).1) : j < l.length := ((firstsAt_mem _ _ _ j).mp hj).1
theorem firstsL_ok (R : RiL os.length l) (g : DI) (nn : ∀ n, 0 ≤ getI h n + ((firstsL os l g l.length).map (flowAt os · n)).sum) : SubOk h os l (firstsL os l g l.length) := by
  have ln := picks_length R.lt
  have mem : ∀ i, i ∈ firstsL os l g l.length ↔ ∃ j, j ∈ (firstsAt (picks os l) g l.length).1 ∧ l.getD j 0 = i := fun i => List.mem_map
  refine ⟨?_, fun i hi => ?_, fun i hi k hk hki e => ?_, nn⟩
  · refine List.pairwise_map.mpr (List.Pairwise.imp_of_mem ?_ (firstsAt_rise (picks os l) g l.length))
    intro a b _ hb hab
    exact ri_at R.ri (firstsL_lt R hb) hab
  · obtain ⟨j, hj, rfl⟩ := (mem i).mp hi
    exact List.mem_of_getElem? (getD_at (firstsL_lt R hj))
  · obtain ⟨j, hj, rfl⟩ := (mem i).mp hi
    have jl := firstsL_lt R hj
    obtain ⟨m, hm, rfl⟩ := at_of_mem hk
    refine (mem _).mpr ⟨m, ?_, rfl⟩
    have := firstsAt_closed (picks os l) g
    rw [ln] at this
    exact this j hj m (ri_lt R hm jl hki) (by rw [pick_py R hm, pick_py R jl]; exact e)
end
section
variable {P : Program} {w : World} {K : PySem.W.Frag} {mg : Str → Option Value} {base : Heap}
def sp_firsts : Sp := fun vs H Q _ => ∃ pl pp pc os rs l g, vs = [.ref pl, .ref pp, .ref pc] ∧ H pl = some (.lst (rs.map V.ref)) ∧ Ords H rs os ∧ os.length ≤ 60 ∧ H pp = some (.lst (nats l)) ∧ RiL os.length l ∧ H pc = some (.dK (kvI g)) ∧ g.length ≤ 1000 ∧
  ∀ p H', H p = none → Keep [] H H' → H' p = some (.lst (nats (firstsL os l g l.length))) → Q (.ref p) H'
theorem p__law_firsts (T : Txt K mg) : Pr P w K mg base "_law_firsts" s__law_firsts ["lot", "left", "counts"] 1 sp_firsts := by
  obtain ⟨f, fd, D⟩ := T.d__law_firsts
  
  refine ⟨f, fd, D, D.F.ok sc__law_firsts (fun vs H Q E h => ?_) (fun cdv A outer s H vs Q E hr h => ?_)⟩
  · obtain ⟨a, b, c, d, e, i, j, rfl, _⟩ := h; rfl
  · obtain ⟨po, pp, pc, os, rs, l, g, rfl, ho, hO, l60, hpp, R, hc, lg, q⟩ := h
    have hsl : sizeLine = 16777216 := sizeLine_eq
    have hu := hu_of hr
    have ll := R.len
    have ln := picks_length R.lt
    refine ⟨_, (pss_cons (ps_par (i := 3) (j := 4) (by rfl) sc__law_firsts.nd rfl rfl (by decide) rfl rfl (pa_cons (pe_lst pa_nil) (pa_cons (pe_callTy call_dictD (by rfl) T.z_dict (by decide +kernel) (pa_cons (pv 2) pa_nil)) pa_nil)) (by rfl))
      (pss_cons (ps_for PassesOwn.never rfl (pi_list (pv 1)) (pg_name (i := 5) sc__law_firsts.nd rfl (Or.inl rfl)) (pss_one (ps_if (pt_cmpR op_gt (pe_dget2 hu (pv 4) (pe_ix ix_tup (pe_ix ix_list (pv 0) (pv 5) (fun _ _ => rfl)) pe_int (fun _ _ => rfl)) pe_int ⟨rfl, rfl, rfl, rfl⟩) pe_int (nomark _)) (pss_cons (ps_dput hu (pv 4) (pe_ix ix_tup (pe_ix ix_list (pv 0) (pv 5) (fun _ _ => rfl)) pe_int (fun _ _ => rfl)) (pe_op op_sub (pe_dget hu (pv 4) (pe_ix ix_tup (pe_ix ix_list (pv 0) (pv 5) (fun _ _ => rfl)) pe_int (fun _ _ => rfl)) (fun _ _ => rfl)) pe_int) rfl)
      (pss_one (ps_expr (pe_bm PySem.F.plainAttrs_list PySem.F.slot_list_append PySem.F.type_list_append mt_append (pv 3) (pa_cons (pv 5) pa_nil))))) pss_nil)))
      (pss_one (ps_ret (pv 3))))), ?_⟩
    refine ⟨Nat.zero_le _, fun p hp => ?_⟩
    have hc1 := Keep.upd_new (ds := []) hp (o := .lst []) _ _ hc (by simp)
    refine ⟨_, rfl, pc, _, rfl, .inl hc1, fun d hd => ?_⟩
    have K0 : Keep [] H (upd (upd H p (.lst [])) d (.dK (kvI g))) := (Keep.upd_new hp).trans (Keep.upd_new hd)
    have hp0 : (upd (upd H p (.lst [])) d (.dK (kvI g))) p = some (.lst (nats (firstsL os l g 0))) := Keep.upd_new (ds := []) hd _ _ upd_same (by simp)
    have hd0 : (upd (upd H p (.lst [])) d (.dK (kvI g))) d = some (.dK (kvI g)) := upd_same
    have hdn : H d = none := (Keep.upd_new (ds := []) hp).none_of hd (by simp)
    generalize upd (upd H p (.lst [])) d (.dK (kvI g)) = H1 at K0 hp0 hd0
    refine ⟨_, _, rfl, _, rfl, pp, rfl, ⟨_, SqL.of (K0 _ _ hpp (by simp))⟩, for_list (K := K) (a := pp) (xs := nats l) (fun i σ H2 => Keep [] H H2 ∧ H2 p = some (.lst (nats (firstsL os l g i))) ∧ H2 d = some (.dK (kvI (firstsAt (picks os l) g i).2)) ∧ ∃ v5, σ = [some (.ref po), some (.ref pp), some (.ref pc), some (.ref p), some (.ref d), v5]) ⟨K0, hp0, hd0, none, rfl⟩ (fun i σ H2 _ ⟨k, _⟩ => SqL.of (k _ _ hpp (by simp))) ?_ ?_⟩
    · rintro i x σ H3 hi ⟨K3, hp3, hd3, v5, rfl⟩
      have il := (List.getElem?_eq_some_iff.mp hi).1
      rw [List.length_map] at il
      have hj := getD_at il
      generalize ej : l.getD i 0 = j at hj
      rw [List.getElem?_map, hj] at hi
      obtain rfl : V.int (j : Nat) = x := Option.some.inj hi
      have jl := R.lt j (List.mem_of_getElem? hj)
      obtain ⟨o, hoj⟩ : ∃ o, os[j]? = some o := ⟨_, List.getElem?_eq_getElem jl⟩
      obtain ⟨r, hr1, hr2⟩ := (hO.keep K3).at hoj
      have hrr : (rs.map V.ref)[j]? = some (.ref r) := by rw [List.getElem?_map, hr1]; rfl
      have hr3 : H3 r = some (.tup [.str "order", .str o.py, .str o.pe, .int o.m, .int o.r, .int o.s, .int o.e]) := hr2
      have ho3 := K3 _ _ ho (by simp)
      have L := firstsAt_len (picks os l) g i
      have hoi : (picks os l)[i]? = some o := by rw [picks_at R.lt, hj]; exact hoj
      have step := firstsAt_some (g := g) hoi
      refine ⟨_, rfl, d, rfl, IsD_kvI hd3, _, rfl, _, rfl, po, _, j, _, rfl, rfl, SqL.of ho3, atI_nat hrr, r, _, 1, _, rfl, rfl, SqT.of hr3, rfl, _, get_kvI hd3, ?_⟩
      rw [getD_kvI]
      refine ⟨_, _, rfl, rfl, _, rfl, ?_⟩
      by_cases c0 : 0 < getI (firstsAt (picks os l) g i).2 o.py
      · rw [if_pos c0] at step
        rw [decide_eq_true c0]
        refine iteT ?_
        obtain ⟨v, hv⟩ : ∃ v, lookI (firstsAt (picks os l) g i).2 o.py = some v := by
          cases e : lookI (firstsAt (picks os l) g i).2 o.py with
          | some v => exact ⟨v, rfl⟩
          | none => unfold getI at c0; rw [e] at c0; exact absurd c0 (by decide)
        have gv : getI (firstsAt (picks os l) g i).2 o.py = v := by unfold getI; rw [hv]; rfl
        rw [gv] at step
        have dg : DGet H3 d (.str o.py) (some (.int v)) := by
          have := get_kvI (n := o.py) hd3
          rw [hv] at this; exact this
        refine ⟨_, rfl, _, rfl, _, rfl, po, _, j, _, rfl, rfl, SqL.of ho3, atI_nat hrr, r, _, 1, _, rfl, rfl, SqT.of hr3, rfl, d, .int v, rfl, dg, _, _, rfl, rfl, ?_⟩
        refine ⟨_, rfl, _, rfl, _, rfl, po, _, j, _, rfl, rfl, SqL.of ho3, atI_nat hrr, r, _, 1, _, rfl, rfl, SqT.of hr3, rfl, d, _, rfl, DPutS hd3 (by unfold kvI; rw [List.length_map]; omega), ?_⟩
        have e3 : putK (kvI (firstsAt (picks os l) g i).2) (Sum.inr o.py) (.int (v - 1)) = kvI (putI (firstsAt (picks os l) g i).2 o.py (v - 1)) := putK_kvI
        rw [e3]
        have npd : p ≠ d := ne_of hp3 hd3 (by intro z; cases z)
        have hp4 : (upd H3 d (.dK (kvI (putI (firstsAt (picks os l) g i).2 o.py (v - 1))))) p = some (.lst (nats (firstsL os l g i))) := by rw [upd_ne npd]; exact hp3
        refine ⟨_, rfl, .inl ⟨rfl, _, SqL.of hp4⟩, _, rfl, p, _, _, rfl, rfl, hp4, by unfold nats firstsL; rw [List.length_map, List.length_map]; omega, ?_⟩
        refine ⟨(K3.trans_new hdn).trans_new hp, ?_, by rw [upd_ne npd.symm, upd_same, step], _, rfl⟩
        rw [upd_same]
        unfold firstsL nats
        rw [step, List.map_append, List.map_append, List.map_cons, ej]; rfl
      · rw [if_neg c0] at step
        rw [decide_eq_false c0]
        refine iteF ⟨K3, ?_, by rw [step]; exact hd3, _, rfl⟩
        unfold firstsL
        rw [step]; exact hp3
    · rintro σ H2 ⟨K2, hp2, hd2, v5, rfl⟩
      have : (nats l).length = l.length := List.length_map ..
      rw [this] at hp2
      exact ⟨_, rfl, q p H2 hp K2 hp2⟩
end
end My
set_option Elab.async false
set_option maxRecDepth 100000
set_option maxHeartbeats 800000
set_option linter.unusedVariables false
namespace My
open PySem L2 TL StX
/-! what lacks -/
theorem kvI_keys {h : DI} (nd : (h.map (·.1)).Nodup) : ((kvI h).map (·.1)).Nodup := by
  have e : (kvI h).map (·.1) = (h.map (·.1)).map Sum.inr := by unfold kvI; rw [List.map_map, List.map_map]; rfl
  rw [e]
  exact List.pairwise_map.mpr (nd.imp fun h z => h (Sum.inr.inj z))
theorem frz_get {H8 : Hp} {pf : Addr} {od : Obj} {fr : DI} {p : Str × Int} (nd : (fr.map (·.1)).Nodup) (h : H8 pf = some (.frz od (.dK (kvI fr)))) (hp : p ∈ fr) : DGet H8 pf (.str p.1) (some (.int p.2)) := by
  have e1 : valV (kvI fr) (Sum.inr p.1) = some (.int p.2) := by rw [valV_kvI, lookI_mem nd (show (p.1, p.2) ∈ fr from hp)]; rfl
  exact .inl ⟨kvI fr, Sum.inr p.1, .inr ⟨od, h⟩, rfl, e1.symm⟩
def selN (s : Str → Bool) : V → Bool
  | .str n => s n
  | _ => false
section
variable {tt : TT} {te : TE} {k : Nat} {vs : List Nat} {σ : L2.St} {H : Hp} {Q : VK}
/-- of some names that have something, a pair -/
theorem lc_some {pf : Addr} {fr : DI} (hf : H pf = some (.dK (kvI fr))) (nd : (fr.map (·.1)).Nodup) (few : fr.length ≤ 1000) (s : Str → Bool) (φ : Int → Int) (hw : ∀ x, wipe ((wipe σ vs).set k (some x)) vs = wipe σ vs)
    (od : Obj) (test : ∀ p ∈ fr, ∀ H8, Keep [] (upd H pf (.frz od (.dK (kvI fr)))) H8 → ∀ F : Bool → Hp → Prop, (∀ H9, Keep [] H8 H9 → F (s p.1) H9) → tt ((wipe σ vs).set k (some (.str p.1))) H8 F)
    (step : ∀ p ∈ fr, ∀ H8, Keep [] (upd H pf (.frz od (.dK (kvI fr)))) H8 → ∀ R : VK, (∀ t H9, Keep [] H8 H9 → H9 t = some (.tup [.str p.1, .int (φ p.2)]) → R (.ref t) H9) → te ((wipe σ vs).set k (some (.str p.1))) H8 R)
    (fin : ∀ L ts H9, H L = none → H9 pf = some (.frz od (.dK (kvI fr))) → Keep [] H (upd H9 pf (.dK (kvI fr))) → (upd H9 pf (.dK (kvI fr))) L = some (.lst (ts.map V.ref)) → Paired (fun r (kv : Key × V) => (upd H9 pf (.dK (kvI fr))) r = some (.tup [kV kv.1, kv.2])) ts (kvI ((fr.filter fun p => s p.1).map fun p => (p.1, φ p.2))) → Q (.ref L) H9) :
    tLc (fun _ H R => R (Itk pf od (kvI fr)) H) (gName k) tt te vs σ (upd H pf (.frz od (.dK (kvI fr)))) Q := by
  refine lc_gen (walk_keys (d := pf) (o := od) (kvs := kvI fr)) (fr.map fun p => V.str p.1) (selN s) (fun x y H' => ∃ p t, p ∈ fr ∧ x = V.str p.1 ∧ y = V.ref t ∧ H' t = some (.tup [.str p.1, .int (φ p.2)])) ?_ ?_ ?_ (fun _ k => k _ _ upd_same (by simp)) (fun _ _ _ _ ⟨p, t, a, b, c, d⟩ k => ⟨p, t, a, b, c, k _ _ d⟩) hw (fun x hx H8 K8 F q => ?_) (fun x hx _ H8 K8 R q => ?_) fun L ys H9 hL K9 h9 P => ?_
  · rintro i H x H' hi ⟨rfl, k, v, e, rfl⟩
    refine ⟨rfl, ?_⟩
    unfold kvI at e
    rw [List.getElem?_map] at e ⊢
    obtain ⟨p, hp, e⟩ := Option.map_eq_some_iff.mp e
    rw [hp]
    injection e with e1 e2
    rw [← e1]; rfl
  · unfold kvI; rw [List.length_map, List.length_map]
  · unfold kvI; rw [List.length_map]; exact few
  · obtain ⟨p, hp, rfl⟩ := List.mem_map.mp hx
    exact test p hp H8 K8 F q
  · obtain ⟨p, hp, rfl⟩ := List.mem_map.mp hx
    exact step p hp H8 K8 R fun t H9 K9 h9 => q _ H9 K9 ⟨p, t, hp, rfl, rfl, h9⟩
  · have nLb : L ≠ pf := (ne_of_none (upd_same (H := H)) hL).symm
    have e0 : (fr.map fun p => V.str p.1).filter (selN s) = (fr.filter fun p => s p.1).map fun p => V.str p.1 := by
      rw [List.filter_map]; rfl
    rw [e0] at P
    have : ∀ {m : DI} {ys : List V}, (∀ p ∈ m, p ∈ fr) → Paired (fun x y => ∃ p t, p ∈ fr ∧ x = V.str p.1 ∧ y = V.ref t ∧ H9 t = some (.tup [.str p.1, .int (φ p.2)])) (m.map fun p => V.str p.1) ys →
        ∃ ts : List Addr, ys = ts.map V.ref ∧ Paired (fun r (kv : Key × V) => H9 r = some (.tup [kV kv.1, kv.2])) ts (kvI (m.map fun p => (p.1, φ p.2))) := by
      intro m
      induction m with
      | nil => intro ys _ h; cases h; exact ⟨[], rfl, .nil⟩
      | cons a r ih =>
        intro ys sub h
        cases h with
        | cons h t =>
          obtain ⟨p, t', pm, e1, rfl, e3⟩ := h
          obtain ⟨ts, rfl, P'⟩ := ih (fun q hq => sub q (List.mem_cons_of_mem _ hq)) t
          injection e1 with e1
          have : p = a := nodup_map_inj nd pm (sub a (by simp)) e1.symm
          subst this
          exact ⟨t' :: ts, rfl, .cons e3 P'⟩
    obtain ⟨ts, rfl, P'⟩ := this (fun p hp => (List.mem_filter.mp hp).1) P
    refine fin L ts H9 (by rw [upd_ne nLb] at hL; exact hL) (K9 _ _ upd_same (by simp)) (Keep.unlock hf K9) (by rw [upd_ne nLb]; exact h9) (Paired.mapP P' fun r kv e => ?_)
    have e : H9 r = some (.tup [kV kv.1, kv.2]) := e
    rw [upd_ne (ne_of e (K9 _ _ upd_same (by simp)) (by intro z; cases z))]
    exact e
end
/-- what each name that is below 0 lacks -/
def lackI (b : DI) : DI := (b.filter fun p => decide (p.2 < 0)).map fun p => (p.1, 0 - p.2)
theorem lack_keys {b : DI} (nd : (b.map (·.1)).Nodup) : ((lackI b).map (·.1)).Nodup := by
  unfold lackI
  rw [List.map_map]
  exact nd.sublist (List.Sublist.map _ List.filter_sublist)
theorem lack_len {b : DI} : (lackI b).length ≤ b.length := by
  unfold lackI
  rw [List.length_map]; exact List.length_filter_le _ _
theorem lack_sel {b : DI} (nd : (b.map (·.1)).Nodup) : b.filter (fun p => decide (getI b p.1 < 0)) = b.filter fun p => decide (p.2 < 0) := by
  refine List.filter_congr fun p hp => ?_
  unfold getI
  rw [lookI_mem nd (show (p.1, p.2) ∈ b from hp)]; rfl
section
variable {P : Program} {w : World} {K : PySem.W.Frag} {mg : Str → Option Value} {base : Heap}
def sp_lacks : Sp := fun vs H Q _ => ∃ pf pl fr os rs, vs = [.ref pf, .ref pl] ∧ H pf = some (.dK (kvI fr)) ∧ H pl = some (.lst (rs.map V.ref)) ∧ Ords H rs os ∧ OkF fr ∧ fr.length ≤ 800 ∧ os.length ≤ 60 ∧
  ∀ p H', H p = none → Keep [] H H' → H' p = some (.dK (kvI (lackI (os.foldl stepI fr)))) → Q (.ref p) H'
theorem picks_all (os : List O) : picks os (List.range os.length) = os := by
  refine List.ext_getElem? fun j => ?_
  rw [picks_at (fun i hi => List.mem_range.mp hi)]
  by_cases h : j < os.length
  · rw [List.getElem?_range h]; rfl
  · rw [List.getElem?_eq_none (by simpa using h), List.getElem?_eq_none (by omega)]; rfl
theorem p__law_lacks (T : Txt K mg) : Pr P w K mg base "_law_lacks" s__law_lacks ["means", "lot"] 2 sp_lacks := by
  obtain ⟨f, fd, D⟩ := T.d__law_lacks
  obtain ⟨f__law_behind, fd__law_behind, D__law_behind, G__law_behind⟩ := p__law_behind (P := P) (w := w) (base := base) T
  refine ⟨f, fd, D, D.F.ok sc__law_lacks (fun vs H Q E h => ?_) (fun cdv A outer s H vs Q E hr h => ?_)⟩
  · obtain ⟨a, b, c, d, e, rfl, _⟩ := h; rfl
  · obtain ⟨pf, po, fr, os, rs, rfl, hf, ho, hO, F, size, l60, q⟩ := h
    have hsl : sizeLine = 16777216 := sizeLine_eq
    have hu := hu_of hr
    have lr : (rs.map V.ref).length = os.length := by rw [List.length_map]; exact hO.len
    refine ⟨_, (pss_cons (ps_set (i := 2) sc__law_lacks.nd rfl (Or.inr rfl) (pe_call G__law_behind (hr.mono (by decide)) rfl D__law_behind.m D__law_behind.F.kp D__law_behind.b .nil pass0 (pa_cons (pv 0) (pa_cons (pv 1) (pa_cons (pe_listRg rfl (by rfl) T.z_list (prg_1 (by rfl) T.z_range (pe_callB call_len_seq (by rfl) T.z_len (by decide +kernel) (pa_cons (pv 1) pa_nil)))) pa_nil)))))
      (pss_one (ps_ret (pe_callTy (call_dictP rfl) (by rfl) T.z_dict (by decide +kernel) (pa_cons (pe_lock (pe_lc (own := [("name", 3)]) (g := gName 3) rfl sc__law_lacks.nd (pi_keys (pv 2)) (blkOk_by (own := [("name", 3)]) (N := N__law_lacks) (sc := defScope s__law_lacks) (by decide +kernel)) (fun _ _ _ _ _ => (pg_name (i := 3) sc__law_lacks.nd rfl (Or.inl rfl))) (fun _ _ _ _ _ => pts_one (pt_cmpR op_lt (pe_dget hu (pv 2) (pv 3) (fun _ _ => rfl)) pe_int (nomark _))) (fun _ _ _ _ _ => (pe_tup (pa_cons (pv 3) (pa_cons (pe_op op_sub pe_int (pe_dget hu (pv 2) (pv 3) (fun _ _ => rfl))) pa_nil)))))) pa_nil))))), ?_⟩
    refine ⟨_, rfl, _, rfl, _, rfl, po, _, rfl, .inl (SqL.of ho), ?_⟩
    rw [lr]
    refine ⟨_, rfl, RgOk.of_le (by omega) (by omega) (by omega) (by omega), fun pr hpr => ?_⟩
    rw [rgV_nat]
    have K1 := Keep.upd_new (ds := []) hpr (o := .lst (nats (List.range os.length)))
    have h1 : (upd H pr (.lst (nats (List.range os.length)))) pr = _ := upd_same
    generalize upd H pr (.lst (nats (List.range os.length))) = H1 at K1 h1
    refine ⟨pf, po, pr, fr, os, rs, List.range os.length, rfl, K1 _ _ hf (by simp), K1 _ _ ho (by simp), hO.keep K1, F.size, h1, fun i hi => List.mem_range.mp hi, by rw [List.length_range]; exact l60, fun pb H2 hpb K2 h2 => ?_⟩
    rw [picks_all] at h2
    have nd : ((os.foldl stepI fr).map (·.1)).Nodup := fold_nd F.nd os
    have fl := fold_len (fr := fr) os
    have K02 := K1.trans K2
    generalize os.foldl stepI fr = b at h2 nd fl q
    have es := lack_sel nd
    refine ⟨pb, _, h2, trivial, fun od => ⟨_, rfl, pb, od, rfl, .inl ⟨_, upd_same, lc_do fun Q hQ => lc_some h2 nd (by omega) (fun n => decide (getI b n < 0)) (fun i => 0 - i) (fun _ => rfl) od (fun p hp H8 K8 F q => ?_) (fun p hp H8 K8 R q => ?_) fun L ts H3 hnL fz K3 hL pr => hQ L H3 ⟨fz, ?_⟩⟩⟩⟩
    · have e : getI b p.1 = p.2 := by
        unfold getI
        rw [lookI_mem nd (show (p.1, p.2) ∈ b from hp)]; rfl
      have h8 : H8 pb = some (.frz od (.dK (kvI b))) := K8 _ _ upd_same (by simp)
      rw [e] at q
      exact ⟨_, rfl, _, rfl, pb, _, rfl, frz_get nd h8 hp, _, _, rfl, rfl, _, rfl, q H8 Keep.refl⟩
    · have h8 : H8 pb = some (.frz od (.dK (kvI b))) := K8 _ _ upd_same (by simp)
      refine ⟨_, rfl, _, rfl, _, rfl, pb, _, rfl, frz_get nd h8 hp, _, _, rfl, rfl, by show 2 ≤ sizeLine; omega, fun t ht => q t _ (Keep.upd_new ht) upd_same⟩
    clear hQ
    rw [es] at pr
    have e2 : (b.filter fun p => decide (p.2 < 0)).map (fun p => (p.1, 0 - p.2)) = lackI b := rfl
    rw [e2] at pr
    refine ⟨L, ts, _, rfl, hL, pr, kvI_keys (lack_keys nd), fun pd hpd => ?_⟩
    refine q pd _ ?_ ((K02.trans K3).trans (Keep.upd_new hpd)) upd_same
    exact (K02.trans K3).none_of hpd (by simp)
end
end My
set_option Elab.async false
set_option maxRecDepth 100000
set_option maxHeartbeats 1600000
set_option linter.unusedVariables false
set_option pp.maxSteps 4000
namespace My
open PySem L2 TL StX
section
variable {P : Program} {w : World} {K : PySem.W.Frag} {mg : Str → Option Value} {base : Heap}
theorem DrawAt.nlst {H : Hp} {d c p : Addr} {xs : List V} (D : DrawAt H d c) (h : H p = some (.lst xs)) : p ∉ [d] := fun z => by
  obtain rfl : p = d := by simpa using z
  obtain ⟨ns, k, l, m, h1, _⟩ := D
  rw [h1] at h; cases h
def sp_some : Sp := fun vs H Q _ => ∃ d c pf pl pp h os rs l, vs = [.ref d, .ref pf, .ref pl, .ref pp] ∧ DrawAt H d c ∧ pf ≠ d ∧ H pf = some (.dK (kvI h)) ∧ OkF h ∧ h.length ≤ 800 ∧ H pl = some (.lst (rs.map V.ref)) ∧ Ords H rs os ∧ (∀ o ∈ os, OkO o) ∧ os.length ≤ 60 ∧ H pp = some (.lst (nats l)) ∧ RiL os.length l ∧
  ∀ p u H', H p = none → DrawAt H' d c → Keep [d] H H' → H' p = some (.lst (nats u)) → SubOk h os l u → Q (.ref p) H'
abbrev tailSo (K : PySem.W.Frag) (E0 : XK) : TS := tSeq (tAsg (tCall sp_firsts [] E0 (tCons (tVar 2) (tCons (tVar 3) (tCons (tVar 6) tNil)))) (gName 10)) (tRet (tIf (tTest (tOp (rI0 fun i j => V.bl (decide (j ≤ i))) (tCKw (rMinDef K) (tCons (tListVals (tCall sp_behind [] E0 (tCons (tVar 1) (tCons (tVar 2) (tCons (tVar 10) tNil))))) tNil) (tCons (tC (V.int 0)) tNil)) (tC (V.int 0)))) (tVar 10) (tLst tNil)))
def inPart (os : List O) (part : List Str) (i : Nat) : Bool := match os[i]? with
  | some o => decide (o.py ∈ part)
  | none => false
theorem tail_so {E0 : XK} {D : Ends} {H0 H : Hp} {d c pf pl pp pc : Addr} {h g : DI} {os : List O} {rs : List Addr} {l : List Nat} {v4 v5 v7 v8 v9 : Option V} (D0 : DrawAt H0 d c) (nfd : pf ≠ d) (hf : H0 pf = some (.dK (kvI h))) (F : OkF h) (size : h.length ≤ 800) (ho : H0 pl = some (.lst (rs.map V.ref))) (hO : Ords H0 rs os) (G : ∀ o ∈ os, OkO o) (l60 : os.length ≤ 60) (hp : H0 pp = some (.lst (nats l))) (R : RiL os.length l)
    (hK : Keep [d] H0 H) (DH : DrawAt H d c) (hc : H pc = some (.dK (kvI g))) (lg : g.length ≤ 1000)
    (q : ∀ p u H', H0 p = none → DrawAt H' d c → Keep [d] H0 H' → H' p = some (.lst (nats u)) → SubOk h os l u → D.rt (.ref p) H') :
    tailSo K E0 D [some (.ref d), some (.ref pf), some (.ref pl), some (.ref pp), v4, v5, some (.ref pc), v7, v8, v9, none, none, none] H := by
  have hsl : sizeLine = 16777216 := sizeLine_eq
  have ll := R.len
  have hf1 := hK _ _ hf (by simpa using nfd)
  have ho1 := hK _ _ ho (D0.nlst ho)
  have hp1 := hK _ _ hp (D0.nlst hp)
  have O1 := hO.keepD hK D0.notup
  refine ⟨_, rfl, _, rfl, _, rfl, pl, pp, pc, os, rs, l, g, rfl, ho1, O1, l60, hp1, R, hc, lg, fun p H2 hp2 K2 h2 => ?_⟩
  have hp0 : H0 p = none := hK.none_of hp2 fun z => by
    obtain rfl : p = d := by simpa using z
    obtain ⟨ns, k, l, m, h1, _⟩ := DH
    rw [h1] at hp2; cases hp2
  have O2 := O1.keep K2
  have fl : (firstsL os l g l.length).length ≤ l.length := by
    unfold firstsL
    rw [List.length_map]
    exact (firstsAt_len (picks os l) g l.length).1
  have fs : ∀ i ∈ firstsL os l g l.length, i < os.length := fun i hi => by
    obtain ⟨j, hj, rfl⟩ := List.mem_map.mp hi
    exact R.lt _ (List.mem_of_getElem? (getD_at (firstsL_lt R hj)))
  have ok := firstsL_ok (h := h) R g
  generalize firstsL os l g l.length = u at h2 fl fs ok
  refine ⟨_, rfl, _, rfl, _, rfl, pf, pl, p, h, os, rs, u, rfl, K2 _ _ hf1 (by simp), K2 _ _ ho1 (by simp), O2, F.size, h2, fs, by omega, fun pb H3 hpb K3 h3 => ?_⟩
  have nd : (((picks os u).foldl stepI h).map (·.1)).Nodup := fold_nd F.nd _
  have gets : ∀ n, getI ((picks os u).foldl stepI h) n = getI h n + (u.map (flowAt os · n)).sum := fun n => picks_get G n u
  generalize (picks os u).foldl stepI h = b at h3 nd gets
  refine ⟨pb, _, rfl, h3, fun L hL => ?_⟩
  have ev : (kvI b).map (·.2) = (b.map (·.2)).map V.int := by unfold kvI; rw [List.map_map, List.map_map]; rfl
  rw [ev]
  have h2L := ((K3.trans (Keep.upd_new hL (o := .lst ((b.map (·.2)).map V.int)))) _ _ h2 (by simp))
  have K4 : Keep [] H (upd H3 L (.lst ((b.map (·.2)).map V.int))) := (K2.trans K3).trans (Keep.upd_new hL)
  have h4 : (upd H3 L (.lst ((b.map (·.2)).map V.int))) L = _ := upd_same
  generalize upd H3 L (.lst ((b.map (·.2)).map V.int)) = H4 at K4 h4 h2L
  have K24 : Keep [d] H0 H4 := hK.trans (K4.mono (by simp))
  have D4 := DH.keep K4
  have fin : ∀ m : Int, (0 ≤ m → ∀ x ∈ b, 0 ≤ x.2) → H4 p = some (.lst (nats u)) → (if decide (0 ≤ m) = true then tVar 10 ([some (V.ref d), some (V.ref pf), some (V.ref pl), some (V.ref pp), v4, v5, some (V.ref pc), v7, v8, v9, none, none, none].set 10 (some (V.ref p))) H4 D.rt else tLst tNil ([some (V.ref d), some (V.ref pf), some (V.ref pl), some (V.ref pp), v4, v5, some (V.ref pc), v7, v8, v9, none, none, none].set 10 (some (V.ref p))) H4 D.rt) := by
    intro m hm h5
    by_cases c0 : 0 ≤ m
    · rw [decide_eq_true c0]
      refine iteT ⟨_, rfl, q p u H4 hp0 D4 K24 h5 (ok fun n => ?_)⟩
      rw [← gets n]
      unfold getI
      cases e : lookI b n with
      | none => exact Int.le_refl 0
      | some v => exact hm c0 _ (mem_lookI e)
    · rw [decide_eq_false c0]
      refine iteF ⟨Nat.zero_le _, fun N hN => ?_⟩
      refine q N [] _ (K24.none_of hN fun z => ?_) (D4.keep (Keep.upd_new hN)) (K24.trans (Keep.upd_new hN)) upd_same (SubOk.nil F.get)
      obtain rfl : N = d := by simpa using z
      obtain ⟨ns, k, l, m, h1, _⟩ := D4
      rw [h1] at hN; cases hN
  refine ⟨L, b.map (·.2), 0, rfl, rfl, SqL.of h4, fun e0 => ?_, fun m hm le => ?_⟩
  · refine ⟨_, _, rfl, rfl, _, rfl, fin 0 (fun _ x hx => ?_) ?_⟩
    · have : x.2 ∈ b.map (·.2) := List.mem_map.mpr ⟨x, hx, rfl⟩
      rw [e0] at this; cases this
    · exact h2L
  · refine ⟨_, _, rfl, rfl, _, rfl, fin m (fun h0 x hx => ?_) ?_⟩
    · have := le x.2 (List.mem_map.mpr ⟨x, hx, rfl⟩)
      omega
    · exact h2L
theorem p__law_some (T : Txt K mg) : Pr P w K mg base "_law_some" s__law_some ["state", "means", "lot", "left"] 7 sp_some := by
  obtain ⟨f, fd, D⟩ := T.d__law_some
  obtain ⟨f__law_behind, fd__law_behind, D__law_behind, G__law_behind⟩ := p__law_behind (P := P) (w := w) (base := base) T; obtain ⟨f__law_firsts, fd__law_firsts, D__law_firsts, G__law_firsts⟩ := p__law_firsts (P := P) (w := w) (base := base) T; obtain ⟨f__law_pick, fd__law_pick, D__law_pick, G__law_pick⟩ := p__law_pick (P := P) (w := w) (base := base) T; obtain ⟨f__law_next, fd__law_next, D__law_next, G__law_next⟩ := p__law_next (P := P) (w := w) (base := base) T; obtain ⟨f_greatest, fd_greatest, D_greatest, G_greatest⟩ := p_greatest (P := P) (w := w) (base := base) T
  refine ⟨f, fd, D, D.F.ok sc__law_some (fun vs H Q E h => ?_) (fun cdv A outer s H vs Q E hr h => ?_)⟩
  · obtain ⟨a, b, c, d, e, g, i, j, k, rfl, _⟩ := h; rfl
  · obtain ⟨d, c, pf, pl, pp, h, os, rs, l, rfl, D0, nfd, hf, F, size, ho, hO, G, l60, hp, R, q⟩ := h
    have hsl : sizeLine = 16777216 := sizeLine_eq
    have hu := hu_of hr
    have ll := R.len
    refine ⟨_, (pss_cons (ps_set (i := 4) sc__law_some.nd rfl (Or.inl rfl) (pe_sst rfl (by rfl) T.z_sorted (by rfl) T.z_set (pe_lc (own := [("place", 11)]) (g := gName 11) (tt := tYes) rfl sc__law_some.nd (pi_list (pv 3)) (blkOk_by (own := [("place", 11)]) (N := N__law_some) (sc := defScope s__law_some) (by decide +kernel)) (fun _ _ _ _ _ => (pg_name (i := 11) sc__law_some.nd rfl (Or.inl rfl))) (fun _ _ _ _ _ => pts_nil) (fun _ _ _ _ _ => (pe_ix (ix_tupK (K := K) rfl) (pe_ix (ix_listK (K := K) rfl) (pv 2) (pv 11) (fun _ _ => rfl)) pe_int (fun _ _ => rfl))))))
      (pss_cons (ps_if (pt_cmpR (op_eqNil hr.units) (pv 4) (pe_lst pa_nil) (nomark _)) (pss_one (ps_ret (pe_lst pa_nil))) pss_nil)
      (pss_cons (ps_par (i := 5) (j := 6) (by rfl) sc__law_some.nd rfl rfl (by decide) rfl rfl (pa_cons (pe_call G__law_next (hr.mono (by decide)) rfl D__law_next.m D__law_next.F.kp D__law_next.b .nil pass0 (pa_cons (pv 0) (pa_cons pe_int pa_nil))) (pa_cons pe_dnewK pa_nil)) (by rfl))
      (pss_cons (ps_if (pt_cmpR op_eq (pv 5) pe_int (nomark _)) (pss_one (ps_dput hu (pv 6) (pe_call G__law_pick (hr.mono (by decide)) rfl D__law_pick.m D__law_pick.F.kp D__law_pick.b .nil pass0 (pa_cons (pv 0) (pa_cons (pv 4) pa_nil))) pe_int rfl)) (pss_one (ps_if (pt_cmpR op_eq (pv 5) pe_int (nomark _)) (pss_one (ps_for PassesOwn.never rfl (pi_list (pv 4)) (pg_name (i := 7) sc__law_some.nd rfl (Or.inl rfl)) (pss_one (ps_dput hu (pv 6) (pv 7) (pe_call G__law_next (hr.mono (by decide)) rfl D__law_next.m D__law_next.F.kp D__law_next.b .nil pass0 (pa_cons (pv 0) (pa_cons pe_int pa_nil))) rfl)))) (pss_cons (ps_set (i := 8) sc__law_some.nd rfl (Or.inr rfl) (pe_lc (own := [("name", 7)]) (g := gName 7) rfl sc__law_some.nd (pi_list (pv 4)) (blkOk_by (own := [("name", 7)]) (N := N__law_some) (sc := defScope s__law_some) (by decide +kernel)) (fun _ _ _ _ _ => (pg_name (i := 7) sc__law_some.nd rfl (Or.inl rfl))) (fun _ _ _ _ _ => pts_one (pt_cmpR op_eq (pe_call G__law_next (hr.mono (by decide)) rfl D__law_next.m D__law_next.F.kp D__law_next.b .nil pass0 (pa_cons (pv 0) (pa_cons pe_int pa_nil))) pe_int (nomark _))) (fun _ _ _ _ _ => (pv 7))))
      (pss_cons (ps_set (i := 9) sc__law_some.nd rfl (Or.inr rfl) (pe_lc (own := [("place", 11)]) (g := gName 11) rfl sc__law_some.nd (pi_list (pv 3)) (blkOk_by (own := [("place", 11)]) (N := N__law_some) (sc := defScope s__law_some) (by decide +kernel)) (fun _ _ _ _ _ => (pg_name (i := 11) sc__law_some.nd rfl (Or.inl rfl))) (fun _ _ _ _ _ => pts_one (pt_cmpR (op_in_seqK (K := K) rfl) (pe_ix (ix_tupK (K := K) rfl) (pe_ix (ix_listK (K := K) rfl) (pv 2) (pv 11) (fun _ _ => rfl)) pe_int (fun _ _ => rfl)) (pv 8) (by rfl))) (fun _ _ _ _ _ => (pv 11))))
      (pss_one (ps_ret (pe_lc (own := [("at", 12)]) (g := gName 12) (tt := tYes) rfl sc__law_some.nd (pi_list (pe_ix ix_tup (pe_call G_greatest (hr.mono (by decide)) rfl D_greatest.m D_greatest.F.kp D_greatest.b .nil pass0 (pa_cons (pv 1) (pa_cons (pe_lc (own := [("place", 11)]) (g := gName 11) (tt := tYes) rfl sc__law_some.nd (pi_list (pv 9)) (blkOk_by (own := [("place", 11)]) (N := N__law_some) (sc := defScope s__law_some) (by decide +kernel)) (fun _ _ _ _ _ => (pg_name (i := 11) sc__law_some.nd rfl (Or.inl rfl))) (fun _ _ _ _ _ => pts_nil) (fun _ _ _ _ _ => (pe_ix (ix_listK (K := K) rfl) (pv 2) (pv 11) (fun _ _ => rfl)))) pa_nil))) pe_int (fun _ _ => rfl))) (blkOk_by (own := [("at", 12)]) (N := N__law_some) (sc := defScope s__law_some) (by decide +kernel)) (fun _ _ _ _ _ => (pg_name (i := 12) sc__law_some.nd rfl (Or.inl rfl))) (fun _ _ _ _ _ => pts_nil) (fun _ _ _ _ _ => (pe_ix (ix_listK (K := K) rfl) (pv 9) (pv 12) (fun _ _ => rfl)))))))))))
      (pss_cons (ps_set (i := 10) sc__law_some.nd rfl (Or.inl rfl) (pe_call G__law_firsts (hr.mono (by decide)) rfl D__law_firsts.m D__law_firsts.F.kp D__law_firsts.b .nil pass0 (pa_cons (pv 2) (pa_cons (pv 3) (pa_cons (pv 6) pa_nil)))))
      (pss_one (ps_ret (pe_ifExp (pt_cmpR op_ge (pe_callBK (cr_minDef rfl) (by rfl) T.z_min (by decide +kernel) (pa_cons (pe_listVals rfl (by rfl) T.z_list (pe_call G__law_behind (hr.mono (by decide)) rfl D__law_behind.m D__law_behind.F.kp D__law_behind.b .nil pass0 (pa_cons (pv 1) (pa_cons (pv 2) (pa_cons (pv 10) pa_nil))))) pa_nil) (pk_cons pe_int pk_nil)) pe_int (nomark _)) (pv 10) (pe_lst pa_nil))))))))), ?_⟩
    refine ⟨_, rfl, pp, rfl, ⟨_, SqL.of hp⟩, lc_do fun Q hQ => lc_gen (walk_list (xs := nats l)) (nats l) (fun _ => true) (fun x y _ => ∃ i o, x = V.int (i : Nat) ∧ os[i]? = some o ∧ y = V.str o.py) (fun _ _ _ _ _ y => y) rfl (by unfold nats; rw [List.length_map]; omega) (fun _ k => SqL.of (k _ _ hp (by simp))) (fun _ _ _ _ r _ => r) (fun _ => rfl) (fun x hx H8 K8 F q => tYes_go (q H8 Keep.refl)) (fun x hx _ H8 K8 R0 q => ?_) fun La ys H1 hnL K1 hL P1 => hQ La H1 ?_⟩
    · obtain ⟨i, hi, rfl⟩ := nats_mem hx
      have il := R.lt i hi
      obtain ⟨r, h1, h2⟩ := (hO.keep K8).at (List.getElem?_eq_getElem il)
      have h2 : H8 r = some (.tup [.str "order", .str os[i].py, .str os[i].pe, .int os[i].m, .int os[i].r, .int os[i].s, .int os[i].e]) := h2
      have hrr : (rs.map V.ref)[i]? = some (.ref r) := by rw [List.getElem?_map, h1]; rfl
      exact ⟨_, rfl, _, rfl, pl, _, i, _, rfl, rfl, SqL.of (K8 _ _ ho (by simp)), atI_nat hrr, r, _, 1, _, rfl, rfl, SqT.of h2, rfl, q _ H8 Keep.refl ⟨i, _, rfl, List.getElem?_eq_getElem il, rfl⟩⟩
    clear hQ Q
    obtain ⟨xs, rfl, lx⟩ : ∃ xs : List Str, ys = xs.map V.str ∧ xs.length = l.length := by
      have e := Paired.length P1
      rw [List.filter_eq_self.mpr fun _ _ => rfl] at P1 e
      unfold nats at e
      rw [List.length_map] at e
      have : ∀ {m : List V} {ys : List V}, Paired (fun x y => ∃ i o, x = V.int (i : Nat) ∧ os[i]? = some o ∧ y = V.str o.py) m ys → ∃ xs : List Str, ys = xs.map V.str := by
        intro m
        induction m with
        | nil => intro ys h; cases h; exact ⟨[], rfl⟩
        | cons a r ih =>
          intro ys h
          cases h with
          | cons h t =>
            obtain ⟨i, o, _, _, rfl⟩ := h
            obtain ⟨xs, rfl⟩ := ih t
            exact ⟨o.py :: xs, rfl⟩
      obtain ⟨xs, rfl⟩ := this P1
      rw [List.length_map] at e
      exact ⟨xs, rfl, e.symm⟩
    refine ⟨La, xs, rfl, SqL.of hL, by omega, fun ns pn H2 nd mem _ hpn K2 h2 => ?_⟩
    have K02 := K1.trans K2
    have D2 := D0.keep K02
    clear K1 K2 hnL hL P1
    refine ⟨_, rfl, Nat.zero_le _, fun pe hpe => ⟨pn, pe, _, rfl, rfl, Keep.upd_new (ds := []) hpe _ _ h2 (by simp), upd_same, _, rfl, ?_⟩⟩
    have K3 := K02.trans (Keep.upd_new hpe (o := .lst []))
    have h3 := Keep.upd_new (ds := []) hpe (o := .lst []) _ _ h2 (by simp)
    generalize upd H2 pe (.lst []) = H3 at K3 h3
    have D3 := D0.keep K3
    clear K02 D2 h2 hpe hpn
    cases ns with
    | nil =>
      refine iteT ⟨Nat.zero_le _, fun p0 hp0 => ?_⟩
      exact q p0 [] _ (K3.none_of hp0 (by simp)) (D3.keep (Keep.upd_new hp0)) ((K3.mono (by simp)).trans (Keep.upd_new hp0)) upd_same (SubOk.nil F.get)
    | cons n0 nr =>
    have l0 : 0 < (n0 :: nr).length := by simp
    have nl : (n0 :: nr).length ≤ 60 := by
      have := nodup_sub nd (fun y hy => (mem y).mp hy)
      omega
    refine iteF ?_
    generalize n0 :: nr = ns at h3 nd mem l0 nl
    refine ⟨_, rfl, d, c, _, rfl, D3, by decide, by decide, fun wy H4 w0 w1 D4 K4 => fun pc hpc => ?_⟩
    have K5 : Keep [d] H (upd H4 pc (.dK [])) := ((K3.mono (by simp)).trans K4).trans (Keep.upd_new hpc)
    have D5 := D4.keep (Keep.upd_new (ds := []) hpc (o := .dK []))
    have hc5 : (upd H4 pc (.dK [])) pc = some (.dK (kvI [])) := upd_same
    have h5 := Keep.upd_new (ds := []) hpc (o := .dK []) _ _ (K4 _ _ h3 (D3.nlst h3)) (by simp)
    have ncd : pc ≠ d := (D4.new hpc).1.symm
    have ncc : c ≠ pc := (D4.new hpc).2
    have hc0 : H pc = none := ((K3.mono (ds := []) (es := [d]) (by simp)).trans K4).none_of hpc (by simpa using ncd)
    generalize upd H4 pc (.dK []) = H5 at K5 D5 hc5 h5
    clear K3 K4 D3 D4 h3 hpc
    refine ⟨_, _, rfl, _, rfl, rfl, _, rfl, ?_⟩
    have tail := fun (g : DI) (H6 : Hp) (v7 v8 v9 : Option V) (K6 : Keep [d] H H6) (D6 : DrawAt H6 d c) (hc6 : H6 pc = some (.dK (kvI g))) (lg : g.length ≤ 1000) (E0 : XK) (D : Ends) (eq : D.rt = Q) => tail_so (K := K) (E0 := E0) (D := D) (v4 := some (.ref pn)) (v5 := some (.int wy)) (v7 := v7) (v8 := v8) (v9 := v9) D0 nfd hf F size ho hO G l60 hp R K6 D6 hc6 lg (by rw [eq]; exact q)
    refine ite2 (fun _ => ?_) fun _ => ?_
    · refine ⟨_, rfl, _, rfl, _, rfl, d, c, .ref pn, _, rfl, D5, .inl ⟨pn, rfl, .inl h5⟩, by rw [List.length_map]; exact l0, by rw [List.length_map]; omega, fun v H6 vm D6 K6 => ?_⟩
      obtain ⟨n, hn, rfl⟩ := List.mem_map.mp vm
      have hc6 := K6 _ _ hc5 (by simpa using ncd)
      refine ⟨pc, _, rfl, DPutS hc6 (by show 0 < sizeLine; omega), ?_⟩
      have e3 : putK (kvI []) (Sum.inr n) (.int 1) = kvI (putI [] n 1) := putK_kvI
      rw [e3]
      have lp := len_put (h := []) (n := n) (v := 1)
      rw [List.length_nil] at lp
      exact tail (putI [] n 1) _ none none none (fun b o e hb => by rw [upd_ne (ne_of_none e hc0)]; exact (K5.trans K6) b o e hb) (D6.keep (Keep.upd_in (ds := [pc]) (by simp)) (by simpa using ncd.symm) (by simpa using ncc)) upd_same (by omega) _ _ rfl
    · refine ⟨_, rfl, rfl, _, rfl, ite2 (fun _ => ?_) fun _ => ?_⟩
      · refine ⟨_, rfl, pn, rfl, ⟨_, SqL.of h5⟩, for_list (K := K) (a := pn) (xs := ns.map V.str) (fun i σ H6 => Keep [d] H H6 ∧ DrawAt H6 d c ∧ H6 pn = some (.lst (ns.map V.str)) ∧ ∃ g v7, H6 pc = some (.dK (kvI g)) ∧ g.length ≤ i ∧ σ = [some (.ref d), some (.ref pf), some (.ref pl), some (.ref pp), some (.ref pn), some (.int wy), some (.ref pc), v7, none, none, none, none, none]) ⟨K5, D5, h5, [], none, hc5, Nat.le_refl _, rfl⟩ (fun i σ H6 _ ⟨_, _, h, _⟩ => SqL.of h) ?_ ?_⟩
        · rintro i x σ H6 hi ⟨K6, D6, h6, g, v7, hc6, lg, rfl⟩
          have il := (List.getElem?_eq_some_iff.mp hi).1
          rw [List.length_map] at il
          obtain ⟨n, hn, rfl⟩ := List.mem_map.mp (List.mem_of_getElem? hi)
          refine ⟨_, rfl, d, c, _, rfl, D6, by decide, by decide, fun r H7 r0 r1 D7 K7 => ?_⟩
          have hc7 := K7 _ _ hc6 (by simpa using ncd)
          have h7 := K7 _ _ h6 (D6.nlst h6)
          refine ⟨_, rfl, _, rfl, pc, _, rfl, DPutS hc7 (by unfold kvI; rw [List.length_map]; omega), ?_⟩
          have e3 : putK (kvI g) (Sum.inr n) (.int r) = kvI (putI g n r) := putK_kvI
          rw [e3]
          have lp := len_put (h := g) (n := n) (v := r)
          refine ⟨fun b o e hb => by rw [upd_ne (ne_of_none e hc0)]; exact (K6.trans K7) b o e hb, D7.keep (Keep.upd_in (ds := [pc]) (by simp)) (by simpa using ncd.symm) ?_, ?_, putI g n r, _, upd_same, by omega, rfl⟩
          · simpa using ncc
          · rw [upd_ne (ne_of h7 hc7 (by intro z; cases z))]; exact h7
        · rintro σ H6 ⟨K6, D6, h6, g, v7, hc6, lg, rfl⟩
          rw [List.length_map] at lg
          exact tail g H6 v7 none none K6 D6 hc6 (by omega) _ _ rfl
      · have hL0 : H5 pn = some (.lst (ns.map V.str)) := h5
        refine ⟨_, rfl, pn, rfl, ⟨_, SqL.of h5⟩, lc_do fun Q hQ => ?_⟩
        refine fun L hL => lc_list (K := K) (a := pn) (xs := ns.map V.str) (fun i H6 => Keep [d] H5 H6 ∧ DrawAt H6 d c ∧ ∃ part : List Str, H6 L = some (.lst (part.map V.str)) ∧ part.length ≤ i) ⟨Keep.upd_new hL, D5.keep (Keep.upd_new hL), [], upd_same, Nat.le_refl _⟩ (fun i H6 _ ⟨k, _⟩ => SqL.of (k _ _ h5 (D5.nlst h5))) ?_ ?_
        · rintro i x H6 hi ⟨K6, D6, part, h6, lp⟩
          have il := (List.getElem?_eq_some_iff.mp hi).1
          rw [List.length_map] at il
          obtain ⟨n, hn, rfl⟩ := List.mem_map.mp (List.mem_of_getElem? hi)
          refine ⟨rfl, ?_⟩
          refine ⟨_, rfl, d, c, _, rfl, D6, by decide, by decide, fun r H7 r0 r1 D7 K7 => ⟨rfl, _, rfl, ?_⟩⟩
          have h7 := K7 _ _ h6 (D6.nlst h6)
          have K57 := K6.trans K7
          refine ite2 (fun _ => ?_) fun _ => ⟨K57, D7, part, h7, by omega⟩
          refine ⟨_, rfl, _, h7, by rw [List.length_map]; omega, fun b o e hb => by rw [upd_ne (ne_of_none e hL)]; exact K57 b o e hb, D7.keep (Keep.upd_in (ds := [L]) (by simp)) (by simpa using (D5.new hL).1) (by simpa using (D5.new hL).2), part ++ [n], by rw [upd_same, List.map_append]; rfl, by rw [List.length_append]; simpa using lp⟩
        · rintro H6 ⟨K6, D6, part, h6, lp⟩
          refine hQ L H6 ?_
          clear hQ Q
          have K06 := K5.trans K6
          have nld : ∀ r xs, H r = some (HO.lst xs) → r ∉ [d] := fun r xs e => D0.nlst e
          have ho6 := K06 _ _ ho (nld _ _ ho)
          have hp6 := K06 _ _ hp (nld _ _ hp)
          have O6 := hO.keepD K06 D0.notup
          have hf6 := K06 _ _ hf (by simpa using nfd)
          refine ⟨_, rfl, pp, rfl, ⟨_, SqL.of hp6⟩, lc_do fun Q hQ => lc_nums (NW.list hp6) (by omega) (inPart os part) (fun i => i) (fun _ => rfl) (fun i hi H8 K8 F q => ?_) (fun i hi _ H8 K8 R q => ⟨_, rfl, q H8 Keep.refl⟩) fun Ls H9 hnS K9 hS => hQ Ls H9 ?_⟩
          · have il := R.lt i hi
            obtain ⟨r, h1, h2⟩ := (O6.keep K8).at (List.getElem?_eq_getElem il)
            have h2 : H8 r = some (.tup [.str "order", .str os[i].py, .str os[i].pe, .int os[i].m, .int os[i].r, .int os[i].s, .int os[i].e]) := h2
            have hrr : (rs.map V.ref)[i]? = some (.ref r) := by rw [List.getElem?_map, h1]; rfl
            have e5 : inPart os part i = decide (os[i].py ∈ part) := by unfold inPart; rw [List.getElem?_eq_getElem il]
            rw [e5] at q
            refine ⟨_, rfl, _, rfl, pl, _, i, _, rfl, rfl, SqL.of (K8 _ _ ho6 (by simp)), atI_nat hrr, r, _, 1, _, rfl, rfl, SqT.of h2, rfl, _, rfl, L, _, rfl, .inl (SqL.of (K8 _ _ h6 (by simp))), rfl, all_flat_str part, _, rfl, ?_⟩
            have e4 : (if false = true then !inV (V.str os[i].py) (part.map V.str) else inV (V.str os[i].py) (part.map V.str)) = decide (os[i].py ∈ part) := by
              rw [if_neg Bool.false_ne_true, inV_str]
            rw [e4]
            exact q H8 Keep.refl
          clear hQ Q
          rw [List.map_id'] at hS
          have RS := R.pick (inPart os part)
          have wide : ∀ {u : List Nat}, SubOk h os (l.filter (inPart os part)) u → SubOk h os l u := fun s => s.wide (fun i hi => (List.mem_filter.mp hi).1) fun i hi k hk e => by
            refine List.mem_filter.mpr ⟨hk, ?_⟩
            have := (List.mem_filter.mp hi).2
            unfold inPart at this ⊢
            unfold payer at e
            have hkl := R.lt k hk
            have hil := R.lt i (List.mem_filter.mp hi).1
            have ek := List.getElem?_eq_getElem hkl
            have ei := List.getElem?_eq_getElem hil
            rw [ek, ei] at e
            rw [ek]; rw [ei] at this
            injection e with e
            have this : decide (os[i].py ∈ part) = true := this
            show decide (os[k].py ∈ part) = true
            have e : os[k].py = os[i].py := e
            rw [e]; exact this
          have lS := RS.len
          generalize l.filter (inPart os part) = sm at hS RS wide lS
          have K09 : Keep [d] H H9 := K06.trans (K9.mono (by simp))
          have D9 := D6.keep K9
          have O9 := O6.keep K9
          have ho9 := K9 _ _ ho6 (by simp)
          have hf9 := K9 _ _ hf6 (by simp)
          clear K06 K9 hp6 O6 ho6 hf6 h6 hnS K6 D6
          refine ⟨_, rfl, _, rfl, Ls, rfl, ⟨_, SqL.of hS⟩, lc_do fun Q hQ => lc_picks (NW.list hS) (by omega) O9 RS.lt (fun _ => true) (fun _ => rfl) (fun i hi H8 K8 F q => tYes_go (q H8 Keep.refl)) (fun i hi r hr8 H8 K8 R q => ?_) fun Lq rq HA hnA KA hLq OA => hQ Lq HA ?_⟩
          · have hrr : (rs.map V.ref)[i]? = some (.ref r) := by rw [List.getElem?_map, hr8]; rfl
            exact ⟨_, rfl, _, rfl, pl, _, i, _, rfl, rfl, SqL.of (K8 _ _ ho9 (by simp)), atI_nat hrr, q⟩
          clear hQ Q
          rw [List.filter_eq_self.mpr fun _ _ => rfl] at OA
          have lnp := picks_length RS.lt
          refine ⟨pf, Lq, h, picks os sm, rfl, KA _ _ hf9 (by simp), ⟨rq, .inl hLq, OA⟩, F, fun o ho => G o (picks_mem o ho), by omega, fun R1 L1 W1 T1 w1 HB KB hR hLB hnL hWB wk gr => ?_⟩
          refine ⟨R1, _, 0, V.ref L1, rfl, rfl, SqT.of hR, rfl, L1, rfl, ⟨_, SqL.of hLB⟩, ?_⟩
          have hSB := (KA.trans KB) _ _ hS (by simp)
          have fl : ((List.range (picks os sm).length).filter T1).length ≤ 60 := by
            have := List.length_filter_le T1 (List.range (picks os sm).length)
            rw [List.length_range] at this; omega
          refine lc_do fun Q hQ => lc_nums (NW.list hLB) (by omega) (fun _ => true) (fun j => sm.getD j 0) (fun _ => rfl) (fun i hi H8 K8 F q => tYes_go (q H8 Keep.refl)) (fun i hi _ H8 K8 R q => ?_) fun Lz HC hnC KC hz => hQ Lz HC ?_
          · have il := List.mem_range.mp (List.mem_filter.mp hi).1
            rw [lnp] at il
            exact ⟨_, rfl, _, rfl, Ls, _, (i : Nat), _, rfl, rfl, SqL.of (K8 _ _ hSB (by simp)), atI_nat (by unfold nats; rw [List.getElem?_map, getD_at il]; rfl), q H8 Keep.refl⟩
          clear hQ Q
          rw [List.filter_eq_self.mpr fun _ _ => rfl, lnp] at hz
          have K9C := (KA.trans KB).trans KC
          have K0C := K09.trans (K9C.mono (by simp))
          have e7 := hnC
          refine q Lz (lastL sm T1) HC ?_ (D9.keep K9C) K0C hz (wide (SubOk.of_stands RS gr.st))
          refine (K09.trans ((KA.trans KB).mono (by simp))).none_of hnC fun z => ?_
          obtain rfl : Lz = d := by simpa using z
          obtain ⟨ns, k, l, m, h1, _⟩ := D9
          rw [(KA.trans KB) _ _ h1 (by simp)] at hnC; cases hnC
end
end My
set_option Elab.async false
set_option maxRecDepth 100000
set_option maxHeartbeats 800000
set_option linter.unusedVariables false
namespace My
open PySem L2 TL StX
/-- a list != [] -/
def rNeNil : R2 := fun x y H Q => ∃ a b xs, x = .ref a ∧ y = .ref b ∧ H a = some (.lst xs) ∧ H b = some (.lst []) ∧ Q (.bl (!xs.isEmpty)) H
theorem op_neNil {X : Cx} (hu : X.A.units + 64 < cLine) : OpR X (compareOp .NotEq) rNeNil := by
  intro pins s σ H x y v u Q I rx ry h
  obtain ⟨a, b, xs, rfl, rfl, ha, hb, q⟩ := h
  cases (show v = Value.ref a from rx)
  cases (show u = Value.ref b from ry)
  obtain ⟨_, its, k, rv, h1⟩ := (show ObjOk X.prog X.w H s.heap a (.lst xs) from I.hok a _ ha)
  obtain ⟨_, its2, k2, rv2, h2⟩ := (show ObjOk X.prog X.w H s.heap b (.lst []) from I.hok b _ hb)
  cases rv2
  cases xs with
  | nil =>
    cases rv
    exact SeqAt.RcNeAt.lists (e := fun _ => true) ⟨_, h1, rfl, _, rfl⟩ ⟨_, h2, rfl, _, rfl⟩ rfl (by omega) (fun j h => absurd h (by simp)) _ _ _ _ ⟨.bl false, H, I, rfl, q⟩
  | cons z r =>
    cases rv with
    | cons r1 r2 =>
      exact SeqAt.RcNeAt.lists_lengths ⟨_, h1, rfl, _, rfl⟩ ⟨_, h2, rfl, _, rfl⟩ (by simp) (by omega) _ _ _ _ ⟨.bl true, H, I, rfl, q⟩
section
variable {X : Cx}
/-- a dict == {} -/
def rEqMt : R2 := fun x y H Q => ∃ a b kvs, x = .ref a ∧ y = .ref b ∧ H a = some (.dK kvs) ∧ H b = some (.dK []) ∧ Q (.bl kvs.isEmpty) H
theorem op_eqMt (hu : X.A.units + 64 < cLine) : OpR X (compareOp .Eq) rEqMt := by
  intro pins s σ H x y v u Q I rx ry h
  obtain ⟨a, b, kvs, rfl, rfl, ha, hb, q⟩ := h
  obtain rfl : v = Value.ref a := rx
  obtain rfl : u = Value.ref b := ry
  obtain ⟨_, ya, va, ra, da⟩ := (show ObjOk X.prog X.w H s.heap a (.dK kvs) from I.hok a _ ha)
  obtain ⟨_, yb, vb, rb, db⟩ := (show ObjOk X.prog X.w H s.heap b (.dK []) from I.hok b _ hb)
  cases rb
  refine PySem.W.keq_eq (knd := mixKind X.prog X.w) (r := true) ya yb da db (by omega) (fun e => ?_) ⟨.bl kvs.isEmpty, H, I, ?_, q⟩
  · obtain rfl : va = [] := List.eq_nil_of_length_eq_zero e
    exact .nil
  · have e := ra.length
    show Value.bool _ = Value.bool _
    cases kvs with
    | nil => cases va with
      | nil => rfl
      | cons _ _ => simp at e
    | cons _ _ => cases va with
      | nil => simp at e
      | cons _ _ => rfl
end
/-! the names that have something are the crew's -/
structure OkH (zs : List Str) (h : DI) : Prop where
  nd : (h.map (·.1)).Nodup
  inz : ∀ p ∈ h, p.1 ∈ zs
section
variable {zs : List Str} {h : DI}
theorem OkH.put (o : OkH zs h) {n : Str} (hn : n ∈ zs) (v : Int) : OkH zs (putI h n v) := ⟨nodup_put o.nd, fun p hp => (mem_put hp).elim (fun e => by rw [e]; exact hn) (o.inz p)⟩
theorem OkH.fold : ∀ {os : List O} {h : DI}, OkH zs h → (∀ o ∈ os, o.py ∈ zs ∧ o.pe ∈ zs) → OkH zs (os.foldl stepI h)
  | [], _, o, _ => o
  | a :: r, h, o, g => by
    have ga := g a (by simp)
    exact OkH.fold (os := r) (h := stepI h a) ((o.put ga.1 _).put ga.2 _) fun b hb => g b (List.mem_cons_of_mem _ hb)
theorem OkH.len (o : OkH zs h) : h.length ≤ zs.length := by
  have := nodup_sub o.nd (zs := zs) fun y hy => by
    obtain ⟨p, hp, rfl⟩ := List.mem_map.mp hy
    exact o.inz p hp
  rwa [List.length_map] at this
theorem get_mem (o : OkH zs h) {p : Str × Int} (hp : p ∈ h) : getI h p.1 = p.2 := by
  unfold getI
  rw [lookI_mem o.nd (show (p.1, p.2) ∈ h from hp)]; rfl
theorem OkH.okF (o : OkH zs h) (C : CrewL zs) (few : zs.length ≤ 800) (nn : ∀ n, 0 ≤ getI h n) : OkF h :=
  ⟨o.nd, fun p hp => C.ok _ (o.inz p hp), fun p hp => by rw [← get_mem o hp]; exact nn _, by have := o.len; omega⟩
/-- what lacks -/
theorem get_lack (nd : (h.map (·.1)).Nodup) (x : Str) : getI (lackI h) x = if getI h x < 0 then 0 - getI h x else 0 := by
  have mem : ∀ v, (x, v) ∈ lackI h ↔ ∃ w, (x, w) ∈ h ∧ w < 0 ∧ v = 0 - w := fun v => by
    unfold lackI
    rw [List.mem_map]
    constructor
    · rintro ⟨⟨n, w⟩, hp, e⟩
      obtain ⟨h1, h2⟩ := List.mem_filter.mp hp
      injection e with e1 e2
      subst e1
      exact ⟨w, h1, of_decide_eq_true h2, e2.symm⟩
    · rintro ⟨w, h1, h2, rfl⟩
      exact ⟨(x, w), List.mem_filter.mpr ⟨h1, decide_eq_true h2⟩, rfl⟩
  unfold getI
  cases e : lookI h x with
  | none =>
    have : lookI (lackI h) x = none := lookI_none.mpr fun z => by
      obtain ⟨⟨n, v⟩, hp, e1⟩ := List.mem_map.mp z
      have e1 : n = x := e1
      subst e1
      obtain ⟨w, h1, _⟩ := (mem v).mp hp
      rw [lookI_mem nd h1] at e; cases e
    rw [this]; rfl
  | some w =>
    have hw := mem_lookI e
    show (lookI (lackI h) x).getD 0 = if w < 0 then 0 - w else 0
    by_cases c : w < 0
    · rw [if_pos c, lookI_mem (lack_keys nd) ((mem _).mpr ⟨w, hw, c, rfl⟩)]; rfl
    · rw [if_neg c]
      have : lookI (lackI h) x = none := lookI_none.mpr fun z => by
        obtain ⟨⟨n, v⟩, hp, e1⟩ := List.mem_map.mp z
        have e1 : n = x := e1
        subst e1
        obtain ⟨w', h1, h2, _⟩ := (mem v).mp hp
        rw [lookI_mem nd h1] at e
        injection e with e
        omega
      rw [this]; rfl
def fullF (fr lk : DI) : DI := lk.foldl (fun f p => putI f p.1 (getI f p.1 + p.2)) fr
theorem fullF_snoc (fr lk : DI) (p : Str × Int) : fullF fr (lk ++ [p]) = putI (fullF fr lk) p.1 (getI (fullF fr lk) p.1 + p.2) := by
  unfold fullF; rw [List.foldl_append]; rfl
theorem get_full : ∀ (lk fr : DI), (lk.map (·.1)).Nodup → ∀ x, getI (fullF fr lk) x = getI fr x + getI lk x
  | [], fr, _, x => by
    have : getI [] x = 0 := rfl
    rw [this]; show getI fr x = _; omega
  | p :: r, fr, nd, x => by
    rw [List.map_cons, List.nodup_cons] at nd
    have ih := get_full r (putI fr p.1 (getI fr p.1 + p.2)) nd.2 x
    show getI (fullF (putI fr p.1 (getI fr p.1 + p.2)) r) x = _
    rw [ih, getI_put]
    unfold getI
    unfold lookI
    rw [List.find?_cons]
    by_cases e : p.1 = x
    · have : lookI r x = none := lookI_none.mpr (e ▸ nd.1)
      unfold lookI at this
      rw [this]
      simp [e]
    · have e2 : ¬ x = p.1 := fun z => e z.symm
      simp [e, e2]
theorem OkH.full : ∀ {lk h : DI}, OkH zs h → (∀ p ∈ lk, p.1 ∈ zs) → OkH zs (fullF h lk)
  | [], _, o, _ => o
  | p :: r, h, o, g => OkH.full (lk := r) (h := putI h p.1 (getI h p.1 + p.2)) (o.put (g p (by simp)) _) fun q hq => g q (List.mem_cons_of_mem _ hq)
theorem lack_in (o : OkH zs h) : ∀ p ∈ lackI h, p.1 ∈ zs := fun p hp => by
  unfold lackI at hp
  obtain ⟨q, hq, rfl⟩ := List.mem_map.mp hp
  exact o.inz q (List.mem_filter.mp hq).1
end
section
variable {fr : DI} {os : List O}
theorem get_all (ok : ∀ o ∈ os, OkO o) (n : Str) : getI (os.foldl stepI fr) n = bal fr os (fun _ => true) n := by
  have := picks_bal (fr := fr) (os := os) (P := fun _ => true) ok n
  rw [List.filter_eq_self.mpr fun _ _ => rfl, picks_all] at this
  exact this
theorem all_range {P : Nat → Bool} {n : Nat} (h : ∀ i, i < n → P i = true) : (List.range n).filter P = List.range n := List.filter_eq_self.mpr fun i hi => h i (List.mem_range.mp hi)
/-- with what lacks all orders go -/
theorem full_all (ok : ∀ o ∈ os, OkO o) (nd : (fr.map (·.1)).Nodup) {P : Nat → Bool} (g : Great (fullF fr (lackI (os.foldl stepI fr))) os P) : (List.range os.length).filter P = List.range os.length := by
  refine all_range fun i hi => g.ov (fun _ => true) ⟨fun _ _ _ _ _ _ => rfl, fun n => ?_⟩ i hi rfl
  have hnd := fold_nd nd os
  have e1 := get_full (lackI (os.foldl stepI fr)) fr (lack_keys hnd) n
  have e2 := get_lack hnd n
  have e3 := get_all (fr := fr) ok n
  unfold bal at e3 ⊢
  rw [e1, e2]
  split <;> omega
/-- nothing lacks just where all orders go -/
theorem lack_nil (ok : ∀ o ∈ os, OkO o) (nd : (fr.map (·.1)).Nodup) {P : Nat → Bool} (g : Great fr os P) : (lackI (os.foldl stepI fr)).isEmpty = decide ((List.range os.length).filter P = List.range os.length) := by
  have hnd := fold_nd nd os
  cases e : lackI (os.foldl stepI fr) with
  | nil =>
    refine (decide_eq_true ?_).symm
    refine all_range fun i hi => g.ov (fun _ => true) ⟨fun _ _ _ _ _ _ => rfl, fun n => ?_⟩ i hi rfl
    have e2 := get_lack hnd n
    rw [e] at e2
    have e2 : (0 : Int) = _ := e2
    rw [← get_all ok n]
    split at e2 <;> omega
  | cons p r =>
    refine (decide_eq_false fun z => ?_).symm
    have pm : p ∈ lackI (os.foldl stepI fr) := by rw [e]; simp
    unfold lackI at pm
    obtain ⟨x, hx, _⟩ := List.mem_map.mp pm
    obtain ⟨h1, h2⟩ := List.mem_filter.mp hx
    have h2 : x.2 < 0 := of_decide_eq_true h2
    have e3 := get_all (fr := fr) ok x.1
    have e4 : getI (os.foldl stepI fr) x.1 = x.2 := by
      unfold getI
      rw [lookI_mem hnd (show (x.1, x.2) ∈ _ from h1)]; rfl
    have e5 : bal fr os P x.1 = bal fr os (fun _ => true) x.1 := by
      unfold bal sumP
      have : (List.range os.length).map (fun i => if P i = true then flowAt os i x.1 else 0) = (List.range os.length).map (fun i => if (fun _ => true) i = true then flowAt os i x.1 else 0) := by
        refine List.map_congr_left fun i hi => ?_
        have : P i = true := by
          have := z ▸ hi
          exact (List.mem_filter.mp this).2
        rw [this]
      rw [this]
    have := g.st.nn x.1
    omega
/-- with one less they don't -/
theorem less_all (ok : ∀ o ∈ os, OkO o) (nd : (fr.map (·.1)).Nodup) {x : Str} (hx : getI (os.foldl stepI fr) x < 0) {P : Nat → Bool} {fl : DI} (hf : ∀ n, getI fl n = getI (fullF fr (lackI (os.foldl stepI fr))) n - if n = x then 1 else 0) (g : Great fl os P) : (List.range os.length).filter P ≠ List.range os.length := by
  intro z
  have hnd := fold_nd nd os
  have e1 := get_full (lackI (os.foldl stepI fr)) fr (lack_keys hnd) x
  have e2 := get_lack hnd x
  have e3 := get_all (fr := fr) ok x
  have e4 := hf x
  rw [if_pos rfl] at e4
  rw [if_pos hx] at e2
  have e5 : sumP os P x = sumP os (fun _ => true) x := by
    unfold sumP
    have : (List.range os.length).map (fun i => if P i = true then flowAt os i x else 0) = (List.range os.length).map (fun i => if (fun _ => true) i = true then flowAt os i x else 0) := by
      refine List.map_congr_left fun i hi => ?_
      have : P i = true := by
        have := z ▸ hi
        exact (List.mem_filter.mp this).2
      rw [this]
    rw [this]
  have := g.st.nn x
  unfold bal at this e3
  omega
theorem full_nn (ok : ∀ o ∈ os, OkO o) (F : OkF fr) (n : Str) : 0 ≤ getI (fullF fr (lackI (os.foldl stepI fr))) n ∧ (getI (os.foldl stepI fr) n < 0 → 1 ≤ getI (fullF fr (lackI (os.foldl stepI fr))) n) := by
  have hnd := fold_nd F.nd os
  have e1 := get_full (lackI (os.foldl stepI fr)) fr (lack_keys hnd) n
  have e2 := get_lack hnd n
  have e3 := F.get n
  rw [e1, e2]
  constructor
  · split <;> omega
  · intro h; rw [if_pos h]; omega
end
end My
set_option Elab.async false
set_option maxRecDepth 100000
set_option maxHeartbeats 3200000
set_option pp.maxSteps 4000
set_option linter.unusedVariables false
namespace My
open PySem L2 TL StX
section
variable {P : Program} {w : World} {K : PySem.W.Frag} {mg : Str → Option Value} {base : Heap}
/-- what stands while the law goes on -/
structure Bz (H : Hp) (d c pl pf L : Addr) (rs : List Addr) (fr : DI) (os : List O) (E : Nat → Bool) : Prop where
  D : DrawAt H d c
  hl : H pl = some (.lst (rs.map V.ref))
  hf : H pf = some (.dK (kvI fr))
  nf : pf ≠ d
  Od : Ords H rs os
  hL : H L = some (.lst (nats ((List.range os.length).filter E)))
section
variable {H H' : Hp} {d c pl pf L : Addr} {rs : List Addr} {fr : DI} {os : List O} {E : Nat → Bool}
theorem Bz.keep (b : Bz H d c pl pf L rs fr os E) (k : Keep [] H H') : Bz H' d c pl pf L rs fr os E :=
  ⟨b.D.keep k, k _ _ b.hl (by simp), k _ _ b.hf (by simp), b.nf, b.Od.keep k, k _ _ b.hL (by simp)⟩
theorem Bz.keepD (b : Bz H d c pl pf L rs fr os E) (k : Keep [d] H H') (D : DrawAt H' d c) : Bz H' d c pl pf L rs fr os E :=
  ⟨D, k _ _ b.hl (b.D.nlst b.hl), k _ _ b.hf (by simpa using b.nf), b.nf, b.Od.keepD k b.D.notup, k _ _ b.hL (b.D.nlst b.hL)⟩
theorem Bz.keepP {x : Addr} {kvs : List (Key × V)} (b : Bz H d c pl pf L rs fr os E) (k : Keep [x] H H') (hx : H x = some (.dK kvs)) (nd : x ≠ d) (nf : pf ≠ x) : Bz H' d c pl pf L rs fr os E := by
  have nl : ∀ {p : Addr} {xs : List V}, H p = some (.lst xs) → p ∉ [x] := fun e => by simpa using ne_of e hx (by intro z; cases z)
  obtain ⟨ns, a, e, m, h1, h2, h3⟩ := id b.D
  refine ⟨b.D.keep k (by simpa using nd.symm) (nl h2), k _ _ b.hl (nl b.hl), k _ _ b.hf (by simpa using nf), b.nf, b.Od.keepD k fun y hy xs e => ?_, k _ _ b.hL (nl b.hL)⟩
  obtain rfl : y = x := by simpa using hy
  rw [hx] at e; cases e
end
def sp_law (K : PySem.W.Frag) : Sp := fun vs H Q _ => ∃ (a : Addr) (ns : List Int), vs = [.ref a] ∧ SqL K H a (ns.map V.int) ∧ ns.length ≤ 63 ∧ ∀ H', Q (.bl true) H'
theorem g_law (T : Txt K mg) {f : Addr} {fd : FuncData} (F : Fun K "law" "law" s_law f fd) : FnOk P w K mg base CX0 8 f fd ["script"] (sp_law K) := by
  obtain ⟨f_greatest, fd_greatest, D_greatest, G_greatest⟩ := p_greatest (P := P) (w := w) (base := base) T; obtain ⟨f__law_lacks, fd__law_lacks, D__law_lacks, G__law_lacks⟩ := p__law_lacks (P := P) (w := w) (base := base) T; obtain ⟨f__law_next, fd__law_next, D__law_next, G__law_next⟩ := p__law_next (P := P) (w := w) (base := base) T; obtain ⟨f__law_behind, fd__law_behind, D__law_behind, G__law_behind⟩ := p__law_behind (P := P) (w := w) (base := base) T; obtain ⟨f__law_some, fd__law_some, D__law_some, G__law_some⟩ := p__law_some (P := P) (w := w) (base := base) T; obtain ⟨f__law_means, fd__law_means, D__law_means, G__law_means⟩ := p__law_means (P := P) (w := w) (base := base) T; obtain ⟨f__law_lot, fd__law_lot, D__law_lot, G__law_lot⟩ := p__law_lot (P := P) (w := w) (base := base) T; obtain ⟨f__law_crew, fd__law_crew, D__law_crew, G__law_crew⟩ := p__law_crew (P := P) (w := w) (base := base) T; obtain ⟨f__law_begin, fd__law_begin, D__law_begin, G__law_begin⟩ := p__law_begin (P := P) (w := w) (base := base) T
  refine F.ok sc_law (fun vs H Q E h => ?_) (fun cdv A outer s H vs Q E hr h => ?_)
  · obtain ⟨a, ns, rfl, _⟩ := h; rfl
  · obtain ⟨a, ns, rfl, hS, hl, q⟩ := h
    have hsl : sizeLine = 16777216 := sizeLine_eq
    have hu := hu_of hr
    refine ⟨_, (pss_cons (ps_set (i := 1) sc_law.nd rfl (Or.inl rfl) (pe_call G__law_begin (hr.mono (by decide)) rfl D__law_begin.m D__law_begin.F.kp D__law_begin.b .nil pass0 (pa_cons (pv 0) pa_nil)))
      (pss_cons (ps_set (i := 2) sc_law.nd rfl (Or.inl rfl) (pe_call G__law_crew (hr.mono (by decide)) rfl D__law_crew.m D__law_crew.F.kp D__law_crew.b .nil pass0 (pa_cons (pv 1) (pa_cons (pe_op op_add pe_int (pe_call G__law_next (hr.mono (by decide)) rfl D__law_next.m D__law_next.F.kp D__law_next.b .nil pass0 (pa_cons (pv 1) (pa_cons pe_int pa_nil)))) pa_nil))))
      (pss_cons (ps_asg (pe_tup (pa_cons (pe_call G__law_lot (hr.mono (by decide)) rfl D__law_lot.m D__law_lot.F.kp D__law_lot.b .nil pass0 (pa_cons (pv 1) (pa_cons (pv 2) (pa_cons (pe_call G__law_next (hr.mono (by decide)) rfl D__law_next.m D__law_next.F.kp D__law_next.b .nil pass0 (pa_cons (pv 1) (pa_cons pe_int pa_nil))) pa_nil)))) (pa_cons (pe_call G__law_means (hr.mono (by decide)) rfl D__law_means.m D__law_means.F.kp D__law_means.b .nil pass0 (pa_cons (pv 1) (pa_cons (pv 2) pa_nil))) pa_nil))) (pg_tup rfl (pgs_cons (pg_name (i := 3) sc_law.nd rfl (Or.inr rfl)) (pgs_cons (pg_name (i := 4) sc_law.nd rfl (Or.inl rfl)) pgs_nil))))
      (pss_cons (ps_set (i := 5) sc_law.nd rfl (Or.inr rfl) (pe_ix ix_tup (pe_call G_greatest (hr.mono (by decide)) rfl D_greatest.m D_greatest.F.kp D_greatest.b .nil pass0 (pa_cons (pv 4) (pa_cons (pv 3) pa_nil))) pe_int (fun _ _ => rfl)))
      (pss_cons (ps_asg (pe_tup (pa_cons (pe_callTy call_dictD (by rfl) T.z_dict (by decide +kernel) (pa_cons (pv 4) pa_nil)) (pa_cons (pe_listRg rfl (by rfl) T.z_list (prg_1 (by rfl) T.z_range (pe_callB call_len_seq (by rfl) T.z_len (by decide +kernel) (pa_cons (pv 3) pa_nil)))) (pa_cons (pe_lst pa_nil) pa_nil)))) (pg_tup rfl (pgs_cons (pg_name (i := 6) sc_law.nd rfl (Or.inl rfl)) (pgs_cons (pg_name (i := 7) sc_law.nd rfl (Or.inr rfl)) (pgs_cons (pg_name (i := 8) sc_law.nd rfl (Or.inl rfl)) pgs_nil)))))
      (pss_cons (ps_for PassesOwn.never rfl (pi_range1 rfl T.z_range (pa_cons (pe_call G__law_next (hr.mono (by decide)) rfl D__law_next.m D__law_next.F.kp D__law_next.b .nil pass0 (pa_cons (pv 1) (pa_cons pe_int pa_nil))) pa_nil)) (pg_name (i := 9) sc_law.nd rfl (Or.inl rfl)) (pss_cons (ps_set (i := 10) sc_law.nd rfl (Or.inr rfl) (pe_call G__law_some (hr.mono (by decide)) rfl D__law_some.m D__law_some.F.kp D__law_some.b .nil pass0 (pa_cons (pv 1) (pa_cons (pv 6) (pa_cons (pv 3) (pa_cons (pv 7) pa_nil))))))
      (pss_cons (ps_set (i := 6) sc_law.nd rfl (Or.inl rfl) (pe_call G__law_behind (hr.mono (by decide)) rfl D__law_behind.m D__law_behind.F.kp D__law_behind.b .nil pass0 (pa_cons (pv 6) (pa_cons (pv 3) (pa_cons (pv 10) pa_nil)))))
      (pss_cons (ps_asg (pe_tup (pa_cons (pe_op op_cat (pv 8) (pv 10)) (pa_cons (pe_lc (own := [("place", 17)]) (g := gName 17) rfl sc_law.nd (pi_list (pv 7)) (blkOk_by (own := [("place", 17)]) (N := N_law) (sc := defScope s_law) (by decide +kernel)) (fun _ _ _ _ _ => (pg_name (i := 17) sc_law.nd rfl (Or.inl rfl))) (fun _ _ _ _ _ => pts_one (pt_cmpR (op_notIn_seqK (K := K) rfl) (pv 17) (pv 10) (by rfl))) (fun _ _ _ _ _ => (pv 17))) pa_nil))) (pg_tup rfl (pgs_cons (pg_name (i := 8) sc_law.nd rfl (Or.inl rfl)) (pgs_cons (pg_name (i := 7) sc_law.nd rfl (Or.inr rfl)) pgs_nil))))
      (pss_one (ps_if (pt_cmpR (op_neNil hr.units) (pe_lc (own := [("place", 17)]) (g := gName 17) rfl sc_law.nd (pi_list (pv 8)) (blkOk_by (own := [("place", 17)]) (N := N_law) (sc := defScope s_law) (by decide +kernel)) (fun _ _ _ _ _ => (pg_name (i := 17) sc_law.nd rfl (Or.inl rfl))) (fun _ _ _ _ _ => pts_one (pt_cmpR (op_notIn_seqK (K := K) rfl) (pv 17) (pv 5) (by rfl))) (fun _ _ _ _ _ => (pv 17))) (pe_lst pa_nil) (nomark _)) (pss_one (ps_ret pe_bl)) pss_nil))))))
      (pss_cons (ps_setLc (i := 11) (own := [("at", 16)]) (g := gName 16) (tt := tYes) rfl sc_law.nd rfl rfl (sw_true rfl rfl rfl (by decide +kernel)) (pi_list (pe_ix ix_tup (pe_call G_greatest (hr.mono (by decide)) rfl D_greatest.m D_greatest.F.kp D_greatest.b .nil pass0 (pa_cons (pv 6) (pa_cons (pe_lc (own := [("place", 17)]) (g := gName 17) (tt := tYes) rfl sc_law.nd (pi_list (pv 7)) (blkOk_by (own := [("place", 17)]) (N := N_law) (sc := defScope s_law) (by decide +kernel)) (fun _ _ _ _ _ => (pg_name (i := 17) sc_law.nd rfl (Or.inl rfl))) (fun _ _ _ _ _ => pts_nil) (fun _ _ _ _ _ => (pe_ix (ix_listK (K := K) rfl) (pv 3) (pv 17) (fun _ _ => rfl)))) pa_nil))) pe_int (fun _ _ => rfl))) (blkOk_by (own := [("at", 16)]) (N := N_law) (sc := defScope s_law) (by decide +kernel)) (fun _ _ _ _ _ => (pg_name (i := 16) sc_law.nd rfl (Or.inl rfl))) (fun _ _ _ _ _ => pts_nil) (fun _ _ _ _ _ => (pe_ix (ix_listK (K := K) rfl) (pv 7) (pv 16) (fun _ _ => rfl))))
      (pss_cons (ps_if (pt_cmpR (op_neD hr.units) (pe_callB cr_sorted (by rfl) T.z_sorted (by decide +kernel) (pa_cons (pe_op op_cat (pv 8) (pv 11)) pa_nil)) (pv 5) (nomark _)) (pss_one (ps_ret pe_bl)) pss_nil)
      (pss_cons (ps_par (i := 12) (j := 13) (by rfl) sc_law.nd rfl rfl (by decide) rfl rfl (pa_cons (pe_call G__law_lacks (hr.mono (by decide)) rfl D__law_lacks.m D__law_lacks.F.kp D__law_lacks.b .nil pass0 (pa_cons (pv 4) (pa_cons (pv 3) pa_nil))) (pa_cons (pe_callTy call_dictD (by rfl) T.z_dict (by decide +kernel) (pa_cons (pv 4) pa_nil)) pa_nil)) (by rfl))
      (pss_cons (ps_lock (ps_for PassesOwn.never rfl (pi_keys (pv 12)) (pg_name (i := 14) sc_law.nd rfl (Or.inl rfl)) (pss_one (ps_dput hu (pv 13) (pv 14) (pe_op op_add (pe_dget2 hu (pv 13) (pv 14) pe_int ⟨rfl, rfl, rfl, rfl⟩) (pe_dget hu (pv 12) (pv 14) (fun _ _ => rfl))) rfl))))
      (pss_cons (ps_if (PW.pt (pw_or (pt_cmpR (op_neD hr.units) (pe_ix ix_tup (pe_call G_greatest (hr.mono (by decide)) rfl D_greatest.m D_greatest.F.kp D_greatest.b .nil pass0 (pa_cons (pv 13) (pa_cons (pv 3) pa_nil))) pe_int (fun _ _ => rfl)) (pe_listRg rfl (by rfl) T.z_list (prg_1 (by rfl) T.z_range (pe_callB call_len_seq (by rfl) T.z_len (by decide +kernel) (pa_cons (pv 3) pa_nil)))) (nomark _)) (pw_or1 (pt_cmpR op_ne (pe_cmpR (op_eqMt hr.units) (pv 12) pe_dnewK (nomark _)) (pe_cmpR (op_eqD hr.units) (pv 5) (pe_listRg rfl (by rfl) T.z_list (prg_1 (by rfl) T.z_range (pe_callB call_len_seq (by rfl) T.z_len (by decide +kernel) (pa_cons (pv 3) pa_nil)))) (nomark _)) (nomark _))))) (pss_one (ps_ret pe_bl)) pss_nil)
      (pss_cons (ps_lock (ps_for PassesOwn.never rfl (pi_keys (pv 12)) (pg_name (i := 14) sc_law.nd rfl (Or.inl rfl)) (pss_cons (ps_set (i := 15) sc_law.nd rfl (Or.inl rfl) (pe_callTy call_dictD (by rfl) T.z_dict (by decide +kernel) (pa_cons (pv 13) pa_nil)))
      (pss_cons (ps_dput hu (pv 15) (pv 14) (pe_op op_sub (pe_dget hu (pv 15) (pv 14) (fun _ _ => rfl)) pe_int) rfl)
      (pss_one (ps_if (pt_cmpR (op_eqD hr.units) (pe_ix ix_tup (pe_call G_greatest (hr.mono (by decide)) rfl D_greatest.m D_greatest.F.kp D_greatest.b .nil pass0 (pa_cons (pv 15) (pa_cons (pv 3) pa_nil))) pe_int (fun _ _ => rfl)) (pe_listRg rfl (by rfl) T.z_list (prg_1 (by rfl) T.z_range (pe_callB call_len_seq (by rfl) T.z_len (by decide +kernel) (pa_cons (pv 3) pa_nil)))) (nomark _)) (pss_one (ps_ret pe_bl)) pss_nil))))))
      (pss_one (ps_ret pe_bl)))))))))))))), ?_⟩
    refine ⟨_, rfl, a, ns, rfl, hS, hl, fun d c H1 hd hc D1 K1 => ?_⟩
    refine ⟨_, rfl, _, rfl, d, c, _, rfl, D1, by decide, by decide, fun r H2 r0 r1 D2 K2 => ⟨_, _, rfl, rfl, d, c, _, rfl, D2, by omega, by omega, fun p zs H3 hp hp3 C3 lz D3 K3 => ?_⟩⟩
    refine ⟨_, rfl, _, rfl, _, rfl, d, c, _, rfl, D3, by decide, by decide, fun m H4 m0 m1 D4 K4 => ?_⟩
    have hp4 := K4 _ _ hp3 (D3.nlst hp3)
    refine ⟨d, c, p, zs, m, rfl, D4, hp4, C3, by omega, by omega, m0, by omega, fun pl rs os H5 hpl h5 O5 G5 len5 D5 K5 => ?_⟩
    have hp5 := K5 _ _ hp4 (D4.nlst hp4)
    refine ⟨_, rfl, _, rfl, d, c, p, zs, rfl, D5, hp5, C3, by omega, fun pf fr H6 hpf h6 F6 FZ D6 K6 => ⟨by show 2 ≤ sizeLine; omega, fun t6 ht6 => ?_⟩⟩
    refine ⟨t6, _, rfl, SqT.of upd_same, rfl, _, _, rfl, _, _, rfl, rfl, ?_⟩
    have l12 : os.length ≤ 12 := by omega
    have l60 : os.length ≤ 60 := by omega
    have z5 : zs.length ≤ 5 := by omega
    have G : ∀ o ∈ os, OkO o := fun o ho => (G5 o ho).1
    have GZ : ∀ o ∈ os, o.py ∈ zs ∧ o.pe ∈ zs := fun o ho => (G5 o ho).2
    have Kt := Keep.upd_new (ds := []) ht6 (o := .tup [.ref pl, .ref pf])
    have O7 := (O5.keepD K6 D5.notup).keep Kt
    have h7 := Kt _ _ h6 (by simp)
    have hl7 := Kt _ _ (K6 _ _ h5 (D5.nlst h5)) (by simp)
    have D7 := D6.keep Kt
    have nf : pf ≠ d := (D5.new hpf).1.symm
    generalize upd H6 t6 (.tup [.ref pl, .ref pf]) = H7 at O7 h7 hl7 D7
    clear Kt K6 K5 K4 K3 K2 K1 D1 D2 D3 D4 D5 D6 hp3 hp4 hp5 h5 h6 hpl hpf hp O5 hd hc ht6 G5 len5
    refine ⟨_, rfl, _, rfl, pf, pl, fr, os, rfl, h7, ⟨rs, .inl hl7, O7⟩, F6, G, l60, fun R1 L1 W1 E1 w1 H8 K8 hR8 hL8 hnL hW8 wk gr => ⟨R1, _, 0, V.ref L1, rfl, rfl, SqT.of hR8, rfl, ?_⟩⟩
    have B8 : Bz H8 d c pl pf L1 rs fr os E1 := ⟨D7.keep K8, K8 _ _ hl7 (by simp), K8 _ _ h7 (by simp), nf, O7.keep K8, hL8⟩
    clear K8 hR8 hL8 h7 hl7 D7 O7 hnL hW8 wk
    have HZ : OkH zs fr := ⟨F6.nd, FZ⟩
    have lr : (rs.map V.ref).length = os.length := by rw [List.length_map]; exact B8.Od.len
    refine ⟨_, rfl, pf, _, rfl, .inl B8.hf, fun ph hph => ?_⟩
    have K9 := Keep.upd_new (ds := []) hph (o := .dK (kvI fr))
    have B9 := B8.keep K9
    have h9 : (upd H8 ph (.dK (kvI fr))) ph = some (.dK (kvI fr)) := upd_same
    have nhd : ph ≠ d := (B8.D.new hph).1.symm
    have nhf : pf ≠ ph := ne_of_none B8.hf hph
    generalize upd H8 ph (.dK (kvI fr)) = H9 at B9 h9
    refine ⟨_, rfl, pl, _, rfl, .inl (SqL.of B9.hl), ?_⟩
    rw [lr]
    refine ⟨_, rfl, RgOk.of_le (by omega) (by omega) (by omega) (by omega), fun pq hpq => ?_⟩
    rw [rgV_nat]
    refine ⟨Nat.zero_le _, fun ps hps => ⟨by show 3 ≤ sizeLine; omega, fun t9 ht9 => ?_⟩⟩
    refine ⟨t9, _, rfl, SqT.of upd_same, rfl, _, _, rfl, _, _, rfl, _, _, rfl, rfl, ?_⟩
    have Kq := Keep.upd_new (ds := []) hpq (o := .lst (nats (List.range os.length)))
    have Ks := Keep.upd_new (ds := []) hps (o := .lst [])
    have Kt := Keep.upd_new (ds := []) ht9 (o := .tup [.ref ph, .ref pq, .ref ps])
    have hq9 := Kt _ _ (Ks _ _ (upd_same (H := H9) (a := pq) (o := .lst (nats (List.range os.length)))) (by simp)) (by simp)
    have hs9 := Kt _ _ (upd_same (H := upd H9 pq (.lst (nats (List.range os.length)))) (a := ps) (o := .lst (nats []))) (by simp)
    have KK := (Kq.trans Ks).trans Kt
    have BA := B9.keep KK
    have hA := KK _ _ h9 (by simp)
    generalize upd (upd (upd H9 pq (.lst (nats (List.range os.length)))) ps (.lst (nats []))) t9 (.tup [.ref ph, .ref pq, .ref ps]) = HA at hq9 hs9 BA hA
    clear KK Kt Ks Kq hps hpq ht9 B9 h9 K9 hph B8
    refine ⟨_, rfl, d, c, _, rfl, BA.D, by decide, by decide, fun n HB n0 n1 DB KB => ?_⟩
    have BB := BA.keepD KB DB
    have hB := KB _ _ hA (by simpa using nhd)
    have hqB := KB _ _ hq9 (BA.D.nlst hq9)
    have hsB := KB _ _ hs9 (BA.D.nlst hs9)
    clear KB DB BA hA hq9 hs9
    have L0 : Led fr fr os (fun _ => false) (List.range os.length) [] := by
      refine ⟨Stands.none F6, ?_, .nil, by simp, fun n => ?_⟩
      · exact (List.filter_eq_self.mpr fun _ _ => rfl).symm
      · unfold bal sumP
        have : ∀ r : List Nat, (r.map fun i => if false = true then flowAt os i n else 0).sum = 0 := fun r => by
          induction r with
          | nil => rfl
          | cons a r ih => rw [List.map_cons, List.sum_cons, ih]; rfl
        rw [this]; omega
    refine ⟨_, rfl, by omega, by omega, for_range (lo := 0) (n := n.toNat) (fun i σ H => Bz H d c pl pf L1 rs fr os E1 ∧ ∃ h S l stl ph pq ps v9 v10, σ = [some (.ref a), some (.ref d), some (.ref p), some (.ref pl), some (.ref pf), some (.ref L1), some (.ref ph), some (.ref pq), some (.ref ps), v9, v10, none, none, none, none, none, none, none] ∧ ph ≠ d ∧ pf ≠ ph ∧ H ph = some (.dK (kvI h)) ∧ H pq = some (.lst (nats l)) ∧ H ps = some (.lst (nats stl)) ∧ OkH zs h ∧ Led fr h os S l stl) ⟨BB, _, _, _, _, ph, pq, ps, none, none, rfl, nhd, nhf, hB, hqB, hsB, HZ, L0⟩ ?_ ?_⟩
    · rintro i σ HC hi ⟨BC, h, S, l, stl, ph, pq, ps, v9, v10, rfl, nhd, nhf, hh, hq, hs, OH, L⟩
      have nn : ∀ n, 0 ≤ getI h n := fun n => by rw [L.has n]; exact L.st.nn n
      have Fh := OH.okF C3 (by omega) nn
      have hlen := OH.len
      refine ⟨_, rfl, _, rfl, _, rfl, _, rfl, d, c, ph, pl, pq, h, os, rs, l, rfl, BC.D, nhd, hh, Fh, by omega, BC.hl, BC.Od, G, l60, hq, L.ri, fun pu u HD hnu DD KD huD su => ?_⟩
      have BD := BC.keepD KD DD
      have hhD := KD _ _ hh (by simpa using nhd)
      have hqD := KD _ _ hq (BC.D.nlst hq)
      have hsD := KD _ _ hs (BC.D.nlst hs)
      have ru : RiL os.length u := ⟨su.ri, fun i hi => L.ri.lt i (su.sub i hi)⟩
      have lu := ru.len
      clear KD DD BC hh hq hs hnu
      refine ⟨_, rfl, _, rfl, _, rfl, ph, pl, pu, h, os, rs, u, rfl, hhD, BD.hl, BD.Od, by omega, huD, ru.lt, by omega, fun pb HE hnb KE hb => ?_⟩
      have BE := BD.keep KE
      have hqE := KE _ _ hqD (by simp)
      have hsE := KE _ _ hsD (by simp)
      have huE := KE _ _ huD (by simp)
      have L2 := L.step su (h' := (picks os u).foldl stepI h) fun n => picks_get G n u
      have OH2 := OH.fold (os := picks os u) fun o ho => GZ o (picks_mem o ho)
      have nbd : pb ≠ d := (BD.D.new hnb).1.symm
      have nbf : pf ≠ pb := ne_of_none BD.hf hnb
      generalize (picks os u).foldl stepI h = h2 at hb L2 OH2
      have lst : stl.length ≤ os.length := by
        have := nodup_sub (ys := []) (zs := []) .nil (by simp)
        have := (perm_in L.nd (fun i hi => ((L.mem i).mp hi).1)).length_eq
        have e := List.length_filter_le (inL stl) (List.range os.length)
        rw [List.length_range] at e
        omega
      clear KE BD hqD hsD huD hnb hhD
      refine ⟨_, rfl, _, rfl, ps, pu, _, _, rfl, rfl, hsE, huE, by unfold nats; rw [List.length_map, List.length_map]; omega, fun pz hpz => ?_⟩
      have e1 : nats stl ++ nats u = nats (stl ++ u) := by unfold nats; rw [List.map_append]
      rw [e1]
      have Kz := Keep.upd_new (ds := []) hpz (o := .lst (nats (stl ++ u)))
      have hz : (upd HE pz (.lst (nats (stl ++ u)))) pz = some (.lst (nats (stl ++ u))) := upd_same
      have BF := BE.keep Kz
      have hqF := Kz _ _ hqE (by simp)
      have hbF := Kz _ _ hb (by simp)
      have huF := Kz _ _ huE (by simp)
      generalize upd HE pz (.lst (nats (stl ++ u))) = HF at hz BF hqF hbF huF
      clear Kz BE hqE hsE huE hb hpz
      refine ⟨_, rfl, pq, rfl, ⟨_, SqL.of hqF⟩, lc_do fun Q hQ => lc_nums (NW.list hqF) (by have := L.ri.len; omega) (fun i => !decide (i ∈ u)) (fun i => i) (fun _ => rfl) (fun i hi H8 K8 F q => ?_) (fun i hi _ H8 K8 R q => ⟨_, rfl, q H8 Keep.refl⟩) fun La HG hnG KG hLa => hQ La HG ?_⟩
      · refine ⟨_, rfl, _, rfl, pu, _, rfl, .inl (SqL.of (K8 _ _ huF (by simp))), rfl, all_flat_nat _, _, rfl, ?_⟩
        rw [inV_nat]
        exact q H8 Keep.refl
      clear hQ Q
      rw [List.map_id'] at hLa
      refine ⟨by show 2 ≤ sizeLine; omega, fun t ht => ⟨t, _, rfl, SqT.of upd_same, rfl, _, _, rfl, _, _, rfl, rfl, ?_⟩⟩
      have KH := KG.trans (Keep.upd_new ht (o := .tup [.ref pz, .ref La]))
      have BH := BF.keep KH
      have hzH := KH _ _ hz (by simp)
      have hbH := KH _ _ hbF (by simp)
      have hLH := Keep.upd_new (ds := []) ht (o := .tup [.ref pz, .ref La]) _ _ hLa (by simp)
      generalize upd HG t (.tup [.ref pz, .ref La]) = HH at BH hzH hbH hLH
      clear KH KG hLa BF hz hbF hqF huF hnG ht
      refine ⟨_, rfl, pz, rfl, ⟨_, SqL.of hzH⟩, lc_do fun Q hQ => lc_nums (NW.list hzH) (by rw [List.length_append]; omega) (fun i => !decide (i ∈ (List.range os.length).filter E1)) (fun i => i) (fun _ => rfl) (fun i hi H8 K8 F q => ?_) (fun i hi _ H8 K8 R q => ⟨_, rfl, q H8 Keep.refl⟩) fun Le HI hnI KI hLe => hQ Le HI ?_⟩
      · refine ⟨_, rfl, _, rfl, L1, _, rfl, .inl (SqL.of (K8 _ _ BH.hL (by simp))), rfl, all_flat_nat _, _, rfl, ?_⟩
        rw [inV_nat]
        exact q H8 Keep.refl
      clear hQ Q
      have emp : ((stl ++ u).filter fun i => !decide (i ∈ (List.range os.length).filter E1)) = [] := by
        refine List.filter_eq_nil_iff.mpr fun i hi => ?_
        rw [decide_eq_true (L2.within gr i hi)]; simp
      rw [emp] at hLe
      refine ⟨Nat.zero_le _, fun N hN => ⟨Le, N, _, rfl, rfl, Keep.upd_new (ds := []) hN _ _ hLe (by simp), upd_same, _, rfl, iteF ?_⟩⟩
      have KJ := KI.trans (Keep.upd_new hN (o := .lst []))
      exact ⟨BH.keep KJ, h2, _, _, _, pb, La, pz, _, _, rfl, nbd, nbf, KJ _ _ hbH (by simp), KJ _ _ hLH (by simp), KJ _ _ hzH (by simp), OH2, L2⟩
    · rintro σ HC ⟨BC, h, S, l, stl, ph, pq, ps, v9, v10, rfl, nhd, nhf, hh, hq, hs, OH, L⟩
      have nn : ∀ n, 0 ≤ getI h n := fun n => by rw [L.has n]; exact L.st.nn n
      have Fh := OH.okF C3 (by omega) nn
      have hlen := OH.len
      have R := L.ri
      have lS := R.len
      have lst : stl.length ≤ os.length := by
        have := (perm_in L.nd (fun i hi => ((L.mem i).mp hi).1)).length_eq
        have e := List.length_filter_le (inL stl) (List.range os.length)
        rw [List.length_range] at e
        omega
      refine ⟨_, rfl, _, rfl, pq, rfl, ⟨_, SqL.of hq⟩, lc_do fun Q hQ => lc_picks (NW.list hq) (by omega) BC.Od R.lt (fun _ => true) (fun _ => rfl) (fun i hi H8 K8 F q => tYes_go (q H8 Keep.refl)) (fun i hi r hr8 H8 K8 R q => ?_) fun Lq rq HD hnq KD hLq OD => hQ Lq HD ?_⟩
      · have hrr : (rs.map V.ref)[i]? = some (.ref r) := by rw [List.getElem?_map, hr8]; rfl
        exact ⟨_, rfl, _, rfl, pl, _, i, _, rfl, rfl, SqL.of (K8 _ _ BC.hl (by simp)), atI_nat hrr, q⟩
      clear hQ Q
      rw [List.filter_eq_self.mpr fun _ _ => rfl] at OD
      have lnp := picks_length R.lt
      refine ⟨ph, Lq, h, picks os l, rfl, KD _ _ hh (by simp), ⟨rq, .inl hLq, OD⟩, Fh, fun o ho => G o (picks_mem o ho), by omega, fun R2 L2 W2 T1 w2 HE KE hR hLE hnL hWE wk2 gr2 => ?_⟩
      refine ⟨R2, _, 0, V.ref L2, rfl, rfl, SqT.of hR, rfl, L2, rfl, ⟨_, SqL.of hLE⟩, ?_⟩
      have KCE := KD.trans KE
      have hqE := KCE _ _ hq (by simp)
      have hsE := KCE _ _ hs (by simp)
      have BE := BC.keep KCE
      have fl : ((List.range (picks os l).length).filter T1).length ≤ 60 := by
        have := List.length_filter_le T1 (List.range (picks os l).length)
        rw [List.length_range] at this; omega
      refine lc_do fun Q hQ => lc_nums (NW.list hLE) (by omega) (fun _ => true) (fun j => l.getD j 0) (fun _ => rfl) (fun i hi H8 K8 F q => tYes_go (q H8 Keep.refl)) (fun i hi _ H8 K8 R q => ?_) fun Lz HF hnz KF hz => hQ Lz HF ?_
      · have il := List.mem_range.mp (List.mem_filter.mp hi).1
        rw [lnp] at il
        exact ⟨_, rfl, _, rfl, pq, _, (i : Nat), _, rfl, rfl, SqL.of (K8 _ _ hqE (by simp)), atI_nat (by unfold nats; rw [List.getElem?_map, getD_at il]; rfl), q H8 Keep.refl⟩
      clear hQ Q
      rw [List.filter_eq_self.mpr fun _ _ => rfl, lnp] at hz
      have whole := L.whole G gr gr2
      have BF := BE.keep KF
      have hsF := KF _ _ hsE (by simp)
      have hz : HF Lz = some (.lst (nats (lastL l T1))) := hz
      have ll : (lastL l T1).length ≤ 60 := by
        unfold lastL
        rw [List.length_map, ← lnp]; exact fl
      generalize lastL l T1 = la at hz whole ll
      clear KF KCE KE KD BE BC hqE hsE hLE hWE hR OD hLq hq hh hs hnz hnL hnq wk2 gr2 fl
      refine ⟨_, rfl, _, rfl, ps, Lz, _, _, rfl, rfl, hsF, hz, by unfold nats; rw [List.length_map, List.length_map]; omega, fun pc hpc => ?_⟩
      have e1 : nats stl ++ nats la = nats (stl ++ la) := by unfold nats; rw [List.map_append]
      rw [e1]
      refine noArg ?_
      refine sorted_nat (SqL.of upd_same) (by rw [List.length_append]; have := whole.length_eq; have e := List.length_filter_le E1 (List.range os.length); rw [List.length_range] at e; rw [List.length_append] at this; omega) whole (List.Pairwise.filter _ List.pairwise_le_range) fun p1 hp1 => ?_
      have KG := (Keep.upd_new (ds := []) hpc (o := .lst (nats (stl ++ la)))).trans (Keep.upd_new hp1 (o := .lst (nats ((List.range os.length).filter E1))))
      have BG := BF.keep KG
      have h1 : (upd (upd HF pc (.lst (nats (stl ++ la)))) p1 (.lst (nats ((List.range os.length).filter E1)))) p1 = _ := upd_same
      generalize upd (upd HF pc (.lst (nats (stl ++ la)))) p1 (.lst (nats ((List.range os.length).filter E1))) = HG at BG h1
      clear KG BF hsF hz hp1 hpc whole
      refine ⟨_, rfl, _, _, Dp_nat (SqL.of h1), Dp_nat (SqL.of BG.hL), shaped_nat _, shaped_nat _, ?_⟩
      rw [eqv_nat, decide_eq_true rfl]
      refine ⟨false, rfl, iteF ?_⟩
      have frl := HZ.len
      refine ⟨_, rfl, _, rfl, pf, pl, fr, os, rs, rfl, BG.hf, BG.hl, BG.Od, F6, by omega, l60, fun pk HH hnk KH hk => ?_⟩
      have BH := BG.keep KH
      have nkd : pk ≠ d := (BG.D.new hnk).1.symm
      have nkf : pf ≠ pk := ne_of_none BG.hf hnk
      refine ⟨_, rfl, pf, _, rfl, .inl BH.hf, fun pg hpg => ?_⟩
      have Kg := Keep.upd_new (ds := []) hpg (o := .dK (kvI fr))
      have BI := BH.keep Kg
      have hkI := Kg _ _ hk (by simp)
      have hgI : (upd HH pg (.dK (kvI fr))) pg = some (.dK (kvI fr)) := upd_same
      have ngd : pg ≠ d := (BH.D.new hpg).1.symm
      have ngf : pf ≠ pg := ne_of_none BH.hf hpg
      have ngk : pk ≠ pg := ne_of_none hk hpg
      generalize upd HH pg (.dK (kvI fr)) = HI at BI hkI hgI
      clear Kg BH KH BG h1 hk hnk hpg
      have bnd := fold_nd F6.nd os
      have lkn := lack_keys bnd
      have ki := lack_in (HZ.fold GZ)
      have lkl : (lackI (os.foldl stepI fr)).length ≤ 60 := by
        have a1 := lack_len (b := os.foldl stepI fr)
        have a2 := (HZ.fold GZ).len
        omega
      have ek : ∀ {i : Nat} {k : Key} {v : V}, (kvI (lackI (os.foldl stepI fr)))[i]? = some (k, v) → ∃ q : Str × Int, (lackI (os.foldl stepI fr))[i]? = some q ∧ k = Sum.inr q.1 ∧ v = .int q.2 := fun {i k v} e => by
        unfold kvI at e
        rw [List.getElem?_map] at e
        obtain ⟨q, hq, e⟩ := Option.map_eq_some_iff.mp e
        injection e with e1 e2
        exact ⟨q, hq, e1.symm, e2.symm⟩
      have lkv : (kvI (lackI (os.foldl stepI fr))).length = (lackI (os.foldl stepI fr)).length := by unfold kvI; rw [List.length_map]
      refine ⟨_, _, rfl, pk, _, hkI, trivial, fun od => ⟨_, rfl, pk, od, rfl, .inl ⟨_, upd_same, for_it (walk_keys (d := pk) (o := od) (kvs := kvI (lackI (os.foldl stepI fr)))) (fun i σ H2 => Keep [pg] (upd HI pk (.frz od (.dK (kvI (lackI (os.foldl stepI fr)))))) H2 ∧ H2 pg = some (.dK (kvI (fullF fr ((lackI (os.foldl stepI fr)).take i)))) ∧ ∃ v14, σ = [some (.ref a), some (.ref d), some (.ref p), some (.ref pl), some (.ref pf), some (.ref L1), some (.ref ph), some (.ref pq), some (.ref ps), v9, v10, some (.ref Lz), some (.ref pk), some (.ref pg), v14, none, none, none]) ⟨Keep.refl, by rw [upd_ne ngk.symm]; exact hgI, none, rfl⟩ (fun i σ H2 _ ⟨k, _⟩ => k _ _ upd_same (by simpa using ngk)) ?_ ?_⟩⟩⟩
      · rintro i x σ H2 H3 hi ⟨K2, hg2, v14, rfl⟩ ⟨rfl, k, v, e, rfl⟩
        obtain ⟨q, hq, rfl, rfl⟩ := ek e
        have qm := List.mem_of_getElem? hq
        have hk2 := K2 _ _ upd_same (by simpa using ngk)
        have fl2 : (fullF fr ((lackI (os.foldl stepI fr)).take i)).length ≤ 5 := by
          have := (HZ.full (lk := (lackI (os.foldl stepI fr)).take i) fun p hp => ki p (List.mem_of_mem_take hp)).len
          omega
        refine ⟨_, rfl, pg, rfl, IsD_kvI hg2, _, rfl, _, get_kvI hg2, ?_⟩
        rw [getD_kvI]
        refine ⟨_, rfl, _, rfl, pk, _, rfl, frz_get lkn hk2 qm, _, _, rfl, rfl, _, rfl, _, rfl, pg, _, rfl, DPutS hg2 (by unfold kvI; rw [List.length_map]; omega), ?_⟩
        have e3 : putK (kvI (fullF fr ((lackI (os.foldl stepI fr)).take i))) (Sum.inr q.1) (.int (getI (fullF fr ((lackI (os.foldl stepI fr)).take i)) q.1 + q.2)) = kvI (fullF fr ((lackI (os.foldl stepI fr)).take (i + 1))) := by
          rw [take_succ_of hq, fullF_snoc]; exact putK_kvI
        rw [e3]
        exact ⟨K2.trans (Keep.upd_in (by simp)), upd_same, _, rfl⟩
      · rintro σ H2 ⟨K2, hg2, v14, rfl⟩
        rw [lkv, List.take_length] at hg2
        refine ⟨K2 _ _ upd_same (by simpa using ngk), ?_⟩
        have B2 : Bz (upd H2 pk (.dK (kvI (lackI (os.foldl stepI fr))))) d c pl pf L1 rs fr os E1 := by
          have b1 := BI.keepP (H' := upd HI pk (.frz od (.dK (kvI (lackI (os.foldl stepI fr)))))) (Keep.upd_in (ds := [pk]) (by simp)) hkI nkd nkf
          have b2 := b1.keepP K2 (by rw [upd_ne ngk.symm]; exact hgI) ngd ngf
          have nb : ∀ b o, (upd HI pk (.frz od (.dK (kvI (lackI (os.foldl stepI fr)))))) b = some o → b ∉ [pg] → b ∉ [pk] → (upd H2 pk (.dK (kvI (lackI (os.foldl stepI fr))))) b = some o := fun b o e n1 n2 => by
            rw [upd_ne (by simpa using n2)]; exact K2 b o e n1
          have kp : Keep [pk, pg] HI (upd H2 pk (.dK (kvI (lackI (os.foldl stepI fr))))) := fun b o e n => by
            simp only [List.mem_cons, List.not_mem_nil, or_false, not_or] at n
            rw [upd_ne n.1]
            exact K2 b o (by rw [upd_ne n.1]; exact e) (by simpa using n.2)
          have s1 : Keep [pk] (upd HI pg (.dK (kvI (fullF fr (lackI (os.foldl stepI fr)))))) (upd H2 pk (.dK (kvI (lackI (os.foldl stepI fr))))) := fun b o e n => by
            by_cases c : b = pg
            · subst c
              rw [upd_same] at e
              rw [upd_ne (by simpa using n), hg2]; exact e
            · rw [upd_ne c] at e
              exact kp b o e (by simp only [List.mem_cons, List.not_mem_nil, or_false, not_or]; exact ⟨by simpa using n, c⟩)
          have c1 := BI.keepP (H' := upd HI pg (.dK (kvI (fullF fr (lackI (os.foldl stepI fr)))))) (Keep.upd_in (ds := [pg]) (by simp)) hgI ngd ngf
          exact c1.keepP s1 (by rw [upd_ne ngk]; exact hkI) nkd nkf
        have hk2 : (upd H2 pk (.dK (kvI (lackI (os.foldl stepI fr))))) pk = some (.dK (kvI (lackI (os.foldl stepI fr)))) := upd_same
        have hg3 : (upd H2 pk (.dK (kvI (lackI (os.foldl stepI fr))))) pg = some (.dK (kvI (fullF fr (lackI (os.foldl stepI fr))))) := by rw [upd_ne ngk.symm]; exact hg2
        generalize upd H2 pk (.dK (kvI (lackI (os.foldl stepI fr)))) = HJ at B2 hk2 hg3
        clear K2 hg2 BI hkI hgI H2
        have OF := HZ.full (lk := lackI (os.foldl stepI fr)) ki
        have fnn := fun n => full_nn (fr := fr) (os := os) G F6 n
        have FF := OF.okF C3 (by omega) fun n => (fnn n).1
        refine ⟨_, rfl, _, rfl, pg, pl, _, os, rfl, hg3, ⟨rs, .inl B2.hl, B2.Od⟩, FF, G, l60, fun R3 L3 W3 P3 w3 HK KK hR3 hL3 _ _ _ gr3 => ⟨R3, _, 0, V.ref L3, rfl, rfl, SqT.of hR3, rfl, ?_⟩⟩
        have BK := B2.keep KK
        have hkK := KK _ _ hk2 (by simp)
        have hgK := KK _ _ hg3 (by simp)
        clear KK hR3 B2 hk2 hg3
        refine ⟨_, rfl, pl, _, rfl, .inl (SqL.of BK.hl), ?_⟩
        rw [lr]
        refine ⟨_, rfl, RgOk.of_le (by omega) (by omega) (by omega) (by omega), fun px hpx => ?_⟩
        rw [rgV_nat]
        refine ⟨_, _, Dp_nat (SqL.of (Keep.upd_new (ds := []) hpx _ _ hL3 (by simp))), Dp_nat (SqL.of upd_same), shaped_nat _, shaped_nat _, ?_⟩
        rw [eqv_nat, decide_eq_true (full_all G F6.nd gr3)]
        refine ⟨false, rfl, iteF ?_⟩
        have Kx := Keep.upd_new (ds := []) hpx (o := .lst (nats (List.range os.length)))
        have BL := BK.keep Kx
        have hkL := Kx _ _ hkK (by simp)
        have hgL := Kx _ _ hgK (by simp)
        generalize upd HK px (.lst (nats (List.range os.length))) = HL at BL hkL hgL
        clear Kx BK hkK hgK gr3
        refine ⟨_, rfl, fun pm hpm => ⟨pk, pm, _, rfl, rfl, Keep.upd_new (ds := []) hpm _ _ hkL (by simp), upd_same, ?_⟩⟩
        have Km := Keep.upd_new (ds := []) hpm (o := .dK [])
        have BM := BL.keep Km
        have hkM := Km _ _ hkL (by simp)
        have hgM := Km _ _ hgL (by simp)
        generalize upd HL pm (.dK []) = HM at BM hkM hgM
        clear Km BL hkL hgL
        refine ⟨_, rfl, _, rfl, pl, _, rfl, .inl (SqL.of BM.hl), ?_⟩
        rw [lr]
        refine ⟨_, rfl, RgOk.of_le (by omega) (by omega) (by omega) (by omega), fun py hpy => ?_⟩
        rw [rgV_nat]
        have Ky := Keep.upd_new (ds := []) hpy (o := .lst (nats (List.range os.length)))
        have BN := BM.keep Ky
        have hkN := Ky _ _ hkM (by simp)
        have hgN := Ky _ _ hgM (by simp)
        have hyN : (upd HM py (.lst (nats (List.range os.length)))) py = some (.lst (nats (List.range os.length))) := upd_same
        generalize upd HM py (.lst (nats (List.range os.length))) = HN at BN hkN hgN hyN
        clear Ky BM hkM hgM
        refine ⟨_, _, Dp_nat (SqL.of BN.hL), Dp_nat (SqL.of hyN), shaped_nat _, shaped_nat _, ?_⟩
        rw [eqv_nat]
        have e9 : (kvI (lackI (os.foldl stepI fr))).isEmpty = decide ((List.range os.length).filter E1 = List.range os.length) := by
          rw [← lack_nil G F6.nd gr]
          unfold kvI
          cases lackI (os.foldl stepI fr) <;> rfl
        rw [e9]
        refine ⟨rfl, false, by simp, iteF ?_⟩
        refine ⟨pk, _, hkN, trivial, fun od => ⟨_, rfl, pk, od, rfl, .inl ⟨_, upd_same, for_it (walk_keys (d := pk) (o := od) (kvs := kvI (lackI (os.foldl stepI fr)))) (fun i σ H2 => Keep [] (upd HN pk (.frz od (.dK (kvI (lackI (os.foldl stepI fr)))))) H2 ∧ ∃ v14 v15, σ = [some (.ref a), some (.ref d), some (.ref p), some (.ref pl), some (.ref pf), some (.ref L1), some (.ref ph), some (.ref pq), some (.ref ps), v9, v10, some (.ref Lz), some (.ref pk), some (.ref pg), v14, v15, none, none]) ⟨Keep.refl, v14, none, rfl⟩ (fun i σ H2 _ ⟨k, _⟩ => k _ _ upd_same (by simp)) ?_ ?_⟩⟩⟩
        · rintro i x σ H2 H3 hi ⟨K2, v14, v15, rfl⟩ ⟨rfl, k, v, e, rfl⟩
          obtain ⟨q, hq, rfl, rfl⟩ := ek e
          have qm := List.mem_of_getElem? hq
          have BF := (BN.keepP (H' := upd HN pk (.frz od (.dK (kvI (lackI (os.foldl stepI fr)))))) (Keep.upd_in (ds := [pk]) (by simp)) hkN nkd nkf).keep K2
          have hg2 : H3 pg = some (.dK (kvI (fullF fr (lackI (os.foldl stepI fr))))) := K2 _ _ (by rw [upd_ne ngk.symm]; exact hgN) (by simp)
          refine ⟨_, rfl, pg, _, rfl, .inl hg2, fun pw hpw => ?_⟩
          have Kw := Keep.upd_new (ds := []) hpw (o := .dK (kvI (fullF fr (lackI (os.foldl stepI fr)))))
          have BW := BF.keep Kw
          have hw : (upd H3 pw (.dK (kvI (fullF fr (lackI (os.foldl stepI fr)))))) pw = some (.dK (kvI (fullF fr (lackI (os.foldl stepI fr))))) := upd_same
          have nwd : pw ≠ d := (BF.D.new hpw).1.symm
          have nwf : pf ≠ pw := ne_of_none BF.hf hpw
          have hw0 := K2.none_of hpw (by simp)
          have neg : getI (os.foldl stepI fr) q.1 < 0 := by
            have qm := qm
            unfold lackI at qm
            obtain ⟨z, hz, rfl⟩ := List.mem_map.mp qm
            obtain ⟨z1, z2⟩ := List.mem_filter.mp hz
            have z2 : z.2 < 0 := of_decide_eq_true z2
            have : getI (os.foldl stepI fr) z.1 = z.2 := by
              unfold getI
              rw [lookI_mem bnd (show (z.1, z.2) ∈ _ from z1)]; rfl
            show getI (os.foldl stepI fr) z.1 < 0
            omega
          have one := (fnn q.1).2 neg
          obtain ⟨v, hv⟩ : ∃ v, lookI (fullF fr (lackI (os.foldl stepI fr))) q.1 = some v := by
            cases e : lookI (fullF fr (lackI (os.foldl stepI fr))) q.1 with
            | some v => exact ⟨v, rfl⟩
            | none => unfold getI at one; rw [e] at one; exact absurd one (by decide)
          have gv : getI (fullF fr (lackI (os.foldl stepI fr))) q.1 = v := by unfold getI; rw [hv]; rfl
          have dg : DGet (upd H3 pw (.dK (kvI (fullF fr (lackI (os.foldl stepI fr)))))) pw (.str q.1) (some (.int v)) := by
            have := get_kvI (n := q.1) hw
            rw [hv] at this; exact this
          have ofl := OF.len
          refine ⟨_, rfl, _, rfl, pw, .int v, rfl, dg, _, _, rfl, rfl, _, rfl, _, rfl, pw, _, rfl, DPutS hw (by unfold kvI; rw [List.length_map]; omega), ?_⟩
          have e3 : putK (kvI (fullF fr (lackI (os.foldl stepI fr)))) (Sum.inr q.1) (.int (v - 1)) = kvI (putI (fullF fr (lackI (os.foldl stepI fr))) q.1 (v - 1)) := putK_kvI
          rw [e3]
          have ol := OF.put (ki q qm) (v - 1)
          have gl : ∀ n, getI (putI (fullF fr (lackI (os.foldl stepI fr))) q.1 (v - 1)) n = getI (fullF fr (lackI (os.foldl stepI fr))) n - if n = q.1 then 1 else 0 := fun n => by
            rw [getI_put]
            by_cases c : n = q.1
            · rw [if_pos c, if_pos c, c, gv]
            · rw [if_neg c, if_neg c]; omega
          have Fl := ol.okF C3 (by omega) fun n => by
            rw [gl n]
            have := (fnn n).1
            by_cases c : n = q.1
            · rw [if_pos c, c]; omega
            · rw [if_neg c]; omega
          generalize putI (fullF fr (lackI (os.foldl stepI fr))) q.1 (v - 1) = less at ol gl Fl
          have BX := BW.keepP (H' := upd (upd H3 pw (.dK (kvI (fullF fr (lackI (os.foldl stepI fr)))))) pw (.dK (kvI less))) (Keep.upd_in (ds := [pw]) (by simp)) hw nwd nwf
          have KX : Keep [] (upd HN pk (.frz od (.dK (kvI (lackI (os.foldl stepI fr)))))) (upd (upd H3 pw (.dK (kvI (fullF fr (lackI (os.foldl stepI fr)))))) pw (.dK (kvI less))) := (K2.trans Kw).trans_new hw0
          have hx : (upd (upd H3 pw (.dK (kvI (fullF fr (lackI (os.foldl stepI fr)))))) pw (.dK (kvI less))) pw = some (.dK (kvI less)) := upd_same
          generalize upd (upd H3 pw (.dK (kvI (fullF fr (lackI (os.foldl stepI fr)))))) pw (.dK (kvI less)) = HX at BX KX hx
          refine ⟨_, rfl, _, rfl, pw, pl, less, os, rfl, hx, ⟨rs, .inl BX.hl, BX.Od⟩, Fl, G, l60, fun R4 L4 W4 P4 w4 HY KY hR4 hL4 _ _ _ gr4 => ⟨R4, _, 0, V.ref L4, rfl, rfl, SqT.of hR4, rfl, ?_⟩⟩
          have BY := BX.keep KY
          refine ⟨_, rfl, pl, _, rfl, .inl (SqL.of BY.hl), ?_⟩
          rw [lr]
          refine ⟨_, rfl, RgOk.of_le (by omega) (by omega) (by omega) (by omega), fun pz hpz => ?_⟩
          rw [rgV_nat]
          refine ⟨_, _, Dp_nat (SqL.of (Keep.upd_new (ds := []) hpz _ _ hL4 (by simp))), Dp_nat (SqL.of upd_same), shaped_nat _, shaped_nat _, ?_⟩
          rw [eqv_nat, decide_eq_false (less_all G F6.nd neg gl gr4)]
          exact ⟨false, rfl, iteF ⟨(KX.trans KY).trans (Keep.upd_new hpz), _, _, rfl⟩⟩
        · rintro σ H2 ⟨K2, v14, v15, rfl⟩
          refine ⟨K2 _ _ upd_same (by simp), ?_⟩
          exact q _
end
end My
set_option Elab.async false
set_option maxRecDepth 100000
set_option maxHeartbeats 4000000
namespace My
open PySem L2
section
variable {P : Program} {w : World} {K : PySem.W.Frag} {mg : Str → Option Value}
theorem fin {fa : Addr} (T : Txt K mg) (hmg : mg "law" = some (.ref fa)) : ∃ fd : FuncData, (∀ (s : Shared) (u : Value), BindsTo s fd ⟨[u], []⟩ [("script", u)]) ∧
    ∀ base : Heap, K.In base → base.Ns mainGlobals mg → FnOk P w K mg base CX0 8 fa fd ["script"] (sp_law K) := by
  obtain ⟨f, fd, D⟩ := T.d_law
  have e := hmg.symm.trans D.m
  cases e
  refine ⟨fd, fun s u => ?_, fun base _ _ => g_law T D.F⟩
  obtain ⟨oc, od, kV, doc, pm, an, cdv, ct, osl, rfl, lk, hcd⟩ := D.F.ex
  exact .of_eq rfl
end
/-- the road from the law's function to the row -/
theorem to_row {r : PySem.W.OpenLaw} {pr : Program} {lo : List Str} {X1 : (Str → Option Value) → Heap → Prop} {Y1 : World → Heap → Prop} {dr : DefRec} {KK : Params → PySem.W.Frag}
    (m : r.most = some 63) (nd : dr.params.defaults = []) (inK : ∀ (u : World) (g : Heap), Y1 u g → (KK u.params).In g)
    (go : ∀ (u : World) (names : Str → Option Value) (at_ : Addr) (g : Heap), (KK u.params).In g → g.Ns mainGlobals names → names dr.name = some (.ref at_) →
      ∃ fd : FuncData, (∀ (s : Shared) (z : Value), BindsTo s fd ⟨[z], []⟩ [("script", z)]) ∧ ∀ b : Heap, (KK u.params).In b → b.Ns mainGlobals names → FnOk r.prog u (KK u.params) names b CX0 8 at_ fd ["script"] (sp_law (KK u.params))) :
    PySem.W.WalkO pr lo X1 Y1 r.row.toRowW dr [] fun h vs => PySem.call h vs := by
  refine L2.walk_of (sp := fun u => sp_law (KK u.params)) (CX := fun _ => CX0) (x := "script") (k := 8) (n := 63) m (by decide) nd ?_ inK go ?_ ?_
  · exact ⟨rfl, by decide, by decide⟩
  · intro _ _ a ns hl _ hS
    exact ⟨a, ns, rfl, hS, hl, fun _ => rfl⟩
  · intro _ _ _ _ _ z
    exact z
theorem all_mk {K : PySem.W.Frag} {h : Heap} {mg : Str → Option Value} (X : K.In h) (G : h.Ns mainGlobals mg)
{f0 f1 f2 f3 f4 f5 f6 f7 f8 f9 f10 f11 f12 f13 f14 f15 f16 f17 f18 f19 f20 f21 f22 f23 f24 f25 f26 f27 f28 f29 : Addr} {od0 od1 od2 od3 od4 od5 od6 od7 od8 od9 od10 od11 od12 od13 od14 od15 od16 od17 od18 od19 od20 od21 od22 od23 od24 od25 od26 od27 od28 od29 an0 an1 an2 an3 an4 an5 an6 an7 an8 an9 an10 an11 an12 an13 an14 an15 an16 an17 an18 an19 an20 an21 an22 an23 an24 an25 an26 an27 an28 an29 : Option Addr} {sl0 sl1 sl2 sl3 sl4 sl5 sl6 sl7 sl8 sl9 sl10 sl11 sl12 sl13 sl14 sl15 sl16 sl17 sl18 sl19 sl20 sl21 sl22 sl23 sl24 sl25 sl26 sl27 sl28 sl29 : Array (Option Value)} {oc0 oc1 oc2 oc3 oc4 oc5 oc6 oc7 oc8 oc9 oc10 oc11 oc12 oc13 oc14 oc15 oc16 oc17 oc18 oc19 oc20 oc21 oc22 oc23 oc24 oc25 oc26 oc27 oc28 oc29 kV0 kV1 kV2 kV3 kV4 kV5 kV6 kV7 kV8 kV9 kV10 kV11 kV12 kV13 kV14 kV15 kV16 kV17 kV18 kV19 kV20 kV21 kV22 kV23 kV24 kV25 kV26 kV27 kV28 kV29 dc0 dc1 dc2 dc3 dc4 dc5 dc6 dc7 dc8 dc9 dc10 dc11 dc12 dc13 dc14 dc15 dc16 dc17 dc18 dc19 dc20 dc21 dc22 dc23 dc24 dc25 dc26 dc27 dc28 dc29 pm0 pm1 pm2 pm3 pm4 pm5 pm6 pm7 pm8 pm9 pm10 pm11 pm12 pm13 pm14 pm15 pm16 pm17 pm18 pm19 pm20 pm21 pm22 pm23 pm24 pm25 pm26 pm27 pm28 pm29 cd0 cd1 cd2 cd3 cd4 cd5 cd6 cd7 cd8 cd9 cd10 cd11 cd12 cd13 cd14 cd15 cd16 cd17 cd18 cd19 cd20 cd21 cd22 cd23 cd24 cd25 cd26 cd27 cd28 cd29 ct0 ct1 ct2 ct3 ct4 ct5 ct6 ct7 ct8 ct9 ct10 ct11 ct12 ct13 ct14 ct15 ct16 ct17 ct18 ct19 ct20 ct21 ct22 ct23 ct24 ct25 ct26 ct27 ct28 ct29 : Value}
{t0 t1 t2 t3 t4 : Tok}
(a0 : PySem.W.nsIn K mainGlobals "is_number" = some (some (.ref f0))) (l0 : K.lookup f0 = some ⟨oc0, od0, .func (PySem.W.fnOf "is_number" "is_number" (defArgs s_is_number) (defBody s_is_number) (defScope s_is_number) .none kV0 dc0 pm0 an0 cd0 ct0), sl0⟩) (c0 : PySem.W.codeIn K cd0 "is_number" = true) (k0 : PySem.W.keepIn K (.ref f0) = true)
(a1 : PySem.W.nsIn K mainGlobals "is_count" = some (some (.ref f1))) (l1 : K.lookup f1 = some ⟨oc1, od1, .func (PySem.W.fnOf "is_count" "is_count" (defArgs s_is_count) (defBody s_is_count) (defScope s_is_count) .none kV1 dc1 pm1 an1 cd1 ct1), sl1⟩) (c1 : PySem.W.codeIn K cd1 "is_count" = true) (k1 : PySem.W.keepIn K (.ref f1) = true)
(a2 : PySem.W.nsIn K mainGlobals "is_amount" = some (some (.ref f2))) (l2 : K.lookup f2 = some ⟨oc2, od2, .func (PySem.W.fnOf "is_amount" "is_amount" (defArgs s_is_amount) (defBody s_is_amount) (defScope s_is_amount) .none kV2 dc2 pm2 an2 cd2 ct2), sl2⟩) (c2 : PySem.W.codeIn K cd2 "is_amount" = true) (k2 : PySem.W.keepIn K (.ref f2) = true)
(a3 : PySem.W.nsIn K mainGlobals "is_whole" = some (some (.ref f3))) (l3 : K.lookup f3 = some ⟨oc3, od3, .func (PySem.W.fnOf "is_whole" "is_whole" (defArgs s_is_whole) (defBody s_is_whole) (defScope s_is_whole) .none kV3 dc3 pm3 an3 cd3 ct3), sl3⟩) (c3 : PySem.W.codeIn K cd3 "is_whole" = true) (k3 : PySem.W.keepIn K (.ref f3) = true)
(a4 : PySem.W.nsIn K mainGlobals "is_time" = some (some (.ref f4))) (l4 : K.lookup f4 = some ⟨oc4, od4, .func (PySem.W.fnOf "is_time" "is_time" (defArgs s_is_time) (defBody s_is_time) (defScope s_is_time) .none kV4 dc4 pm4 an4 cd4 ct4), sl4⟩) (c4 : PySem.W.codeIn K cd4 "is_time" = true) (k4 : PySem.W.keepIn K (.ref f4) = true)
(a5 : PySem.W.nsIn K mainGlobals "is_letters" = some (some (.ref f5))) (l5 : K.lookup f5 = some ⟨oc5, od5, .func (PySem.W.fnOf "is_letters" "is_letters" (defArgs s_is_letters) (defBody s_is_letters) (defScope s_is_letters) .none kV5 dc5 pm5 an5 cd5 ct5), sl5⟩) (c5 : PySem.W.codeIn K cd5 "is_letters" = true) (k5 : PySem.W.keepIn K (.ref f5) = true)
(a6 : PySem.W.nsIn K mainGlobals "is_name" = some (some (.ref f6))) (l6 : K.lookup f6 = some ⟨oc6, od6, .func (PySem.W.fnOf "is_name" "is_name" (defArgs s_is_name) (defBody s_is_name) (defScope s_is_name) .none kV6 dc6 pm6 an6 cd6 ct6), sl6⟩) (c6 : PySem.W.codeIn K cd6 "is_name" = true) (k6 : PySem.W.keepIn K (.ref f6) = true)
(a7 : PySem.W.nsIn K mainGlobals "is_list" = some (some (.ref f7))) (l7 : K.lookup f7 = some ⟨oc7, od7, .func (PySem.W.fnOf "is_list" "is_list" (defArgs s_is_list) (defBody s_is_list) (defScope s_is_list) .none kV7 dc7 pm7 an7 cd7 ct7), sl7⟩) (c7 : PySem.W.codeIn K cd7 "is_list" = true) (k7 : PySem.W.keepIn K (.ref f7) = true)
(a8 : PySem.W.nsIn K mainGlobals "is_order" = some (some (.ref f8))) (l8 : K.lookup f8 = some ⟨oc8, od8, .func (PySem.W.fnOf "is_order" "is_order" (defArgs s_is_order) (defBody s_is_order) (defScope s_is_order) .none kV8 dc8 pm8 an8 cd8 ct8), sl8⟩) (c8 : PySem.W.codeIn K cd8 "is_order" = true) (k8 : PySem.W.keepIn K (.ref f8) = true)
(a9 : PySem.W.nsIn K mainGlobals "look_at_round" = some (some (.ref f9))) (l9 : K.lookup f9 = some ⟨oc9, od9, .func (PySem.W.fnOf "look_at_round" "look_at_round" (defArgs s_look_at_round) (defBody s_look_at_round) (defScope s_look_at_round) .none kV9 dc9 pm9 an9 cd9 ct9), sl9⟩) (c9 : PySem.W.codeIn K cd9 "look_at_round" = true) (k9 : PySem.W.keepIn K (.ref f9) = true)
(a10 : PySem.W.nsIn K mainGlobals "greatest" = some (some (.ref f10))) (l10 : K.lookup f10 = some ⟨oc10, od10, .func (PySem.W.fnOf "greatest" "greatest" (defArgs s_greatest) (defBody s_greatest) (defScope s_greatest) .none kV10 dc10 pm10 an10 cd10 ct10), sl10⟩) (c10 : PySem.W.codeIn K cd10 "greatest" = true) (k10 : PySem.W.keepIn K (.ref f10) = true)
(a11 : PySem.W.nsIn K mainGlobals "have_by_all" = some (some (.ref f11))) (l11 : K.lookup f11 = some ⟨oc11, od11, .func (PySem.W.fnOf "have_by_all" "have_by_all" (defArgs s_have_by_all) (defBody s_have_by_all) (defScope s_have_by_all) .none kV11 dc11 pm11 an11 cd11 ct11), sl11⟩) (c11 : PySem.W.codeIn K cd11 "have_by_all" = true) (k11 : PySem.W.keepIn K (.ref f11) = true)
(a12 : PySem.W.nsIn K mainGlobals "_places_by_payer" = some (some (.ref f12))) (l12 : K.lookup f12 = some ⟨oc12, od12, .func (PySem.W.fnOf "_places_by_payer" "_places_by_payer" (defArgs s__places_by_payer) (defBody s__places_by_payer) (defScope s__places_by_payer) .none kV12 dc12 pm12 an12 cd12 ct12), sl12⟩) (c12 : PySem.W.codeIn K cd12 "_places_by_payer" = true) (k12 : PySem.W.keepIn K (.ref f12) = true)
(a13 : PySem.W.nsIn K mainGlobals "first_below" = some (some (.ref f13))) (l13 : K.lookup f13 = some ⟨oc13, od13, .func (PySem.W.fnOf "first_below" "first_below" (defArgs s_first_below) (defBody s_first_below) (defScope s_first_below) .none kV13 dc13 pm13 an13 cd13 ct13), sl13⟩) (c13 : PySem.W.codeIn K cd13 "first_below" = true) (k13 : PySem.W.keepIn K (.ref f13) = true)
(a14 : PySem.W.nsIn K mainGlobals "_undo" = some (some (.ref f14))) (l14 : K.lookup f14 = some ⟨oc14, od14, .func (PySem.W.fnOf "_undo" "_undo" (defArgs s__undo) (defBody s__undo) (defScope s__undo) .none kV14 dc14 pm14 an14 cd14 ct14), sl14⟩) (c14 : PySem.W.codeIn K cd14 "_undo" = true) (k14 : PySem.W.keepIn K (.ref f14) = true)
(a15 : PySem.W.nsIn K mainGlobals "_law_begin" = some (some (.ref f15))) (l15 : K.lookup f15 = some ⟨oc15, od15, .func (PySem.W.fnOf "_law_begin" "_law_begin" (defArgs s__law_begin) (defBody s__law_begin) (defScope s__law_begin) .none kV15 dc15 pm15 an15 cd15 ct15), sl15⟩) (c15 : PySem.W.codeIn K cd15 "_law_begin" = true) (k15 : PySem.W.keepIn K (.ref f15) = true)
(a16 : PySem.W.nsIn K mainGlobals "_law_more" = some (some (.ref f16))) (l16 : K.lookup f16 = some ⟨oc16, od16, .func (PySem.W.fnOf "_law_more" "_law_more" (defArgs s__law_more) (defBody s__law_more) (defScope s__law_more) .none kV16 dc16 pm16 an16 cd16 ct16), sl16⟩) (c16 : PySem.W.codeIn K cd16 "_law_more" = true) (k16 : PySem.W.keepIn K (.ref f16) = true)
(a17 : PySem.W.nsIn K mainGlobals "_law_next" = some (some (.ref f17))) (l17 : K.lookup f17 = some ⟨oc17, od17, .func (PySem.W.fnOf "_law_next" "_law_next" (defArgs s__law_next) (defBody s__law_next) (defScope s__law_next) .none kV17 dc17 pm17 an17 cd17 ct17), sl17⟩) (c17 : PySem.W.codeIn K cd17 "_law_next" = true) (k17 : PySem.W.keepIn K (.ref f17) = true)
(a18 : PySem.W.nsIn K mainGlobals "_law_pick" = some (some (.ref f18))) (l18 : K.lookup f18 = some ⟨oc18, od18, .func (PySem.W.fnOf "_law_pick" "_law_pick" (defArgs s__law_pick) (defBody s__law_pick) (defScope s__law_pick) .none kV18 dc18 pm18 an18 cd18 ct18), sl18⟩) (c18 : PySem.W.codeIn K cd18 "_law_pick" = true) (k18 : PySem.W.keepIn K (.ref f18) = true)
(a19 : PySem.W.nsIn K mainGlobals "_law_word" = some (some (.ref f19))) (l19 : K.lookup f19 = some ⟨oc19, od19, .func (PySem.W.fnOf "_law_word" "_law_word" (defArgs s__law_word) (defBody s__law_word) (defScope s__law_word) .none kV19 dc19 pm19 an19 cd19 ct19), sl19⟩) (c19 : PySem.W.codeIn K cd19 "_law_word" = true) (k19 : PySem.W.keepIn K (.ref f19) = true)
(a20 : PySem.W.nsIn K mainGlobals "_law_crew" = some (some (.ref f20))) (l20 : K.lookup f20 = some ⟨oc20, od20, .func (PySem.W.fnOf "_law_crew" "_law_crew" (defArgs s__law_crew) (defBody s__law_crew) (defScope s__law_crew) .none kV20 dc20 pm20 an20 cd20 ct20), sl20⟩) (c20 : PySem.W.codeIn K cd20 "_law_crew" = true) (k20 : PySem.W.keepIn K (.ref f20) = true)
(a21 : PySem.W.nsIn K mainGlobals "_law_amount" = some (some (.ref f21))) (l21 : K.lookup f21 = some ⟨oc21, od21, .func (PySem.W.fnOf "_law_amount" "_law_amount" (defArgs s__law_amount) (defBody s__law_amount) (defScope s__law_amount) .none kV21 dc21 pm21 an21 cd21 ct21), sl21⟩) (c21 : PySem.W.codeIn K cd21 "_law_amount" = true) (k21 : PySem.W.keepIn K (.ref f21) = true)
(a22 : PySem.W.nsIn K mainGlobals "_law_one" = some (some (.ref f22))) (l22 : K.lookup f22 = some ⟨oc22, od22, .func (PySem.W.fnOf "_law_one" "_law_one" (defArgs s__law_one) (defBody s__law_one) (defScope s__law_one) .none kV22 dc22 pm22 an22 cd22 ct22), sl22⟩) (c22 : PySem.W.codeIn K cd22 "_law_one" = true) (k22 : PySem.W.keepIn K (.ref f22) = true)
(a23 : PySem.W.nsIn K mainGlobals "_law_lot" = some (some (.ref f23))) (l23 : K.lookup f23 = some ⟨oc23, od23, .func (PySem.W.fnOf "_law_lot" "_law_lot" (defArgs s__law_lot) (defBody s__law_lot) (defScope s__law_lot) .none kV23 dc23 pm23 an23 cd23 ct23), sl23⟩) (c23 : PySem.W.codeIn K cd23 "_law_lot" = true) (k23 : PySem.W.keepIn K (.ref f23) = true)
(a24 : PySem.W.nsIn K mainGlobals "_law_means" = some (some (.ref f24))) (l24 : K.lookup f24 = some ⟨oc24, od24, .func (PySem.W.fnOf "_law_means" "_law_means" (defArgs s__law_means) (defBody s__law_means) (defScope s__law_means) .none kV24 dc24 pm24 an24 cd24 ct24), sl24⟩) (c24 : PySem.W.codeIn K cd24 "_law_means" = true) (k24 : PySem.W.keepIn K (.ref f24) = true)
(a25 : PySem.W.nsIn K mainGlobals "_law_behind" = some (some (.ref f25))) (l25 : K.lookup f25 = some ⟨oc25, od25, .func (PySem.W.fnOf "_law_behind" "_law_behind" (defArgs s__law_behind) (defBody s__law_behind) (defScope s__law_behind) .none kV25 dc25 pm25 an25 cd25 ct25), sl25⟩) (c25 : PySem.W.codeIn K cd25 "_law_behind" = true) (k25 : PySem.W.keepIn K (.ref f25) = true)
(a26 : PySem.W.nsIn K mainGlobals "_law_firsts" = some (some (.ref f26))) (l26 : K.lookup f26 = some ⟨oc26, od26, .func (PySem.W.fnOf "_law_firsts" "_law_firsts" (defArgs s__law_firsts) (defBody s__law_firsts) (defScope s__law_firsts) .none kV26 dc26 pm26 an26 cd26 ct26), sl26⟩) (c26 : PySem.W.codeIn K cd26 "_law_firsts" = true) (k26 : PySem.W.keepIn K (.ref f26) = true)
(a27 : PySem.W.nsIn K mainGlobals "_law_some" = some (some (.ref f27))) (l27 : K.lookup f27 = some ⟨oc27, od27, .func (PySem.W.fnOf "_law_some" "_law_some" (defArgs s__law_some) (defBody s__law_some) (defScope s__law_some) .none kV27 dc27 pm27 an27 cd27 ct27), sl27⟩) (c27 : PySem.W.codeIn K cd27 "_law_some" = true) (k27 : PySem.W.keepIn K (.ref f27) = true)
(a28 : PySem.W.nsIn K mainGlobals "_law_lacks" = some (some (.ref f28))) (l28 : K.lookup f28 = some ⟨oc28, od28, .func (PySem.W.fnOf "_law_lacks" "_law_lacks" (defArgs s__law_lacks) (defBody s__law_lacks) (defScope s__law_lacks) .none kV28 dc28 pm28 an28 cd28 ct28), sl28⟩) (c28 : PySem.W.codeIn K cd28 "_law_lacks" = true) (k28 : PySem.W.keepIn K (.ref f28) = true)
(a29 : PySem.W.nsIn K mainGlobals "law" = some (some (.ref f29))) (l29 : K.lookup f29 = some ⟨oc29, od29, .func (PySem.W.fnOf "law" "law" (defArgs s_law) (defBody s_law) (defScope s_law) .none kV29 dc29 pm29 an29 cd29 ct29), sl29⟩) (c29 : PySem.W.codeIn K cd29 "law" = true) (k29 : PySem.W.keepIn K (.ref f29) = true)
(z_list : PySem.W.nsIn K mainGlobals "list" = some none)
(z_range : PySem.W.nsIn K mainGlobals "range" = some none)
(z_len : PySem.W.nsIn K mainGlobals "len" = some none)
(z_all : PySem.W.nsIn K mainGlobals "all" = some none)
(z_isinstance : PySem.W.nsIn K mainGlobals "isinstance" = some none)
(z_dict : PySem.W.nsIn K mainGlobals "dict" = some none)
(z_tuple : PySem.W.nsIn K mainGlobals "tuple" = some none)
(z_int : PySem.W.nsIn K mainGlobals "int" = some none)
(z_bool : PySem.W.nsIn K mainGlobals "bool" = some none)
(z_str : PySem.W.nsIn K mainGlobals "str" = some none)
(z_enumerate : PySem.W.nsIn K mainGlobals "enumerate" = some none)
(z_sorted : PySem.W.nsIn K mainGlobals "sorted" = some none)
(z_set : PySem.W.nsIn K mainGlobals "set" = some none)
(z_min : PySem.W.nsIn K mainGlobals "min" = some none)
(gc0 : PySem.W.nsIn K mainGlobals "LETTERS" = some (some (Value.str "abcdefghijklmnopqrstuvwxyz" t0)))
(gc1 : PySem.W.nsIn K mainGlobals "LONGEST" = some (some (Value.int 8 t1)))
(gc2 : PySem.W.nsIn K mainGlobals "MOST" = some (some (Value.int 1000000000 t2)))
(gc3 : PySem.W.nsIn K mainGlobals "TOP_RANK" = some (some (Value.int 9 t3)))
(gc4 : PySem.W.nsIn K mainGlobals "MOST_ORDERS" = some (some (Value.int 60 t4)))
: Txt K mg := by
  have F0 := fun_mk (st := s_is_number) l0 c0 k0
  have b0 := F0.binds (ps := ["thing"]) fun _ _ _ _ _ _ us hl => match us, hl with | [_], _ => rfl
  have F1 := fun_mk (st := s_is_count) l1 c1 k1
  have b1 := F1.binds (ps := ["thing"]) fun _ _ _ _ _ _ us hl => match us, hl with | [_], _ => rfl
  have F2 := fun_mk (st := s_is_amount) l2 c2 k2
  have b2 := F2.binds (ps := ["thing"]) fun _ _ _ _ _ _ us hl => match us, hl with | [_], _ => rfl
  have F3 := fun_mk (st := s_is_whole) l3 c3 k3
  have b3 := F3.binds (ps := ["thing"]) fun _ _ _ _ _ _ us hl => match us, hl with | [_], _ => rfl
  have F4 := fun_mk (st := s_is_time) l4 c4 k4
  have b4 := F4.binds (ps := ["thing"]) fun _ _ _ _ _ _ us hl => match us, hl with | [_], _ => rfl
  have F5 := fun_mk (st := s_is_letters) l5 c5 k5
  have b5 := F5.binds (ps := ["thing", "longest"]) fun _ _ _ _ _ _ us hl => match us, hl with | [_, _], _ => rfl
  have F6 := fun_mk (st := s_is_name) l6 c6 k6
  have b6 := F6.binds (ps := ["thing"]) fun _ _ _ _ _ _ us hl => match us, hl with | [_], _ => rfl
  have F7 := fun_mk (st := s_is_list) l7 c7 k7
  have b7 := F7.binds (ps := ["thing"]) fun _ _ _ _ _ _ us hl => match us, hl with | [_], _ => rfl
  have F8 := fun_mk (st := s_is_order) l8 c8 k8
  have b8 := F8.binds (ps := ["thing"]) fun _ _ _ _ _ _ us hl => match us, hl with | [_], _ => rfl
  have F9 := fun_mk (st := s_look_at_round) l9 c9 k9
  have b9 := F9.binds (ps := ["free", "orders", "most"]) fun _ _ _ _ _ _ us hl => match us, hl with | [_, _, _], _ => rfl
  have F10 := fun_mk (st := s_greatest) l10 c10 k10
  have b10 := F10.binds (ps := ["free", "orders"]) fun _ _ _ _ _ _ us hl => match us, hl with | [_, _], _ => rfl
  have F11 := fun_mk (st := s_have_by_all) l11 c11 k11
  have b11 := F11.binds (ps := ["free", "orders"]) fun _ _ _ _ _ _ us hl => match us, hl with | [_, _], _ => rfl
  have F12 := fun_mk (st := s__places_by_payer) l12 c12 k12
  have b12 := F12.binds (ps := ["orders"]) fun _ _ _ _ _ _ us hl => match us, hl with | [_], _ => rfl
  have F13 := fun_mk (st := s_first_below) l13 c13 k13
  have b13 := F13.binds (ps := ["have"]) fun _ _ _ _ _ _ us hl => match us, hl with | [_], _ => rfl
  have F14 := fun_mk (st := s__undo) l14 c14 k14
  have b14 := F14.binds (ps := ["have", "order"]) fun _ _ _ _ _ _ us hl => match us, hl with | [_, _], _ => rfl
  have F15 := fun_mk (st := s__law_begin) l15 c15 k15
  have b15 := F15.binds (ps := ["script"]) fun _ _ _ _ _ _ us hl => match us, hl with | [_], _ => rfl
  have F16 := fun_mk (st := s__law_more) l16 c16 k16
  have b16 := F16.binds (ps := ["state"]) fun _ _ _ _ _ _ us hl => match us, hl with | [_], _ => rfl
  have F17 := fun_mk (st := s__law_next) l17 c17 k17
  have b17 := F17.binds (ps := ["state", "many"]) fun _ _ _ _ _ _ us hl => match us, hl with | [_, _], _ => rfl
  have F18 := fun_mk (st := s__law_pick) l18 c18 k18
  have b18 := F18.binds (ps := ["state", "some"]) fun _ _ _ _ _ _ us hl => match us, hl with | [_, _], _ => rfl
  have F19 := fun_mk (st := s__law_word) l19 c19 k19
  have b19 := F19.binds (ps := ["state"]) fun _ _ _ _ _ _ us hl => match us, hl with | [_], _ => rfl
  have F20 := fun_mk (st := s__law_crew) l20 c20 k20
  have b20 := F20.binds (ps := ["state", "many"]) fun _ _ _ _ _ _ us hl => match us, hl with | [_, _], _ => rfl
  have F21 := fun_mk (st := s__law_amount) l21 c21 k21
  have b21 := F21.binds (ps := ["state"]) fun _ _ _ _ _ _ us hl => match us, hl with | [_], _ => rfl
  have F22 := fun_mk (st := s__law_one) l22 c22 k22
  have b22 := F22.binds (ps := ["state", "crew"]) fun _ _ _ _ _ _ us hl => match us, hl with | [_, _], _ => rfl
  have F23 := fun_mk (st := s__law_lot) l23 c23 k23
  have b23 := F23.binds (ps := ["state", "crew", "many"]) fun _ _ _ _ _ _ us hl => match us, hl with | [_, _, _], _ => rfl
  have F24 := fun_mk (st := s__law_means) l24 c24 k24
  have b24 := F24.binds (ps := ["state", "crew"]) fun _ _ _ _ _ _ us hl => match us, hl with | [_, _], _ => rfl
  have F25 := fun_mk (st := s__law_behind) l25 c25 k25
  have b25 := F25.binds (ps := ["means", "lot", "places"]) fun _ _ _ _ _ _ us hl => match us, hl with | [_, _, _], _ => rfl
  have F26 := fun_mk (st := s__law_firsts) l26 c26 k26
  have b26 := F26.binds (ps := ["lot", "left", "counts"]) fun _ _ _ _ _ _ us hl => match us, hl with | [_, _, _], _ => rfl
  have F27 := fun_mk (st := s__law_some) l27 c27 k27
  have b27 := F27.binds (ps := ["state", "means", "lot", "left"]) fun _ _ _ _ _ _ us hl => match us, hl with | [_, _, _, _], _ => rfl
  have F28 := fun_mk (st := s__law_lacks) l28 c28 k28
  have b28 := F28.binds (ps := ["means", "lot"]) fun _ _ _ _ _ _ us hl => match us, hl with | [_, _], _ => rfl
  have F29 := fun_mk (st := s_law) l29 c29 k29
  have b29 := F29.binds (ps := ["script"]) fun _ _ _ _ _ _ us hl => match us, hl with | [_], _ => rfl
  exact ⟨⟨f0, _, F0, PySem.W.mg_of X G a0, b0⟩,
    ⟨f1, _, F1, PySem.W.mg_of X G a1, b1⟩,
    ⟨f2, _, F2, PySem.W.mg_of X G a2, b2⟩,
    ⟨f3, _, F3, PySem.W.mg_of X G a3, b3⟩,
    ⟨f4, _, F4, PySem.W.mg_of X G a4, b4⟩,
    ⟨f5, _, F5, PySem.W.mg_of X G a5, b5⟩,
    ⟨f6, _, F6, PySem.W.mg_of X G a6, b6⟩,
    ⟨f7, _, F7, PySem.W.mg_of X G a7, b7⟩,
    ⟨f8, _, F8, PySem.W.mg_of X G a8, b8⟩,
    ⟨f9, _, F9, PySem.W.mg_of X G a9, b9⟩,
    ⟨f10, _, F10, PySem.W.mg_of X G a10, b10⟩,
    ⟨f11, _, F11, PySem.W.mg_of X G a11, b11⟩,
    ⟨f12, _, F12, PySem.W.mg_of X G a12, b12⟩,
    ⟨f13, _, F13, PySem.W.mg_of X G a13, b13⟩,
    ⟨f14, _, F14, PySem.W.mg_of X G a14, b14⟩,
    ⟨f15, _, F15, PySem.W.mg_of X G a15, b15⟩,
    ⟨f16, _, F16, PySem.W.mg_of X G a16, b16⟩,
    ⟨f17, _, F17, PySem.W.mg_of X G a17, b17⟩,
    ⟨f18, _, F18, PySem.W.mg_of X G a18, b18⟩,
    ⟨f19, _, F19, PySem.W.mg_of X G a19, b19⟩,
    ⟨f20, _, F20, PySem.W.mg_of X G a20, b20⟩,
    ⟨f21, _, F21, PySem.W.mg_of X G a21, b21⟩,
    ⟨f22, _, F22, PySem.W.mg_of X G a22, b22⟩,
    ⟨f23, _, F23, PySem.W.mg_of X G a23, b23⟩,
    ⟨f24, _, F24, PySem.W.mg_of X G a24, b24⟩,
    ⟨f25, _, F25, PySem.W.mg_of X G a25, b25⟩,
    ⟨f26, _, F26, PySem.W.mg_of X G a26, b26⟩,
    ⟨f27, _, F27, PySem.W.mg_of X G a27, b27⟩,
    ⟨f28, _, F28, PySem.W.mg_of X G a28, b28⟩,
    ⟨f29, _, F29, PySem.W.mg_of X G a29, b29⟩,
    PySem.W.mg_none_of X G z_list,
    PySem.W.mg_none_of X G z_range,
    PySem.W.mg_none_of X G z_len,
    PySem.W.mg_none_of X G z_all,
    PySem.W.mg_none_of X G z_isinstance,
    PySem.W.mg_none_of X G z_dict,
    PySem.W.mg_none_of X G z_tuple,
    PySem.W.mg_none_of X G z_int,
    PySem.W.mg_none_of X G z_bool,
    PySem.W.mg_none_of X G z_str,
    PySem.W.mg_none_of X G z_enumerate,
    PySem.W.mg_none_of X G z_sorted,
    PySem.W.mg_none_of X G z_set,
    PySem.W.mg_none_of X G z_min,
    ⟨t0, PySem.W.mg_of X G gc0⟩,
    ⟨t1, PySem.W.mg_of X G gc1⟩,
    ⟨t2, PySem.W.mg_of X G gc2⟩,
    ⟨t3, PySem.W.mg_of X G gc3⟩,
    ⟨t4, PySem.W.mg_of X G gc4⟩⟩
end My
open PySem PySem.W PyProof.Rows
set_option maxRecDepth 100000 in
set_option maxHeartbeats 0 in
theorem PySem.Challenge.cw_clearyard_k23_whole_any_way_to_the_great_holds : PySem.Challenge.rw_clearyard_k23_whole_any_way_to_the_great.Holds := by
  w_on; o_law; k_head; (case hw => w_witness2)
  k_fill
  refine My.to_row (r := PySem.Challenge.rw_clearyard_k23_whole_any_way_to_the_great) rfl rfl (fun w h Y => PySem.W.kIn_of Y) ?F
  case F =>
    intro w mg fa h KX G hmg
    refine My.fin ?T hmg
    refine' My.all_mk KX G ?a0 ?l0 ?c0 ?k0 ?a1 ?l1 ?c1 ?k1 ?a2 ?l2 ?c2 ?k2 ?a3 ?l3 ?c3 ?k3 ?a4 ?l4 ?c4 ?k4 ?a5 ?l5 ?c5 ?k5 ?a6 ?l6 ?c6 ?k6 ?a7 ?l7 ?c7 ?k7 ?a8 ?l8 ?c8 ?k8 ?a9 ?l9 ?c9 ?k9 ?a10 ?l10 ?c10 ?k10 ?a11 ?l11 ?c11 ?k11 ?a12 ?l12 ?c12 ?k12 ?a13 ?l13 ?c13 ?k13 ?a14 ?l14 ?c14 ?k14 ?a15 ?l15 ?c15 ?k15 ?a16 ?l16 ?c16 ?k16 ?a17 ?l17 ?c17 ?k17 ?a18 ?l18 ?c18 ?k18 ?a19 ?l19 ?c19 ?k19 ?a20 ?l20 ?c20 ?k20 ?a21 ?l21 ?c21 ?k21 ?a22 ?l22 ?c22 ?k22 ?a23 ?l23 ?c23 ?k23 ?a24 ?l24 ?c24 ?k24 ?a25 ?l25 ?c25 ?k25 ?a26 ?l26 ?c26 ?k26 ?a27 ?l27 ?c27 ?k27 ?a28 ?l28 ?c28 ?k28 ?a29 ?l29 ?c29 ?k29 ?z_list ?z_range ?z_len ?z_all ?z_isinstance ?z_dict ?z_tuple ?z_int ?z_bool ?z_str ?z_enumerate ?z_sorted ?z_set ?z_min ?gc0 ?gc1 ?gc2 ?gc3 ?gc4
    (case a0 => k_is); (case l0 => k_is); (case c0 => k_is); (case k0 => k_is); (case a1 => k_is); (case l1 => k_is)
    (case c1 => k_is); (case k1 => k_is); (case a2 => k_is); (case l2 => k_is); (case c2 => k_is); (case k2 => k_is)
    (case a3 => k_is); (case l3 => k_is); (case c3 => k_is); (case k3 => k_is); (case a4 => k_is); (case l4 => k_is)
    (case c4 => k_is); (case k4 => k_is); (case a5 => k_is); (case l5 => k_is); (case c5 => k_is); (case k5 => k_is)
    (case a6 => k_is); (case l6 => k_is); (case c6 => k_is); (case k6 => k_is); (case a7 => k_is); (case l7 => k_is)
    (case c7 => k_is); (case k7 => k_is); (case a8 => k_is); (case l8 => k_is); (case c8 => k_is); (case k8 => k_is)
    (case a9 => k_is); (case l9 => k_is); (case c9 => k_is); (case k9 => k_is); (case a10 => k_is); (case l10 => k_is)
    (case c10 => k_is); (case k10 => k_is); (case a11 => k_is); (case l11 => k_is); (case c11 => k_is); (case k11 => k_is)
    (case a12 => k_is); (case l12 => k_is); (case c12 => k_is); (case k12 => k_is); (case a13 => k_is); (case l13 => k_is)
    (case c13 => k_is); (case k13 => k_is); (case a14 => k_is); (case l14 => k_is); (case c14 => k_is); (case k14 => k_is)
    (case a15 => k_is); (case l15 => k_is); (case c15 => k_is); (case k15 => k_is); (case a16 => k_is); (case l16 => k_is)
    (case c16 => k_is); (case k16 => k_is); (case a17 => k_is); (case l17 => k_is); (case c17 => k_is); (case k17 => k_is)
    (case a18 => k_is); (case l18 => k_is); (case c18 => k_is); (case k18 => k_is); (case a19 => k_is); (case l19 => k_is)
    (case c19 => k_is); (case k19 => k_is); (case a20 => k_is); (case l20 => k_is); (case c20 => k_is); (case k20 => k_is)
    (case a21 => k_is); (case l21 => k_is); (case c21 => k_is); (case k21 => k_is); (case a22 => k_is); (case l22 => k_is)
    (case c22 => k_is); (case k22 => k_is); (case a23 => k_is); (case l23 => k_is); (case c23 => k_is); (case k23 => k_is)
    (case a24 => k_is); (case l24 => k_is); (case c24 => k_is); (case k24 => k_is); (case a25 => k_is); (case l25 => k_is)
    (case c25 => k_is); (case k25 => k_is); (case a26 => k_is); (case l26 => k_is); (case c26 => k_is); (case k26 => k_is)
    (case a27 => k_is); (case l27 => k_is); (case c27 => k_is); (case k27 => k_is); (case a28 => k_is); (case l28 => k_is)
    (case c28 => k_is); (case k28 => k_is); (case a29 => k_is); (case l29 => k_is); (case c29 => k_is); (case k29 => k_is)
    (case z_list => k_is); (case z_range => k_is); (case z_len => k_is); (case z_all => k_is); (case z_isinstance => k_is); (case z_dict => k_is)
    (case z_tuple => k_is); (case z_int => k_is); (case z_bool => k_is); (case z_str => k_is); (case z_enumerate => k_is); (case z_sorted => k_is)
    (case z_set => k_is); (case z_min => k_is); (case gc0 => k_is); (case gc1 => k_is); (case gc2 => k_is); (case gc3 => k_is)
    (case gc4 => k_is)
