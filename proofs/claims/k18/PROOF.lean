import PyProof.Rows.All
import Wide.All
import OpenK.AllK
import Wide.FinOn
import HandS.ForMost
import HandS.Wide
import HandS.IsInst
import HandS.Conv
import HandS.Zip
import HandS.Deep
import HandS.Star
import HandS.SetKeys
import HandS.More
import HandS.SetFor
import HandS.TupAny
import HandS.Walk
import PyProof.NeKinds
import PyProof.NeData
import KE.KEqDict
import KE.GoesEnum
import KE.GoesMore
import KE.KEqNest
import HandS.DictComp
import HandS.TupLe
import PySem.Challenge.RW_clearyard_k18_greatest_rounds_told
set_option Elab.async false
set_option maxRecDepth 100000
set_option maxHeartbeats 4000000
namespace My
open PySem L2
def top (i : Nat) : Stmt := PySem.Challenge.pw_clearyard_k18_greatest_rounds_told.main.body.getD i (.Pass ⟨0, 0, 0, 0⟩)
abbrev s_is_number : Stmt := top 7
abbrev N_is_number : List Str := ["thing"]
theorem sc_is_number : FnScope N_is_number ["thing"] (defScope s_is_number) := ⟨rfl, rfl, rfl, by decide +kernel, rfl, by decide +kernel, by decide +kernel⟩
abbrev s_is_count : Stmt := top 8
abbrev N_is_count : List Str := ["thing"]
theorem sc_is_count : FnScope N_is_count ["thing"] (defScope s_is_count) := ⟨rfl, rfl, rfl, by decide +kernel, rfl, by decide +kernel, by decide +kernel⟩
abbrev s_is_amount : Stmt := top 9
abbrev N_is_amount : List Str := ["thing"]
theorem sc_is_amount : FnScope N_is_amount ["thing"] (defScope s_is_amount) := ⟨rfl, rfl, rfl, by decide +kernel, rfl, by decide +kernel, by decide +kernel⟩
abbrev s_is_whole : Stmt := top 10
abbrev N_is_whole : List Str := ["thing"]
theorem sc_is_whole : FnScope N_is_whole ["thing"] (defScope s_is_whole) := ⟨rfl, rfl, rfl, by decide +kernel, rfl, by decide +kernel, by decide +kernel⟩
abbrev s_is_time : Stmt := top 11
abbrev N_is_time : List Str := ["thing"]
theorem sc_is_time : FnScope N_is_time ["thing"] (defScope s_is_time) := ⟨rfl, rfl, rfl, by decide +kernel, rfl, by decide +kernel, by decide +kernel⟩
abbrev s_is_letters : Stmt := top 12
abbrev N_is_letters : List Str := ["thing", "longest", "sign"]
theorem sc_is_letters : FnScope N_is_letters ["thing", "longest"] (defScope s_is_letters) := ⟨rfl, rfl, rfl, by decide +kernel, rfl, by decide +kernel, by decide +kernel⟩
abbrev s_is_name : Stmt := top 13
abbrev N_is_name : List Str := ["thing"]
theorem sc_is_name : FnScope N_is_name ["thing"] (defScope s_is_name) := ⟨rfl, rfl, rfl, by decide +kernel, rfl, by decide +kernel, by decide +kernel⟩
abbrev s_is_list : Stmt := top 14
abbrev N_is_list : List Str := ["thing"]
theorem sc_is_list : FnScope N_is_list ["thing"] (defScope s_is_list) := ⟨rfl, rfl, rfl, by decide +kernel, rfl, by decide +kernel, by decide +kernel⟩
abbrev s_is_pair : Stmt := top 15
abbrev N_is_pair : List Str := ["thing"]
theorem sc_is_pair : FnScope N_is_pair ["thing"] (defScope s_is_pair) := ⟨rfl, rfl, rfl, by decide +kernel, rfl, by decide +kernel, by decide +kernel⟩
abbrev s_is_order : Stmt := top 18
abbrev N_is_order : List Str := ["thing", "word", "payer", "payee", "amount", "rank", "begin", "until"]
theorem sc_is_order : FnScope N_is_order ["thing"] (defScope s_is_order) := ⟨rfl, rfl, rfl, by decide +kernel, rfl, by decide +kernel, by decide +kernel⟩
abbrev s_look_at_round : Stmt := top 19
abbrev N_look_at_round : List Str := ["free", "orders", "most", "name", "number", "order"]
theorem sc_look_at_round : FnScope N_look_at_round ["free", "orders", "most"] (defScope s_look_at_round) := ⟨rfl, rfl, rfl, by decide +kernel, rfl, by decide +kernel, by decide +kernel⟩
abbrev s_greatest : Stmt := top 22
abbrev N_greatest : List Str := ["free", "orders", "have", "left", "paper", "below", "place", "places"]
theorem sc_greatest : FnScope N_greatest ["free", "orders"] (defScope s_greatest) := ⟨rfl, rfl, rfl, by decide +kernel, rfl, by decide +kernel, by decide +kernel⟩
abbrev s_shows_greatest : Stmt := top 23
abbrev N_shows_greatest : List Str := ["free", "orders", "told", "have", "left", "place", "payer"]
theorem sc_shows_greatest : FnScope N_shows_greatest ["free", "orders", "told"] (defScope s_shows_greatest) := ⟨rfl, rfl, rfl, by decide +kernel, rfl, by decide +kernel, by decide +kernel⟩
abbrev s_have_by_all : Stmt := top 24
abbrev N_have_by_all : List Str := ["free", "orders", "have", "order", "payer", "payee", "amount"]
theorem sc_have_by_all : FnScope N_have_by_all ["free", "orders"] (defScope s_have_by_all) := ⟨rfl, rfl, rfl, by decide +kernel, rfl, by decide +kernel, by decide +kernel⟩
abbrev s__places_by_payer : Stmt := top 25
abbrev N__places_by_payer : List Str := ["orders", "left", "place", "order"]
theorem sc__places_by_payer : FnScope N__places_by_payer ["orders"] (defScope s__places_by_payer) := ⟨rfl, rfl, rfl, by decide +kernel, rfl, by decide +kernel, by decide +kernel⟩
abbrev s_first_below : Stmt := top 26
abbrev N_first_below : List Str := ["have", "name", "number"]
theorem sc_first_below : FnScope N_first_below ["have"] (defScope s_first_below) := ⟨rfl, rfl, rfl, by decide +kernel, rfl, by decide +kernel, by decide +kernel⟩
abbrev s__undo : Stmt := top 27
abbrev N__undo : List Str := ["have", "order", "payer", "payee", "amount"]
theorem sc__undo : FnScope N__undo ["have", "order"] (defScope s__undo) := ⟨rfl, rfl, rfl, by decide +kernel, rfl, by decide +kernel, by decide +kernel⟩
abbrev s__parts_places : Stmt := top 28
abbrev N__parts_places : List Str := ["told", "many", "places", "paper", "place"]
theorem sc__parts_places : FnScope N__parts_places ["told", "many"] (defScope s__parts_places) := ⟨rfl, rfl, rfl, by decide +kernel, rfl, by decide +kernel, by decide +kernel⟩
abbrev s__law_begin : Stmt := top 30
abbrev N__law_begin : List Str := ["script", "mixed", "cell"]
theorem sc__law_begin : FnScope N__law_begin ["script"] (defScope s__law_begin) := ⟨rfl, rfl, rfl, by decide +kernel, rfl, by decide +kernel, by decide +kernel⟩
abbrev s__law_more : Stmt := top 31
abbrev N__law_more : List Str := ["state", "k", "cell", "one", "two", "three"]
theorem sc__law_more : FnScope N__law_more ["state"] (defScope s__law_more) := ⟨rfl, rfl, rfl, by decide +kernel, rfl, by decide +kernel, by decide +kernel⟩
abbrev s__law_next : Stmt := top 32
abbrev N__law_next : List Str := ["state", "many", "found"]
theorem sc__law_next : FnScope N__law_next ["state", "many"] (defScope s__law_next) := ⟨rfl, rfl, rfl, by decide +kernel, rfl, by decide +kernel, by decide +kernel⟩
abbrev s__law_pick : Stmt := top 33
abbrev N__law_pick : List Str := ["state", "some"]
theorem sc__law_pick : FnScope N__law_pick ["state", "some"] (defScope s__law_pick) := ⟨rfl, rfl, rfl, by decide +kernel, rfl, by decide +kernel, by decide +kernel⟩
abbrev s__law_word : Stmt := top 34
abbrev N__law_word : List Str := ["state", "letters", "own", "size", "turn"]
theorem sc__law_word : FnScope N__law_word ["state"] (defScope s__law_word) := ⟨rfl, rfl, rfl, by decide +kernel, rfl, by decide +kernel, by decide +kernel⟩
abbrev s__law_crew : Stmt := top 35
abbrev N__law_crew : List Str := ["state", "many", "found", "turn", "word", "spare", "sign", "one"]
theorem sc__law_crew : FnScope N__law_crew ["state", "many"] (defScope s__law_crew) := ⟨rfl, rfl, rfl, by decide +kernel, rfl, by decide +kernel, by decide +kernel⟩
abbrev s__law_amount : Stmt := top 36
abbrev N__law_amount : List Str := ["state", "way"]
theorem sc__law_amount : FnScope N__law_amount ["state"] (defScope s__law_amount) := ⟨rfl, rfl, rfl, by decide +kernel, rfl, by decide +kernel, by decide +kernel⟩
abbrev s__law_one : Stmt := top 37
abbrev N__law_one : List Str := ["state", "crew", "one", "other", "start", "name"]
theorem sc__law_one : FnScope N__law_one ["state", "crew"] (defScope s__law_one) := ⟨rfl, rfl, rfl, by decide +kernel, rfl, by decide +kernel, by decide +kernel⟩
abbrev s__law_lot : Stmt := top 38
abbrev N__law_lot : List Str := ["state", "crew", "many", "small", "found", "turn", "one"]
theorem sc__law_lot : FnScope N__law_lot ["state", "crew", "many"] (defScope s__law_lot) := ⟨rfl, rfl, rfl, by decide +kernel, rfl, by decide +kernel, by decide +kernel⟩
abbrev s__law_means : Stmt := top 39
abbrev N__law_means : List Str := ["state", "crew", "found", "name", "way"]
theorem sc__law_means : FnScope N__law_means ["state", "crew"] (defScope s__law_means) := ⟨rfl, rfl, rfl, by decide +kernel, rfl, by decide +kernel, by decide +kernel⟩
abbrev s__law_behind : Stmt := top 40
abbrev N__law_behind : List Str := ["means", "lot", "places", "found", "place"]
theorem sc__law_behind : FnScope N__law_behind ["means", "lot", "places"] (defScope s__law_behind) := ⟨rfl, rfl, rfl, by decide +kernel, rfl, by decide +kernel, by decide +kernel⟩
abbrev s__law_most : Stmt := top 42
abbrev N__law_most : List Str := ["means", "lot", "left", "turn", "behind", "lacks", "lasts", "name", "place"]
theorem sc__law_most : FnScope N__law_most ["means", "lot"] (defScope s__law_most) := ⟨rfl, rfl, rfl, by decide +kernel, rfl, by decide +kernel, by decide +kernel⟩
abbrev s__law_paper_right : Stmt := top 43
abbrev N__law_paper_right : List Str := ["means", "lot", "places", "paper", "left", "place", "name", "k"]
theorem sc__law_paper_right : FnScope N__law_paper_right ["means", "lot", "places", "paper"] (defScope s__law_paper_right) := ⟨rfl, rfl, rfl, by decide +kernel, rfl, by decide +kernel, by decide +kernel⟩
abbrev s_law : Stmt := top 44
abbrev N_law : List Str := ["script", "state", "wide", "crew", "lot", "means", "kept", "due", "found"]
theorem sc_law : FnScope N_law ["script"] (defScope s_law) := ⟨rfl, rfl, rfl, by decide +kernel, rfl, by decide +kernel, by decide +kernel⟩
/-- a def of the text as the top has left it -/
structure DefAt (K : PySem.W.Frag) (mg : Str → Option Value) (x : Str) (st : Stmt) (ps : List Str) (f : Addr) (fd : FuncData) : Prop where
  F : Fun K x x st f fd
  m : mg x = some (.ref f)
  b : Binds K fd ps []
def Pr (P : Program) (w : World) (K : PySem.W.Frag) (mg : Str → Option Value) (base : Heap) (x : Str) (st : Stmt) (ps : List Str) (k : Nat) (sp : Sp) : Prop :=
  ∃ (f : Addr) (fd : FuncData), DefAt K mg x st ps f fd ∧ FnOk P w K mg base CX0 k f fd ps sp
structure Txt (K : PySem.W.Frag) (mg : Str → Option Value) : Prop where
  d_is_number : ∃ f fd, DefAt K mg "is_number" s_is_number ["thing"] f fd
  d_is_count : ∃ f fd, DefAt K mg "is_count" s_is_count ["thing"] f fd
  d_is_amount : ∃ f fd, DefAt K mg "is_amount" s_is_amount ["thing"] f fd
  d_is_whole : ∃ f fd, DefAt K mg "is_whole" s_is_whole ["thing"] f fd
  d_is_time : ∃ f fd, DefAt K mg "is_time" s_is_time ["thing"] f fd
  d_is_letters : ∃ f fd, DefAt K mg "is_letters" s_is_letters ["thing", "longest"] f fd
  d_is_name : ∃ f fd, DefAt K mg "is_name" s_is_name ["thing"] f fd
  d_is_list : ∃ f fd, DefAt K mg "is_list" s_is_list ["thing"] f fd
  d_is_pair : ∃ f fd, DefAt K mg "is_pair" s_is_pair ["thing"] f fd
  d_is_order : ∃ f fd, DefAt K mg "is_order" s_is_order ["thing"] f fd
  d_look_at_round : ∃ f fd, DefAt K mg "look_at_round" s_look_at_round ["free", "orders", "most"] f fd
  d_greatest : ∃ f fd, DefAt K mg "greatest" s_greatest ["free", "orders"] f fd
  d_shows_greatest : ∃ f fd, DefAt K mg "shows_greatest" s_shows_greatest ["free", "orders", "told"] f fd
  d_have_by_all : ∃ f fd, DefAt K mg "have_by_all" s_have_by_all ["free", "orders"] f fd
  d__places_by_payer : ∃ f fd, DefAt K mg "_places_by_payer" s__places_by_payer ["orders"] f fd
  d_first_below : ∃ f fd, DefAt K mg "first_below" s_first_below ["have"] f fd
  d__undo : ∃ f fd, DefAt K mg "_undo" s__undo ["have", "order"] f fd
  d__parts_places : ∃ f fd, DefAt K mg "_parts_places" s__parts_places ["told", "many"] f fd
  d__law_begin : ∃ f fd, DefAt K mg "_law_begin" s__law_begin ["script"] f fd
  d__law_more : ∃ f fd, DefAt K mg "_law_more" s__law_more ["state"] f fd
  d__law_next : ∃ f fd, DefAt K mg "_law_next" s__law_next ["state", "many"] f fd
  d__law_pick : ∃ f fd, DefAt K mg "_law_pick" s__law_pick ["state", "some"] f fd
  d__law_word : ∃ f fd, DefAt K mg "_law_word" s__law_word ["state"] f fd
  d__law_crew : ∃ f fd, DefAt K mg "_law_crew" s__law_crew ["state", "many"] f fd
  d__law_amount : ∃ f fd, DefAt K mg "_law_amount" s__law_amount ["state"] f fd
  d__law_one : ∃ f fd, DefAt K mg "_law_one" s__law_one ["state", "crew"] f fd
  d__law_lot : ∃ f fd, DefAt K mg "_law_lot" s__law_lot ["state", "crew", "many"] f fd
  d__law_means : ∃ f fd, DefAt K mg "_law_means" s__law_means ["state", "crew"] f fd
  d__law_behind : ∃ f fd, DefAt K mg "_law_behind" s__law_behind ["means", "lot", "places"] f fd
  d__law_most : ∃ f fd, DefAt K mg "_law_most" s__law_most ["means", "lot"] f fd
  d__law_paper_right : ∃ f fd, DefAt K mg "_law_paper_right" s__law_paper_right ["means", "lot", "places", "paper"] f fd
  d_law : ∃ f fd, DefAt K mg "law" s_law ["script"] f fd
  z_list : mg "list" = none
  z_range : mg "range" = none
  z_len : mg "len" = none
  z_dict : mg "dict" = none
  z_max : mg "max" = none
  z_all : mg "all" = none
  z_isinstance : mg "isinstance" = none
  z_tuple : mg "tuple" = none
  z_int : mg "int" = none
  z_bool : mg "bool" = none
  z_str : mg "str" = none
  z_enumerate : mg "enumerate" = none
  z_sorted : mg "sorted" = none
  g_LETTERS : ∃ t, mg "LETTERS" = some (Value.str "abcdefghijklmnopqrstuvwxyz" t)
  g_LONGEST : ∃ t, mg "LONGEST" = some (Value.int 8 t)
  g_MOST : ∃ t, mg "MOST" = some (Value.int 1000000000 t)
  g_TOP_RANK : ∃ t, mg "TOP_RANK" = some (Value.int 9 t)
  g_MOST_ORDERS : ∃ t, mg "MOST_ORDERS" = some (Value.int 60 t)
end My
set_option Elab.async false
set_option maxRecDepth 100000
set_option maxHeartbeats 4000000
namespace My
open PySem L2
/-! the heap -/
/-- all that stands stays, but for what stands at one of ds -/
def Keep (ds : List Addr) (H H' : Hp) : Prop := ∀ b o, H b = some o → b ∉ ds → H' b = some o
theorem Keep.refl {ds H} : Keep ds H H := fun _ _ h _ => h
theorem Keep.trans {ds H H1 H2} (a : Keep ds H H1) (b : Keep ds H1 H2) : Keep ds H H2 := fun x o h n => b x o (a x o h n) n
theorem Keep.mono {ds es H H1} (a : Keep ds H H1) (s : ∀ x ∈ ds, x ∈ es) : Keep es H H1 := fun x o h n => a x o h fun q => n (s x q)
theorem Keep.upd_new {ds H p o} (h : H p = none) : Keep ds H (upd H p o) := fun b u e _ => by rw [upd_ne (ne_of_none e h)]; exact e
theorem Keep.upd_in {ds : List Addr} {H p o} (h : p ∈ ds) : Keep ds H (upd H p o) := fun b u e n => by
  rw [upd_ne (fun q => n (by rw [q]; exact h))]; exact e
theorem Keep.of_same {ds H H1} (h : Same H H1) : Keep ds H H1 := fun b o e _ => h b o e
theorem Keep.same {H H1} (h : Keep [] H H1) : Same H H1 := fun b o e => h b o e (by simp)

theorem mod_small {a b : Int} (h0 : 0 < b) (h1 : b < 2 ^ 64) : -(2 ^ 64) < a % b ∧ a % b < 2 ^ 64 := by
  have e1 := Int.emod_nonneg a (show b ≠ 0 by omega)
  have e2 := Int.emod_lt_of_pos a h0
  omega
/-! the rules that name the written part, for a comprehension's block -/
section
variable {X : Cx} {K : PySem.W.Frag}
theorem op_notIn_seqK (e : X.K = K) : OpR X (compareOp .NotIn) (rIn K true) := e ▸ op_notIn_seq
theorem op_in_seqK (e : X.K = K) : OpR X (compareOp .In) (rIn K false) := e ▸ op_in_seq
theorem ix_listK (e : X.K = K) : IxR X (rIxL K) := e ▸ ix_list
theorem ix_tupK (e : X.K = K) : IxR X (rIxT K) := e ▸ ix_tup
theorem ix_seqK (e : X.K = K) : IxR X (rIx K) := e ▸ ix_seq
theorem call_isiK2 (e : X.K = K) : CallR X (.builtin "isinstance") (rIsi K) := e ▸ call_isi
end
/-! dicts by texts -/
theorem valV_hd {k : Str} {v : V} {r : List (Key × V)} : valV ((Sum.inr k, v) :: r) (Sum.inr k) = some v := by
  unfold valV; simp
theorem valV_tl {k j : Str} {v : V} {r : List (Key × V)} (h : ¬ j = k) : valV ((Sum.inr j, v) :: r) (Sum.inr k : Key) = valV r (Sum.inr k) := by
  unfold valV
  rw [List.find?_cons_of_neg]
  simpa using h

theorem DGetS {H : Hp} {a : Addr} {kvs : List (Key × V)} {k : Str} {v : V} (e : H a = some (.dK kvs)) (h : valV kvs (Sum.inr k) = some v) : DGet H a (.str k) (some v) := h ▸ DGet.k (k := Sum.inr k) e
theorem DPutS {H : Hp} {a : Addr} {kvs : List (Key × V)} {k : Str} {v : V} (e : H a = some (.dK kvs)) (hl : kvs.length < sizeLine) : DPut H a (.str k) v (upd H a (.dK (putK kvs (Sum.inr k) v))) := DPut.k (k := Sum.inr k) e hl
theorem atI_of {α : Type} {xs : List α} {i : Int} (h0 : 0 ≤ i) (h1 : i < xs.length) : ∃ v, xs[i.toNat]? = some v ∧ atI xs i = some v := by
  have h : i.toNat < xs.length := by omega
  refine ⟨xs[i.toNat], List.getElem?_eq_getElem h, ?_⟩
  have e : ((i.toNat : Nat) : Int) = i := by omega
  have := atI_nat (xs := xs) (j := i.toNat) (List.getElem?_eq_getElem h)
  rwa [e] at this
theorem atI_int {ns : List Int} {i : Int} (h0 : 0 ≤ i) (h1 : i < ns.length) : ∃ z, atI (ns.map V.int) i = some (.int z) := by
  obtain ⟨v, e, h⟩ := atI_of (xs := ns.map V.int) h0 (by rw [List.length_map]; exact h1)
  rw [List.getElem?_map] at e
  cases q : ns[i.toNat]? with
  | none => rw [q] at e; cases e
  | some z => rw [q] at e; cases e; exact ⟨z, h⟩
/-- what is drawn from -/
def dkv (c : Addr) (k l m : Int) : List (Key × V) := [(Sum.inr "cells", .ref c), (Sum.inr "next", .int k), (Sum.inr "left", .int l), (Sum.inr "mixed", .int m)]
theorem dkv_cells (c k l m) : valV (dkv c k l m) (Sum.inr "cells") = some (.ref c) := valV_hd
theorem dkv_next (c k l m) : valV (dkv c k l m) (Sum.inr "next") = some (.int k) := by
  unfold dkv; rw [valV_tl (by decide +kernel)]; exact valV_hd
theorem dkv_left (c k l m) : valV (dkv c k l m) (Sum.inr "left") = some (.int l) := by
  unfold dkv; rw [valV_tl (by decide +kernel), valV_tl (by decide +kernel)]; exact valV_hd
theorem dkv_mixed (c k l m) : valV (dkv c k l m) (Sum.inr "mixed") = some (.int m) := by
  unfold dkv; rw [valV_tl (by decide +kernel), valV_tl (by decide +kernel), valV_tl (by decide +kernel)]; exact valV_hd
theorem dkv_put_next (c k l m k') : putK (dkv c k l m) (Sum.inr "next") (.int k') = dkv c k' l m := by rfl
theorem dkv_put_left (c k l m l') : putK (dkv c k l m) (Sum.inr "left") (.int l') = dkv c k l' m := by rfl
/-- the state of the draws stands at d -/
def DrawAt (H : Hp) (d c : Addr) : Prop := ∃ (ns : List Int) (k l m : Int), H d = some (.dK (dkv c k l m)) ∧ H c = some (.lst (ns.map V.int)) ∧ ns.length ≤ 63 ∧ 0 ≤ k
theorem DrawAt.ne {H d c} (D : DrawAt H d c) : c ≠ d := by
  obtain ⟨ns, a, b, e, h1, h2, h3⟩ := D
  exact ne_of h2 h1 (by intro z; cases z)
theorem DrawAt.keep {H H' d c} {ds : List Addr} (D : DrawAt H d c) (k : Keep ds H H') (hd : d ∉ ds := by first | exact List.not_mem_nil | simp_all) (hc : c ∉ ds := by first | exact List.not_mem_nil | simp_all) : DrawAt H' d c := by
  obtain ⟨ns, a, b, e, h1, h2, h3⟩ := D
  exact ⟨ns, a, b, e, k _ _ h1 hd, k _ _ h2 hc, h3⟩
/-- a new address is none of the draws' -/
theorem DrawAt.new {H d c} {p : Addr} (D : DrawAt H d c) (h : H p = none) : d ≠ p ∧ c ≠ p := by
  obtain ⟨ns, a, b, e, h1, h2, h3⟩ := D
  exact ⟨ne_of_none h1 h, ne_of_none h2 h⟩

section
variable {P : Program} {w : World} {K : PySem.W.Frag} {mg : Str → Option Value} {base : Heap}

def sp_more : Sp := fun vs H Q _ => ∃ d c, vs = [.ref d] ∧ DrawAt H d c ∧ ∀ r H', DrawAt H' d c → Keep [d] H H' → Q (.int r) H'
theorem p__law_more (T : Txt K mg) : Pr P w K mg base "_law_more" s__law_more ["state"] 1 sp_more := by
  obtain ⟨f, fd, D⟩ := T.d__law_more
  refine ⟨f, fd, D, D.F.ok sc__law_more (fun vs H Q E h => ?_) (fun cdv A outer s H vs Q E hr h => ?_)⟩
  · obtain ⟨d, c, rfl, _⟩ := h; rfl
  · obtain ⟨d, c, rfl, ⟨ns, k, l, m, h1, h2, h3, h4⟩, q⟩ := h
    have hu := hu_of hr
    refine ⟨_, (pss_cons (ps_set (i := 1) sc__law_more.nd rfl (Or.inl rfl) (pe_dget hu (pv 0) pe_str (fun _ _ => rfl)))
      (pss_cons (ps_dput hu (pv 0) pe_str (pe_op op_add (pv 1) pe_int) rfl)
      (pss_cons (ps_set (i := 2) sc__law_more.nd rfl (Or.inl rfl) (pe_op op_add (pe_dget hu (pv 0) pe_str (fun _ _ => rfl)) (pe_op op_mul pe_int (pv 1))))
      (pss_cons (ps_if (pt_cmpR op_lt (pv 1) (pe_callB call_len_seq (by rfl) T.z_len (by decide +kernel) (pa_cons (pe_dget hu (pv 0) pe_str (fun _ _ => rfl)) pa_nil)) (nomark _)) (pss_one (ps_set (i := 2) sc__law_more.nd rfl (Or.inl rfl) (pe_ix ix_list (pe_dget hu (pv 0) pe_str (fun _ _ => rfl)) (pv 1) (fun _ _ => rfl)))) pss_nil)
      (pss_cons (ps_if (pt_cmpR op_ge (pv 2) (pe_op op_pow pe_int pe_int) (nomark _)) (pss_one (ps_ret (pe_op op_sub (pv 2) (pe_op op_pow pe_int pe_int)))) pss_nil)
      (pss_cons (ps_set (i := 3) sc__law_more.nd rfl (Or.inl rfl) (pe_op op_mod (pe_op op_add (pe_op op_add (pe_op op_mul (pv 2) pe_int) (pe_op op_mul pe_int (pv 1))) pe_int) pe_int))
      (pss_cons (ps_set (i := 4) sc__law_more.nd rfl (Or.inl rfl) (pe_op op_mod (pe_op op_mul (pv 3) (pe_op op_add (pe_op op_add (pv 3) (pe_op op_mul pe_int (pv 1))) pe_int)) pe_int))
      (pss_cons (ps_set (i := 5) sc__law_more.nd rfl (Or.inl rfl) (pe_op op_mod (pe_op op_mul (pv 4) (pe_op op_add (pe_op op_add (pv 4) (pv 3)) pe_int)) pe_int))
      (pss_one (ps_ret (pe_op op_add (pe_op op_mul (pe_op op_add (pe_op op_mul (pv 3) pe_int) (pv 4)) pe_int) (pv 5)))))))))))), ?_⟩
    refine ⟨_, rfl, _, _, rfl, DGetS h1 (dkv_next ..), ?_⟩
    refine ⟨_, rfl, _, _, rfl, rfl, _, rfl, _, _, rfl, DPutS h1 (by show 4 < sizeLine; decide), ?_⟩
    have ncd : c ≠ d := fun e => by rw [e, h1] at h2; cases h2
    have g1 : (upd H d (.dK (dkv c (k + 1) l m))) d = some (.dK (dkv c (k + 1) l m)) := upd_same
    have g2 : (upd H d (.dK (dkv c (k + 1) l m))) c = some (.lst (ns.map V.int)) := by rw [upd_ne ncd]; exact h2
    have g3 : DrawAt (upd H d (.dK (dkv c (k + 1) l m))) d c := ⟨ns, k + 1, l, m, g1, g2, h3, by omega⟩
    have g4 : Keep [d] H (upd H d (.dK (dkv c (k + 1) l m))) := Keep.upd_in (by simp)
    refine ⟨_, rfl, _, _, rfl, DGetS g1 (dkv_mixed ..), _, rfl, _, _, rfl, rfl, Or.inl ⟨by decide, by decide⟩, _, _, rfl, rfl, ?_⟩
    refine ⟨_, rfl, _, rfl, _, _, rfl, DGetS g1 (dkv_cells ..), _, _, rfl, .inl (SqL.of g2), _, _, rfl, rfl, _, rfl, ?_⟩
    refine ite2 (fun hk => ?_) (fun hk => ?_)
    · rw [List.length_map] at hk
      obtain ⟨z, hz⟩ := atI_int h4 (of_decide_eq_true hk)
      refine ⟨_, rfl, _, _, rfl, DGetS g1 (dkv_cells ..), _, rfl, _, _, _, _, rfl, rfl, SqL.of g2, hz, ?_⟩
      refine ⟨_, rfl, _, _, rfl, rfl, ⟨by decide, by decide, by decide⟩, _, _, rfl, rfl, _, rfl, ?_⟩
      refine ite2 (fun hc => ?_) (fun hc => ?_)
      · refine ⟨_, rfl, _, _, rfl, rfl, ⟨by decide, by decide, by decide⟩, _, _, rfl, rfl, ?_⟩
        exact q _ _ g3 g4
      · refine ⟨_, rfl, _, _, rfl, rfl, Or.inr ⟨by decide, by decide⟩, _, rfl, _, _, rfl, rfl, Or.inl ⟨by decide, by decide⟩, _, _, rfl, rfl, _, _, rfl, rfl, _, _, rfl, rfl, (by show (0 : Int) < _; decide), ?_⟩
        refine ⟨_, rfl, _, rfl, _, rfl, _, _, rfl, rfl, Or.inl ⟨by decide, by decide⟩, _, _, rfl, rfl, _, _, rfl, rfl, _, _, rfl, rfl, Or.inl (mod_small (by decide) (by decide)), _, _, rfl, rfl, (by show (0 : Int) < _; decide), ?_⟩
        refine ⟨_, rfl, _, rfl, _, rfl, _, _, rfl, rfl, _, _, rfl, rfl, _, _, rfl, rfl, Or.inl (mod_small (by decide) (by decide)), _, _, rfl, rfl, (by show (0 : Int) < _; decide), ?_⟩
        refine ⟨_, rfl, _, _, rfl, rfl, Or.inr ⟨by decide, by decide⟩, _, rfl, _, _, rfl, rfl, _, _, rfl, rfl, Or.inr ⟨by decide, by decide⟩, _, rfl, _, _, rfl, rfl, ?_⟩
        exact q _ _ g3 g4
    · refine ⟨_, rfl, _, _, rfl, rfl, ⟨by decide, by decide, by decide⟩, _, _, rfl, rfl, _, rfl, ?_⟩
      refine ite2 (fun hc => ?_) (fun hc => ?_)
      · refine ⟨_, rfl, _, _, rfl, rfl, ⟨by decide, by decide, by decide⟩, _, _, rfl, rfl, ?_⟩
        exact q _ _ g3 g4
      · refine ⟨_, rfl, _, _, rfl, rfl, Or.inr ⟨by decide, by decide⟩, _, rfl, _, _, rfl, rfl, Or.inl ⟨by decide, by decide⟩, _, _, rfl, rfl, _, _, rfl, rfl, _, _, rfl, rfl, (by show (0 : Int) < _; decide), ?_⟩
        refine ⟨_, rfl, _, rfl, _, rfl, _, _, rfl, rfl, Or.inl ⟨by decide, by decide⟩, _, _, rfl, rfl, _, _, rfl, rfl, _, _, rfl, rfl, Or.inl (mod_small (by decide) (by decide)), _, _, rfl, rfl, (by show (0 : Int) < _; decide), ?_⟩
        refine ⟨_, rfl, _, rfl, _, rfl, _, _, rfl, rfl, _, _, rfl, rfl, _, _, rfl, rfl, Or.inl (mod_small (by decide) (by decide)), _, _, rfl, rfl, (by show (0 : Int) < _; decide), ?_⟩
        refine ⟨_, rfl, _, _, rfl, rfl, Or.inr ⟨by decide, by decide⟩, _, rfl, _, _, rfl, rfl, _, _, rfl, rfl, Or.inr ⟨by decide, by decide⟩, _, rfl, _, _, rfl, rfl, ?_⟩
        exact q _ _ g3 g4
end
end My
set_option Elab.async false
set_option maxRecDepth 100000
set_option maxHeartbeats 4000000
namespace My
open PySem L2 TL
section
variable {P : Program} {w : World} {K : PySem.W.Frag} {mg : Str → Option Value} {base : Heap}

def sp_next : Sp := fun vs H Q _ => ∃ d c n, vs = [.ref d, .int n] ∧ DrawAt H d c ∧ 0 < n ∧ n < 2 ^ 64 ∧ ∀ r H', 0 ≤ r → r < n → DrawAt H' d c → Keep [d] H H' → Q (.int r) H'
theorem p__law_next (T : Txt K mg) : Pr P w K mg base "_law_next" s__law_next ["state", "many"] 2 sp_next := by
  obtain ⟨f, fd, D⟩ := T.d__law_next
  obtain ⟨f__law_more, fd__law_more, D__law_more, G__law_more⟩ := p__law_more (P := P) (w := w) (base := base) T
  refine ⟨f, fd, D, D.F.ok sc__law_next (fun vs H Q E h => ?_) (fun cdv A outer s H vs Q E hr h => ?_)⟩
  · obtain ⟨d, c, n, rfl, _⟩ := h; rfl
  · obtain ⟨d, c, n, rfl, D0, n0, n1, q⟩ := h
    have hu := hu_of hr
    refine ⟨_, (pss_cons (ps_if (pt_cmpR op_eq (pe_dget hu (pv 0) pe_str (fun _ _ => rfl)) pe_int (nomark _)) (pss_one (ps_dput hu (pv 0) pe_str (pe_call G__law_more (hr.mono (by decide)) rfl D__law_more.m D__law_more.F.kp D__law_more.b .nil pass0 (pa_cons (pv 0) pa_nil)) rfl)) pss_nil)
      (pss_cons (ps_set (i := 2) sc__law_next.nd rfl (Or.inl rfl) (pe_op op_mod (pe_dget hu (pv 0) pe_str (fun _ _ => rfl)) (pv 1)))
      (pss_cons (ps_dput hu (pv 0) pe_str (pe_op op_fdivW (pe_dget hu (pv 0) pe_str (fun _ _ => rfl)) (pv 1)) rfl)
      (pss_one (ps_ret (pv 2)))))), ?_⟩
    obtain ⟨ns, k, l, m, h1, h2, h3, h4⟩ := id D0
    refine ⟨_, rfl, _, _, rfl, DGetS h1 (dkv_left ..), rfl, _, rfl, ?_⟩
    have rest : ∀ H1, DrawAt H1 d c → Keep [d] H H1 → ∃ k l m, H1 d = some (.dK (dkv c k l m)) ∧ (∀ l', DrawAt (upd H1 d (.dK (dkv c k l' m))) d c ∧ Keep [d] H (upd H1 d (.dK (dkv c k l' m)))) := fun H1 D1 K1 => by
      obtain ⟨ns, k, l, m, h1, h2, h3, h4⟩ := D1
      refine ⟨k, l, m, h1, fun l' => ⟨⟨ns, k, l', m, upd_same, ?_, h3, h4⟩, K1.trans (Keep.upd_in (by simp))⟩⟩
      rw [upd_ne (fun e => by rw [e, h1] at h2; cases h2)]; exact h2
    refine ite2 (fun _ => ?_) (fun _ => ?_)
    · refine ⟨_, rfl, d, c, rfl, D0, fun r H1 D1 K1 => ?_⟩
      obtain ⟨k, l, m, h1, z⟩ := rest H1 D1 K1
      refine ⟨_, rfl, _, _, rfl, DPutS h1 (by show 4 < sizeLine; decide), ?_⟩
      obtain ⟨k, l, m, h1, z⟩ := rest _ (z r).1 (z r).2
      refine ⟨_, rfl, _, _, rfl, DGetS h1 (dkv_left ..), _, rfl, _, _, rfl, rfl, n0, ?_⟩
      refine ⟨_, rfl, _, _, rfl, DGetS h1 (dkv_left ..), _, rfl, _, _, rfl, rfl, wide_div (b := 64) n0 (by omega) (by decide) (by decide), _, rfl, _, _, rfl, DPutS h1 (by show 4 < sizeLine; decide), ?_⟩
      exact ⟨_, rfl, q _ _ (Int.emod_nonneg _ (by omega)) (Int.emod_lt_of_pos _ n0) (z _).1 (z _).2⟩
    · obtain ⟨k, l, m, h1, z⟩ := rest H D0 Keep.refl
      refine ⟨_, rfl, _, _, rfl, DGetS h1 (dkv_left ..), _, rfl, _, _, rfl, rfl, n0, ?_⟩
      refine ⟨_, rfl, _, _, rfl, DGetS h1 (dkv_left ..), _, rfl, _, _, rfl, rfl, wide_div (b := 64) n0 (by omega) (by decide) (by decide), _, rfl, _, _, rfl, DPutS h1 (by show 4 < sizeLine; decide), ?_⟩
      exact ⟨_, rfl, q _ _ (Int.emod_nonneg _ (by omega)) (Int.emod_lt_of_pos _ n0) (z _).1 (z _).2⟩

/-- what may be picked from -/
def PickV (H : Hp) (x : V) (xs : List V) : Prop := (∃ a, x = .ref a ∧ (H a = some (.lst xs) ∨ H a = some (.tup xs))) ∨ ∃ z : Str, x = .str z ∧ z.length ≤ sizeLine ∧ xs = (tl z).map fun c => V.str ⟨#[c]⟩
theorem PickV.keep {H H' : Hp} {d c : Addr} {x : V} {xs : List V} (h : PickV H x xs) (D : DrawAt H d c) (k : Keep [d] H H') : PickV H' x xs := by
  obtain ⟨ns, k', l, m, h1, _⟩ := D
  rcases h with ⟨a, rfl, h⟩ | h
  · have na : a ∉ [d] := by
      simp only [List.mem_singleton]; rintro rfl; rw [h1] at h; rcases h with h | h <;> cases h
    exact .inl ⟨a, rfl, h.imp (fun h => k _ _ h na) fun h => k _ _ h na⟩
  · exact .inr h
def sp_pick : Sp := fun vs H Q _ => ∃ d c x xs, vs = [.ref d, x] ∧ DrawAt H d c ∧ PickV H x xs ∧ 0 < xs.length ∧ xs.length < 1000000000 ∧ ∀ v H', v ∈ xs → DrawAt H' d c → Keep [d] H H' → Q v H'
theorem p__law_pick (T : Txt K mg) : Pr P w K mg base "_law_pick" s__law_pick ["state", "some"] 3 sp_pick := by
  obtain ⟨f, fd, D⟩ := T.d__law_pick
  obtain ⟨f__law_next, fd__law_next, D__law_next, G__law_next⟩ := p__law_next (P := P) (w := w) (base := base) T
  refine ⟨f, fd, D, D.F.ok sc__law_pick (fun vs H Q E h => ?_) (fun cdv A outer s H vs Q E hr h => ?_)⟩
  · obtain ⟨d, c, n, xs, rfl, _⟩ := h; rfl
  · obtain ⟨d, c, x, xs, rfl, D0, PV, n0, n1, q⟩ := h
    have hu := hu_of hr
    refine ⟨_, (pss_one (ps_ret (pe_ix ix_seq (pv 1) (pe_call G__law_next (hr.mono (by decide)) rfl D__law_next.m D__law_next.F.kp D__law_next.b .nil pass0 (pa_cons (pv 0) (pa_cons (pe_callB call_len (by rfl) T.z_len (by decide +kernel) (pa_cons (pv 1) pa_nil)) pa_nil))) (fun _ _ => rfl)))), ?_⟩
    have hl : ∀ H1, PickV H1 x xs → LenV K x H1 xs.length := fun H1 h => by
      rcases h with ⟨a, rfl, h | h⟩ | ⟨z, rfl, hz, rfl⟩
      · exact .inl ⟨xs, SqL.of h, rfl⟩
      · exact .inr ⟨xs, SqT.of h, rfl⟩
      · refine ⟨hz, ?_⟩
        rw [List.length_map]; exact (len_tl z).symm
    refine ⟨_, rfl, _, rfl, _, rfl, x, xs.length, rfl, hl H PV, d, c, _, rfl, D0, by omega, by omega, fun r H1 r0 r1 D1 K1 => ?_⟩
    have PV1 := PV.keep D0 K1
    obtain ⟨v, e1, e2⟩ := atI_of (xs := xs) r0 r1
    have hm : v ∈ xs := List.mem_of_getElem? e1
    rcases id PV1 with ⟨a, rfl, h | h⟩ | ⟨z, rfl, hz, rfl⟩
    · exact .inl ⟨a, xs, r, v, rfl, rfl, SqL.of h, e2, q v H1 hm D1 K1⟩
    · exact .inr (.inl ⟨a, xs, r, v, rfl, rfl, SqT.of h, e2, q v H1 hm D1 K1⟩)
    · obtain ⟨c', hc, rfl⟩ := List.mem_map.mp hm
      refine .inr (.inr ⟨z, r, c', rfl, rfl, hz, ?_, q _ H1 hm D1 K1⟩)
      obtain ⟨c3, e3, e4⟩ := atI_of (xs := tl z) r0 (by rw [List.length_map] at r1; exact r1)
      rw [List.getElem?_map, e3] at e1
      cases e1
      exact e4
end
end My
set_option Elab.async false
set_option maxRecDepth 100000
set_option maxHeartbeats 4000000
namespace My
open PySem L2 TL
section
variable {P : Program} {w : World} {K : PySem.W.Frag} {mg : Str → Option Value} {base : Heap}

theorem yes {A B : Prop} (h : A) : if true = true then A else B := by rw [if_pos rfl]; exact h
theorem tYes_go {F : Bool → Hp → Prop} {σ : L2.St} {H : Hp} (h : F true H) : tYes σ H F := h
def sp_begin (K : PySem.W.Frag) : Sp := fun vs H Q _ => ∃ (a : Addr) (ns : List Int), vs = [.ref a] ∧ SqL K H a (ns.map V.int) ∧ ns.length ≤ 63 ∧ ∀ d c H', H d = none → H c = none → DrawAt H' d c → Keep [] H H' → Q (.ref d) H'
theorem p__law_begin (T : Txt K mg) : Pr P w K mg base "_law_begin" s__law_begin ["script"] 1 (sp_begin K) := by
  obtain ⟨f, fd, D⟩ := T.d__law_begin
  refine ⟨f, fd, D, D.F.ok sc__law_begin (fun vs H Q E h => ?_) (fun cdv A outer s H vs Q E hr h => ?_)⟩
  · obtain ⟨d, n, rfl, _⟩ := h; rfl
  · obtain ⟨a, ns, rfl, hS, hl, q⟩ := h
    refine ⟨_, (pss_cons (ps_set (i := 1) sc__law_begin.nd rfl (Or.inl rfl) pe_int)
      (pss_cons (ps_for PassesOwn.never rfl (pi_list (pv 0)) (pg_name (i := 2) sc__law_begin.nd rfl (Or.inl rfl)) (pss_one (ps_set (i := 1) sc__law_begin.nd rfl (Or.inl rfl) (pe_op op_mod (pe_op op_add (pe_op op_mul (pv 1) pe_int) (pv 2)) pe_int))))
      (pss_one (ps_ret (pe_disp (pps_cons pe_str (pe_callTy call_list_of (by rfl) T.z_list (by decide +kernel) (pa_cons (pv 0) pa_nil)) (pps_cons pe_str pe_int (pps_cons pe_str pe_int (pps_cons pe_str (pv 1) pps_nil)))) (by rfl) (by rfl) (fun z => by cases z) (by decide)))))), ?_⟩
    refine ⟨_, rfl, a, rfl, ⟨_, hS⟩, for_list (K := K) (a := a) (xs := ns.map V.int) (fun i σ H2 => H2 = H ∧ ∃ (m : Int) (v : Option V), -(2 ^ 64) < m ∧ m < 2 ^ 64 ∧ σ = [some (.ref a), some (.int m), v]) ⟨rfl, 11, none, by decide, by decide, rfl⟩ (fun i σ H2 _ ⟨e, _⟩ => e ▸ hS) ?_ ?_⟩
    · rintro i x σ H2 hi ⟨rfl, m, v, m0, m1, rfl⟩
      obtain ⟨z, _, rfl⟩ := List.mem_map.mp (List.mem_of_getElem? hi)
      refine ⟨_, rfl, _, _, rfl, rfl, Or.inl ⟨m0, m1⟩, _, rfl, _, _, rfl, rfl, _, _, rfl, rfl, (by show (0 : Int) < _; decide), ?_⟩
      exact ⟨rfl, _, _, (mod_small (by decide) (by decide)).1, (mod_small (by decide) (by decide)).2, rfl⟩
    · rintro σ H2 ⟨rfl, m, v, m0, m1, rfl⟩
      refine fun p hp => ?_
      have hS' : SqL K (upd H2 p (.dK [])) a (ns.map V.int) := Same.seq (Keep.same (Keep.upd_new hp)) hS
      refine ⟨_, rfl, _, _, rfl, .inl hS', fun l hl' => ?_⟩
      have npl : p ≠ l := ne_of_none upd_same hl'
      refine ⟨_, rfl, (by rw [upd_ne npl]; exact upd_same), dkv l 0 0 m, rfl, (by show 4 ≤ 15; decide), ?_⟩
      have nl0 : H2 l = none := by rw [upd_ne npl.symm] at hl'; exact hl'
      refine q p l _ hp nl0 ⟨ns, 0, 0, m, upd_same, (by rw [upd_ne npl.symm]; exact upd_same), hl, by decide⟩ fun b o e _ => ?_
      have nb : b ≠ p := ne_of_none e hp
      rw [upd_ne nb, upd_ne (ne_of_none (by rw [upd_ne nb]; exact e) hl'), upd_ne nb]; exact e

/-- a name's text -/
def NameS (z : Str) : Prop := 1 ≤ (tl z).length ∧ (tl z).length ≤ 8 ∧ ∀ c ∈ tl z, 97 ≤ c ∧ c ≤ 122
def nameB (z : Str) : Bool := decide (1 ≤ (tl z).length) && decide ((tl z).length ≤ 8) && (tl z).all fun c => decide (97 ≤ c) && decide (c ≤ 122)
theorem NameS.of {z : Str} (h : nameB z = true) : NameS z := by
  unfold nameB at h
  simp only [Bool.and_eq_true, decide_eq_true_eq, List.all_eq_true] at h
  exact ⟨h.1.1, h.1.2, h.2⟩
/-- a text of one letter -/
def SignS (z : Str) : Prop := ∃ c, z = ⟨#[c]⟩ ∧ 97 ≤ c ∧ c ≤ 122
theorem letter_ok : ∀ c ∈ tl ("abcdefghijklmnopqrstuvwxyz" : Str), SignS ⟨#[c]⟩ := fun c hc => by
  have h : (tl ("abcdefghijklmnopqrstuvwxyz" : Str)).all (fun c => decide (97 ≤ c) && decide (c ≤ 122)) = true := by decide +kernel
  have := List.all_eq_true.mp h c hc
  simp only [Bool.and_eq_true, decide_eq_true_eq] at this
  exact ⟨c, rfl, this.1, this.2⟩
theorem own_ok : ∀ z ∈ Txt.split ("order great best put take move enter lock share net claim back found wish act tick pay send all none" : Str) " ", nameB z = true := by decide +kernel
theorem joinL_signs : ∀ {zs : List Str}, (∀ z ∈ zs, SignS z) → (joinL [] (zs.map tl)).length = zs.length ∧ ∀ c ∈ joinL [] (zs.map tl), 97 ≤ c ∧ c ≤ 122
  | [], _ => ⟨rfl, by simp [joinL]⟩
  | [z], h => by
    obtain ⟨c, rfl, h1, h2⟩ := h z (by simp)
    refine ⟨rfl, fun d hd => ?_⟩
    have : d = c := by simpa [joinL, tl] using hd
    subst this; exact ⟨h1, h2⟩
  | z :: y :: r, h => by
    obtain ⟨c, rfl, h1, h2⟩ := h z (by simp)
    obtain ⟨e1, e2⟩ := joinL_signs (zs := y :: r) fun z hz => h z (List.mem_cons_of_mem _ hz)
    have e : joinL [] (((⟨#[c]⟩ : Str) :: y :: r).map tl) = c :: joinL [] ((y :: r).map tl) := rfl
    rw [e]
    refine ⟨by rw [List.length_cons, e1]; rfl, fun d hd => ?_⟩
    rcases List.mem_cons.mp hd with rfl | hd
    · exact ⟨h1, h2⟩
    · exact e2 d hd
theorem name_join {zs : List Str} (h : ∀ z ∈ zs, SignS z) (h1 : 1 ≤ zs.length) (h2 : zs.length ≤ 8) : NameS (Txt.join "" zs) := by
  obtain ⟨e1, e2⟩ := joinL_signs h
  have e : tl (Txt.join "" zs) = joinL [] (zs.map tl) := by rw [join_eq, tl_join]; rfl
  unfold NameS
  rw [e, e1]
  exact ⟨h1, h2, e2⟩
theorem sign_sum : ∀ {zs : List Str}, (∀ z ∈ zs, SignS z) → (zs.map fun x => x.length).sum = zs.length
  | [], _ => rfl
  | z :: r, h => by
    obtain ⟨c, rfl, _⟩ := h z (by simp)
    have e := sign_sum (zs := r) fun z hz => h z (List.mem_cons_of_mem _ hz)
    rw [List.map_cons, List.sum_cons, e, List.length_cons]
    show 1 + r.length = r.length + 1
    omega
def sp_word : Sp := fun vs H Q _ => ∃ d c, vs = [.ref d] ∧ DrawAt H d c ∧ ∀ z H', NameS z → DrawAt H' d c → Keep [d] H H' → Q (.str z) H'
theorem p__law_word (T : Txt K mg) : Pr P w K mg base "_law_word" s__law_word ["state"] 4 sp_word := by
  obtain ⟨f, fd, D⟩ := T.d__law_word
  obtain ⟨f__law_pick, fd__law_pick, D__law_pick, G__law_pick⟩ := p__law_pick (P := P) (w := w) (base := base) T; obtain ⟨f__law_next, fd__law_next, D__law_next, G__law_next⟩ := p__law_next (P := P) (w := w) (base := base) T
  refine ⟨f, fd, D, D.F.ok sc__law_word (fun vs H Q E h => ?_) (fun cdv A outer s H vs Q E hr h => ?_)⟩
  · obtain ⟨d, c, rfl, _⟩ := h; rfl
  · obtain ⟨d, c, rfl, D0, q⟩ := h
    refine ⟨_, (pss_cons (ps_set (i := 1) sc__law_word.nd rfl (Or.inr rfl) pe_str)
      (pss_cons (ps_set (i := 2) sc__law_word.nd rfl (Or.inl rfl) pe_str)
      (pss_cons (ps_if (pt_cmpR op_eq (pe_call G__law_next (hr.mono (by decide)) rfl D__law_next.m D__law_next.F.kp D__law_next.b .nil pass0 (pa_cons (pv 0) (pa_cons pe_int pa_nil))) pe_int (nomark _)) (pss_one (ps_ret (pe_call G__law_pick (hr.mono (by decide)) rfl D__law_pick.m D__law_pick.F.kp D__law_pick.b .nil pass0 (pa_cons (pv 0) (pa_cons (pe_split (pv 2) pe_str) pa_nil))))) pss_nil)
      (pss_cons (ps_set (i := 3) sc__law_word.nd rfl (Or.inl rfl) (pe_ix ix_list (pe_lst (pa_cons pe_int (pa_cons pe_int (pa_cons pe_int (pa_cons pe_int (pa_cons pe_int (pa_cons pe_int pa_nil))))))) (pe_call G__law_next (hr.mono (by decide)) rfl D__law_next.m D__law_next.F.kp D__law_next.b .nil pass0 (pa_cons (pv 0) (pa_cons pe_int pa_nil))) (fun _ _ => rfl)))
      (pss_one (ps_ret (pe_join pe_str (pe_lc (own := [("turn", 4)]) (g := gName 4) (tt := tYes) rfl sc__law_word.nd (pi_range1 rfl T.z_range (pa_cons (pv 3) pa_nil)) (blkOk_by (own := [("turn", 4)]) (N := N__law_word) (sc := defScope s__law_word) (by decide +kernel)) (fun _ _ _ _ _ => (pg_name (i := 4) sc__law_word.nd rfl (Or.inl rfl))) (fun _ _ _ _ _ => pts_nil) (fun _ _ _ _ _ => (pe_call G__law_pick (hr.mono (by decide)) rfl D__law_pick.m D__law_pick.F.kp D__law_pick.b .nil pass0 (pa_cons (pv 0) (pa_cons (pv 1) pa_nil)))))))))))), ?_⟩
    refine ⟨_, rfl, d, c, _, rfl, D0, by decide, by decide, fun r H1 r0 r1 D1 K1 => ⟨rfl, _, rfl, ite2 (fun _ => ?_) (fun _ => ?_)⟩⟩
    · refine ⟨_, rfl, _, rfl, ⟨_, rfl⟩, _, _, rfl, rfl, (by decide +kernel), (by decide +kernel), fun p hp => ?_⟩
      refine ⟨d, c, _, _, rfl, D1.keep (Keep.upd_new hp), .inl ⟨p, rfl, .inl upd_same⟩, by rw [List.length_map]; decide +kernel, by rw [List.length_map]; decide +kernel, fun v H2 hv D2 K2 => ?_⟩
      obtain ⟨z, hz, rfl⟩ := List.mem_map.mp hv
      exact q z H2 (NameS.of (own_ok z hz)) D2 ((K1.trans (Keep.upd_new hp)).trans K2)
    · refine ⟨by show 6 ≤ sizeLine; decide, fun l hl => ?_⟩
      refine ⟨_, rfl, d, c, _, rfl, D1.keep (Keep.upd_new hl), by decide, by decide, fun r2 H3 s0 s1 D3 K3 => ?_⟩
      have ln : l ≠ d := (D1.new hl).1.symm
      have hl3 : H3 l = some (.lst [.int 1, .int 1, .int 2, .int 3, .int 5, .int 8]) := K3 _ _ upd_same (by simpa using ln)
      obtain ⟨v, e1, e2⟩ := atI_of (xs := [V.int 1, .int 1, .int 2, .int 3, .int 5, .int 8]) (i := r2) s0 (by simpa using s1)
      obtain ⟨n, rfl, n0, n1⟩ : ∃ n : Int, v = .int n ∧ 1 ≤ n ∧ n ≤ 8 := by
        have hm := List.mem_of_getElem? e1
        simp only [List.mem_cons, List.not_mem_nil, or_false] at hm
        rcases hm with rfl | rfl | rfl | rfl | rfl | rfl <;> exact ⟨_, rfl, by decide, by decide⟩
      refine ⟨l, _, r2, _, rfl, rfl, SqL.of hl3, e2, ?_⟩
      have KA : Keep [d] H H3 := (K1.trans (Keep.upd_new hl)).trans K3
      refine ⟨⟨_, rfl⟩, _, rfl, n, rfl, by omega, by omega, fun L hL => ?_⟩
      have nL := (D3.new hL).1
      have cL := (D3.new hL).2
      refine lc_range (lo := 0) (n := n.toNat) (fun i H4 => DrawAt H4 d c ∧ Keep [d] H H4 ∧ ∃ zs : List Str, H4 L = some (.lst (zs.map V.str)) ∧ zs.length = i ∧ ∀ z ∈ zs, SignS z) ⟨D3.keep (Keep.upd_new hL), KA.trans (Keep.upd_new hL), [], upd_same, rfl, by simp⟩ ?_ ?_
      · rintro i H4 hi ⟨D4, K4, zs, h4, hz, ha⟩
        refine ⟨rfl, tYes_go (yes ?_)⟩
        refine ⟨_, rfl, _, rfl, d, c, _, _, rfl, D4, .inr ⟨_, rfl, by decide +kernel, rfl⟩, by rw [List.length_map]; decide +kernel, by rw [List.length_map]; decide +kernel, fun v H5 hv D5 K5 => ?_⟩
        obtain ⟨s, hs, rfl⟩ := List.mem_map.mp hv
        have h5 := K5 _ _ h4 (by simpa using nL.symm)
        refine ⟨_, h5, by rw [List.length_map, hz]; have : sizeLine = 16777216 := sizeLine_eq; omega, ?_⟩
        refine ⟨D5.keep (Keep.upd_in (ds := [L]) (by simp)) (by simpa using nL) (by simpa using cL), fun b o e hb => ?_, zs ++ [_], by rw [upd_same, List.map_append]; rfl, by simp [hz], fun z hm => ?_⟩
        · have := K5 _ _ (K4 b o e hb) hb
          rw [upd_ne]; exact this
          rintro rfl
          exact absurd (KA b o e hb) (by rw [hL]; simp)
        · rcases List.mem_append.mp hm with hm | hm
          · exact ha z hm
          · rw [List.mem_singleton] at hm; subst hm; exact letter_ok s hs
      · rintro H4 ⟨D4, K4, zs, h4, hz, ha⟩
        refine ⟨_, L, zs, rfl, rfl, .inl (SqL.of h4), ?_, q _ H4 (name_join ha (by omega) (by omega)) D4 K4⟩
        rw [sign_sum ha]
        have : ("" : Str).length = 0 := by decide +kernel
        rw [this]
        omega
end
end My
set_option Elab.async false
set_option maxRecDepth 100000
set_option maxHeartbeats 4000000
namespace My
open PySem L2 TL
section
variable {P : Program} {w : World} {K : PySem.W.Frag} {mg : Str → Option Value} {base : Heap}
abbrev ABC : Str := "abcdefghijklmnopqrstuvwxyz"
theorem take_succ_of {α : Type} {l : List α} {i : Nat} {x : α} (h : l[i]? = some x) : l.take (i + 1) = l.take i ++ [x] := by
  rw [List.take_add_one, h]; rfl
theorem cut_take {z : Str} {k : Nat} : tl (cutS z none (some (k : Int))) = (tl z).take k := by
  unfold cutS
  show List.take _ (List.drop (HT.sIx z.length 0 none) z.cps.toList) = _
  rw [HT.sIx_none, HT.sIx_nat, List.drop_zero]
  have e := len_tl z
  show List.take (min k z.length - 0) (tl z) = _
  rw [Nat.sub_zero]
  by_cases h : k ≤ z.length
  · rw [Nat.min_eq_left h]
  · rw [Nat.min_eq_right (by omega), List.take_of_length_le (by omega), List.take_of_length_le (by omega)]
theorem cut7_len {z : Str} (h : NameS z) : (tl (cutS z none (some 7))).length ≤ 7 := by
  have e : tl (cutS z none (some 7)) = (tl z).take 7 := cut_take (k := 7)
  rw [e, List.length_take]; omega
theorem cut7_name {z : Str} {c : Nat} (h : NameS z) (hc : 97 ≤ c ∧ c ≤ 122) : NameS (cutS z none (some 7) ++ ⟨#[c]⟩) := by
  have e : tl (cutS z none (some 7) ++ ⟨#[c]⟩) = (tl z).take 7 ++ [c] := by rw [tl_append, show tl (cutS z none (some 7)) = (tl z).take 7 from cut_take (k := 7)]
  unfold NameS
  rw [e]
  refine ⟨by simp, by simp; omega, fun d hd => ?_⟩
  rcases List.mem_append.mp hd with hd | hd
  · exact h.2.2 d (List.mem_of_mem_take hd)
  · rw [List.mem_singleton] at hd; subst hd; exact hc
theorem Keep.trans_new {H H1 : Hp} {L : Addr} {o : HO} (k : Keep [] H H1) (h : H L = none) : Keep [] H (upd H1 L o) := fun b u e n => by
  rw [upd_ne (ne_of_none e h)]; exact k b u e n
theorem inV_str (x : Str) : ∀ zs : List Str, inV (V.str x) (zs.map V.str) = decide (x ∈ zs)
  | [] => rfl
  | y :: r => by
    have e := inV_str x r
    unfold inV at e ⊢
    rw [List.map_cons, List.any_cons, e]
    show ((y == x) || decide (x ∈ r)) = _
    by_cases h : x = y
    · subst h; simp
    · have : (y == x) = false := beq_eq_false_iff_ne.mpr (Ne.symm h)
      rw [this]; simp [h]
theorem all_flat_str (zs : List Str) : (zs.map V.str).all flatV = true := by
  rw [List.all_eq_true]; intro v hv
  obtain ⟨z, _, rfl⟩ := List.mem_map.mp hv; rfl
/-- a list or tuple of names, no two alike -/
structure CrewL (zs : List Str) : Prop where
  ok : ∀ z ∈ zs, NameS z
  nd : zs.Nodup
theorem nodup_sub : ∀ {ys zs : List Str}, ys.Nodup → (∀ y ∈ ys, y ∈ zs) → ys.length ≤ zs.length
  | [], _, _, _ => Nat.zero_le _
  | y :: r, zs, nd, h => by
    have hy : y ∈ zs := h y (by simp)
    have e := List.length_erase_of_mem hy
    have nr := (List.nodup_cons.mp nd)
    have := nodup_sub (ys := r) (zs := zs.erase y) nr.2 fun x hx => by
      have : x ≠ y := fun e => nr.1 (e ▸ hx)
      exact (List.mem_erase_of_ne this).mpr (h x (List.mem_cons_of_mem _ hx))
    have p := List.length_pos_of_mem hy
    rw [List.length_cons]; omega
def spareL (z : Str) : List Str := z :: (tl ABC).map fun c => cutS z none (some 7) ++ ⟨#[c]⟩
theorem ABC_ok : ∀ c ∈ tl ABC, 97 ≤ c ∧ c ≤ 122 := fun c hc => by
  obtain ⟨c', e, h⟩ := letter_ok c hc
  have : c = c' := by injection e with e; simpa using e
  subst this; exact h
theorem spare_names {z : Str} (h : NameS z) : ∀ y ∈ spareL z, NameS y := fun y hy => by
  rcases List.mem_cons.mp hy with rfl | hy
  · exact h
  · obtain ⟨c, hc, rfl⟩ := List.mem_map.mp hy
    exact cut7_name h (ABC_ok c hc)
theorem spare_nd (z : Str) : ((tl ABC).map fun c => cutS z none (some 7) ++ (⟨#[c]⟩ : Str)).Nodup := by
  refine List.Pairwise.map _ (R := fun a b => a ≠ b) (fun a b hab e => hab ?_) (by decide +kernel)
  have e2 := congrArg tl e
  rw [tl_append, tl_append] at e2
  have e3 := List.append_cancel_left e2
  simpa [tl] using e3
theorem spare_left {z : Str} {zs : List Str} (h : NameS z) (hz : zs.length < 26) : ∃ y r, (spareL z).filter (fun y => !decide (y ∈ zs)) = y :: r ∧ NameS y ∧ y ∉ zs := by
  cases e : (spareL z).filter (fun y => !decide (y ∈ zs)) with
  | cons y r =>
    have hm : y ∈ (spareL z).filter (fun y => !decide (y ∈ zs)) := by rw [e]; simp
    obtain ⟨h1, h2⟩ := List.mem_filter.mp hm
    exact ⟨y, r, rfl, spare_names h y h1, by simpa using h2⟩
  | nil =>
    have hall : ∀ y ∈ spareL z, y ∈ zs := fun y hy => by
      have := List.filter_eq_nil_iff.mp e y hy
      simpa using this
    have := nodup_sub (spare_nd z) fun y hy => hall y (List.mem_cons_of_mem _ hy)
    rw [List.length_map, show (tl ABC).length = 26 by decide +kernel] at this
    omega
def sp_crew : Sp := fun vs H Q _ => ∃ d c m, vs = [.ref d, .int m] ∧ DrawAt H d c ∧ 0 ≤ m ∧ m ≤ 20 ∧ ∀ p zs H', H p = none → H' p = some (.lst (zs.map V.str)) → CrewL zs → (zs.length : Int) = m → DrawAt H' d c → Keep [d] H H' → Q (.ref p) H'
theorem p__law_crew (T : Txt K mg) : Pr P w K mg base "_law_crew" s__law_crew ["state", "many"] 5 sp_crew := by
  obtain ⟨f, fd, D⟩ := T.d__law_crew
  obtain ⟨f__law_word, fd__law_word, D__law_word, G__law_word⟩ := p__law_word (P := P) (w := w) (base := base) T
  refine ⟨f, fd, D, D.F.ok sc__law_crew (fun vs H Q E h => ?_) (fun cdv A outer s H vs Q E hr h => ?_)⟩
  · obtain ⟨d, c, m, rfl, _⟩ := h; rfl
  · obtain ⟨d, c, m, rfl, D0, m0, m1, q⟩ := h
    refine ⟨_, (pss_cons (ps_set (i := 2) sc__law_crew.nd rfl (Or.inr rfl) (pe_lst pa_nil))
      (pss_cons (ps_for PassesOwn.never rfl (pi_range1 rfl T.z_range (pa_cons (pv 1) pa_nil)) (pg_name (i := 3) sc__law_crew.nd rfl (Or.inl rfl)) (pss_cons (ps_set (i := 4) sc__law_crew.nd rfl (Or.inr rfl) (pe_call G__law_word (hr.mono (by decide)) rfl D__law_word.m D__law_word.F.kp D__law_word.b .nil pass0 (pa_cons (pv 0) pa_nil)))
      (pss_cons (ps_set (i := 5) sc__law_crew.nd rfl (Or.inl rfl) (pe_op op_cat (pe_lst (pa_cons (pv 4) pa_nil)) (pe_lc (own := [("sign", 6)]) (g := gName 6) (tt := tYes) rfl sc__law_crew.nd (pi_str pe_str) (blkOk_by (own := [("sign", 6)]) (N := N__law_crew) (sc := defScope s__law_crew) (by decide +kernel)) (fun _ _ _ _ _ => (pg_name (i := 6) sc__law_crew.nd rfl (Or.inl rfl))) (fun _ _ _ _ _ => pts_nil) (fun _ _ _ _ _ => (pe_op op_add_str (pe_slice sl_str (pv 4) po_none (po_some pe_int)) (pv 6))))))
      (pss_one (ps_expr (pe_bm PySem.F.plainAttrs_list PySem.F.slot_list_append PySem.F.type_list_append mt_append (pv 2) (pa_cons (pe_ix ix_list (pe_lc (own := [("one", 7)]) (g := gName 7) rfl sc__law_crew.nd (pi_list (pv 5)) (blkOk_by (own := [("one", 7)]) (N := N__law_crew) (sc := defScope s__law_crew) (by decide +kernel)) (fun _ _ _ _ _ => (pg_name (i := 7) sc__law_crew.nd rfl (Or.inl rfl))) (fun _ _ _ _ _ => pts_one (pt_cmpR (op_notIn_seqK (K := K) rfl) (pv 7) (pv 2) (by rfl))) (fun _ _ _ _ _ => (pv 7))) pe_int (fun _ _ => rfl)) pa_nil)))))))
      (pss_one (ps_ret (pv 2))))), ?_⟩
    refine ⟨Nat.zero_le _, fun p hp => ?_⟩
    refine ⟨_, rfl, m, rfl, by omega, by omega, ?_⟩
    refine for_range (lo := 0) (n := m.toNat) (fun i σ H2 => ∃ (a b e : Option V) (zs : List Str), σ = [some (.ref d), some (.int m), some (.ref p), a, b, e, none, none] ∧ H2 p = some (.lst (zs.map V.str)) ∧ CrewL zs ∧ zs.length = i ∧ DrawAt H2 d c ∧ Keep [d] H H2) ⟨none, none, none, [], rfl, upd_same, ⟨by simp, by simp⟩, rfl, D0.keep (Keep.upd_new hp), Keep.upd_new hp⟩ ?_ ?_
    · rintro i σ H2 hi ⟨a, b, e, zs, rfl, h2, C2, hz, D2, K2⟩
      have np := D0.new hp
      refine ⟨_, rfl, d, c, rfl, D2, fun z H3 hz3 D3 K3 => ?_⟩
      refine ⟨_, rfl, by show 1 ≤ sizeLine; decide, fun l hl => ?_⟩
      have K3' : Keep [d] H H3 := K2.trans K3
      have nl := D3.new hl
      refine ⟨_, rfl, fun L hL => lc_it walk_str (fun i H4 => Keep [] (upd H3 l (.lst [.str z])) H4 ∧ H4 L = some (.lst (((tl ABC).take i).map fun c => V.str (cutS z none (some 7) ++ ⟨#[c]⟩)))) ⟨Keep.upd_new hL, upd_same⟩ (fun _ _ _ _ => trivial) ?_ ?_⟩
      · rintro j x H4 H5 hj ⟨K4, h4⟩ ⟨rfl, ch, hch, rfl⟩
        refine ⟨rfl, tYes_go (yes ?_)⟩
        refine ⟨_, rfl, _, rfl, _, rfl, (by have := hz3.2.1; rw [len_tl]; have : sizeLine = 16777216 := sizeLine_eq; omega), _, rfl, _, _, rfl, rfl, ?_, _, h4, ?_, K4.trans_new hL, ?_⟩
        · have h7 := cut7_len hz3
          have : sizeLine = 16777216 := sizeLine_eq
          have e : (⟨#[ch]⟩ : Str).length = 1 := rfl
          rw [e, len_tl]; omega
        · rw [List.length_map, List.length_take]
          have : (tl ABC).length = 26 := by decide +kernel
          have : sizeLine = 16777216 := sizeLine_eq
          omega
        · have e : (tl ABC)[j]? = some ch := by rw [← hch]; exact (Array.getElem?_toList).symm ▸ rfl
          rw [upd_same, take_succ_of e, List.map_append]; rfl
      · rintro H4 ⟨K4, h4⟩
        have e26 : (ABC).cps.size = (tl ABC).length := len_tl ABC
        rw [show (Str.ofString "abcdefghijklmnopqrstuvwxyz").cps.size = (tl ABC).length from e26, List.take_length] at h4
        have hl4 : H4 l = some (.lst [.str z]) := K4 _ _ upd_same (by simp)
        have h26 : (tl ABC).length = 26 := by decide +kernel
        have hs : sizeLine = 16777216 := sizeLine_eq
        refine ⟨l, L, _, _, rfl, rfl, hl4, h4, by rw [List.length_map, h26]; simp [hs], fun S hS => ?_⟩
        have es : [V.str z] ++ (tl ABC).map (fun c => V.str (cutS z none (some 7) ++ ⟨#[c]⟩)) = (spareL z).map V.str := by
          unfold spareL; rw [List.map_cons, List.map_map]; rfl
        rw [es]
        have K5 : Keep [d] H3 (upd H4 S (.lst ((spareL z).map V.str))) := ((Keep.upd_new hl).trans (K4.mono (by simp))).trans (Keep.upd_new hS)
        generalize hH5 : upd H4 S (.lst ((spareL z).map V.str)) = H5 at K5
        have hS5 : H5 S = some (.lst ((spareL z).map V.str)) := by rw [← hH5]; exact upd_same
        have hp3 : H3 p = some (.lst (zs.map V.str)) := K3 _ _ h2 (by simpa using np.1.symm)
        have hp5 : H5 p = some (.lst (zs.map V.str)) := K5 _ _ hp3 (by simpa using np.1.symm)
        have D5 : DrawAt H5 d c := by
          rw [← hH5]
          exact ((D3.keep (Keep.upd_new (ds := []) hl)).keep K4).keep (Keep.upd_new (ds := []) hS)
        refine ⟨_, rfl, .inl ⟨rfl, _, SqL.of hp5⟩, _, rfl, S, rfl, ⟨_, SqL.of hS5⟩, fun L2 hL2 => ?_⟩
        refine lc_list (K := K) (a := S) (xs := (spareL z).map V.str) (fun i H6 => Keep [] H5 H6 ∧ H6 L2 = some (.lst ((((spareL z).take i).filter fun y => !decide (y ∈ zs)).map V.str))) ⟨Keep.upd_new hL2, upd_same⟩ (fun i H6 _ ⟨k, _⟩ => SqL.of (k _ _ hS5 (by simp))) ?_ ?_
        · rintro j x H6 hj ⟨K6, h6⟩
          rw [List.getElem?_map] at hj
          cases ej : (spareL z)[j]? with
          | none => rw [ej] at hj; cases hj
          | some y =>
            rw [ej] at hj; cases hj
            refine ⟨rfl, _, rfl, _, rfl, p, _, rfl, .inl (SqL.of (K6 _ _ hp5 (by simp))), rfl, all_flat_str zs, _, rfl, ?_⟩
            rw [take_succ_of ej, List.filter_append]
            have ei : inV (V.str y) (zs.map V.str) = decide (y ∈ zs) := inV_str y zs
            by_cases hy : y ∈ zs
            · have e1 : (if true = true then !inV (V.str y) (zs.map V.str) else inV (V.str y) (zs.map V.str)) = false := by rw [if_pos rfl, ei]; simp [hy]
              rw [e1]
              refine iteF ⟨K6, ?_⟩
              rw [h6]; simp [hy]
            · have e1 : (if true = true then !inV (V.str y) (zs.map V.str) else inV (V.str y) (zs.map V.str)) = true := by rw [if_pos rfl, ei]; simp [hy]
              rw [e1]
              refine iteT ⟨_, rfl, _, h6, ?_, K6.trans_new hL2, ?_⟩
              · rw [List.length_map]
                refine Nat.lt_of_le_of_lt (List.length_filter_le _ _) ?_
                rw [List.length_take]
                have : (spareL z).length = 27 := by unfold spareL; rw [List.length_cons, List.length_map, h26]
                omega
              · rw [upd_same, List.map_append]; simp [hy]
        · rintro H6 ⟨K6, h6⟩
          rw [List.length_map, List.take_length] at h6
          obtain ⟨y, r, er, hy1, hy2⟩ := spare_left (zs := zs) hz3 (by omega)
          rw [er] at h6
          refine ⟨L2, _, 0, V.str y, rfl, rfl, SqL.of h6, atI_nat (j := 0) rfl, ?_⟩
          refine ⟨p, _, _, rfl, rfl, K6 _ _ hp5 (by simp), by rw [List.length_map]; omega, ?_⟩
          have K7 : Keep [d] H H6 := (K3'.trans K5).trans (K6.mono (by simp))
          refine ⟨_, _, _, zs ++ [y], rfl, by rw [upd_same, List.map_append]; rfl, ⟨fun x hx => ?_, ?_⟩, by simp [hz], (D5.keep K6).keep (Keep.upd_in (ds := [p]) (by simp)) (by simpa using np.1) (by simpa using np.2), fun b o e hb => ?_⟩
          · rcases List.mem_append.mp hx with hx | hx
            · exact C2.ok x hx
            · rw [List.mem_singleton] at hx; subst hx; exact hy1
          · refine List.nodup_append.mpr ⟨C2.nd, by simp, fun a ha b hb => ?_⟩
            rw [List.mem_singleton] at hb; subst hb
            rintro rfl; exact hy2 ha
          · rw [upd_ne (ne_of_none e hp)]; exact K7 b o e hb
    · rintro σ H2 ⟨a, b, e, zs, rfl, h2, C2, hz, D2, K2⟩
      exact ⟨_, rfl, q p zs H2 hp h2 C2 (by omega) D2 K2⟩
end
end My
set_option Elab.async false
set_option maxRecDepth 100000
set_option maxHeartbeats 4000000
namespace My
open PySem PySem.Spec PyProof.Rows PySem.SeqAt
section
variable {prog : Program} {w : World} {A : Around} {E : Value → Shared → Prop} {s : Shared}
/-- str.__ne__ of a text and a dict: it declines -/
theorem str_ne_dict (b : Str) (u : Tok) (l : Addr) (c : Value) (es : Array DictEntry) (n : Nat) (dd : Option Addr) (sl : Array (Option Value)) :
    Meets (Builtin.«str.__ne__» ⟨[.str b u, .ref l], []⟩)
      (fun _ R s => s.heap.get? l = some ⟨c, dd, .dict es n, sl⟩ ∧ R (.ok (.ret .notImplemented)) s) :=
  .of_wp fun prog w A R s h => by
    obtain ⟨hp, g, d, tk, os⟩ := s
    obtain ⟨hl, h⟩ := h
    wp_walk using AutoSeq1.wpAny_loadPart' hl, wpAny_load hl
    exact ⟨_, rfl, h⟩
theorem ne_dict_str {a : Addr} {o : Obj} {es : Array DictEntry} {ep : Nat} {b : Str} {u : Tok} {Q : Value → Shared → Prop} (ha : s.heap.get? a = some o) (hc : o.cls = .type "dict") (hd : o.data = .dict es ep)
    (hu : A.units < cLine) (h : Q (.bool true) s) : wpAny (model prog w) A (compareOp .NotEq (.ref a) (.str b u)) Q E s := by
  have tI : s.TypeIs (.ref a) "dict" := ⟨o, ha, hc⟩
  obtain ⟨cls, dd, data, sl⟩ := id o
  refine rc_ne_decline_or (k := false) tI (typeIs_str s b u) (by decide) PySem.F.sub_str_dict PySem.F.slot_dict_ne PySem.F.slot_str_ne_refl (fun Q' hq => ?_) (fun Q' hq => ?_) (fun Q' hq => wpAny_of_eq (rfl : isSame (.ref a) (.str b u) = pure false) hq) (.inr hu) h
  · refine wpAny_call_entry PySem.F.slot_dict_ne tI PySem.F.entry_dict_ne ?_ (PySem.F.args_dict_ne_2 _ _)
    show wpAny _ _ (Builtin.Dict.dictSlotArgs "__ne__" ⟨[.ref a, .str b u], []⟩ >>= _) _ _ s
    unfold Builtin.Dict.dictSlotArgs
    refine wpAny_bind (wpAny_bind (wpAny_notOrdered_dict tI ?_))
    refine wpAny_pure (wpAny_bind (wpAny_isInstance (T := "str") (typeIs_str s b u) PySem.F.sub_str_dict ?_))
    rw [if_pos (by rfl)]
    exact wpAny_bind (wpAny_rule (wpAny_pure ⟨_, rfl, hq⟩))
  · obtain ⟨cls, dd, data, sl⟩ := o
    cases hc; cases hd
    exact call_meets PySem.F.slot_str_ne_refl (typeIs_str s b u) PySem.F.entry_str_ne (PySem.F.args_str_ne_2 _ _) (str_ne_dict b u a _ es ep dd sl) ⟨ha, hq⟩
end
open L2 TL
/-- a value of a kind that a law hands in, by its type's name -/
inductive Thing (H : Hp) : V → String → Prop where
  | non : Thing H .non "NoneType"
  | bl (b : Bool) : Thing H (.bl b) "bool"
  | int (i : Int) : Thing H (.int i) "int"
  | str (z : Str) (h : z.length ≤ sizeLine) : Thing H (.str z) "str"
  | lst {a : Addr} {xs : List V} (h : H a = some (.lst xs)) : Thing H (.ref a) "list"
  | tup {a : Addr} {xs : List V} (h : H a = some (.tup xs)) : Thing H (.ref a) "tuple"
  | dct {a : Addr} {kvs : List (Key × V)} (h : H a = some (.dK kvs)) : Thing H (.ref a) "dict"
theorem Thing.ty {K : PySem.W.Frag} {H : Hp} {v : V} {n : String} (h : Thing H v n) : TyX K H v (.type n) := by
  cases h with
  | non => exact .base .non
  | bl b => exact .base (.bl b)
  | int i => exact .base (.int i)
  | str z h => exact .base (.str z)
  | lst h => exact .base (.lst h)
  | tup h => exact .base (.tup h)
  | dct h => exact .base (.dK h)
theorem Thing.keep {H H' : Hp} {d : Addr} {v : V} {n : String} (h : Thing H v n) (k : Keep [d] H H') (hv : v ≠ .ref d) : Thing H' v n := by
  have na : ∀ a, v = .ref a → a ∉ [d] := fun a e => by simp only [List.mem_singleton]; rintro rfl; exact hv e
  cases h with
  | non => exact .non
  | bl b => exact .bl b
  | int i => exact .int i
  | str z h => exact .str z h
  | lst h => exact .lst (k _ _ h (na _ rfl))
  | tup h => exact .tup (k _ _ h (na _ rfl))
  | dct h => exact .dct (k _ _ h (na _ rfl))
def rNeStr : R2 := fun x y H Q => ∃ n z, Thing H x n ∧ y = .str z ∧ Q (.bl (!decide (x = .str z))) H
theorem op_neStr {X : Cx} (hu : X.A.units + 64 < cLine) : OpR X (compareOp .NotEq) rNeStr := by
  intro pins s σ H x y v u Q I rx ry h
  obtain ⟨n, z, T, rfl, q⟩ := h
  obtain ⟨t, rfl⟩ := ry
  have fin : ∀ k : Bool, (!decide (x = V.str z)) = k → EP X pins σ Q (.bool k) s := fun k e => ⟨.bl k, H, I, rfl, e ▸ q⟩
  cases T with
  | non => cases (show v = Value.none from rx); exact RcNeAt.none_str z t _ _ _ _ (fin _ (by simp))
  | bl b => cases (show v = Value.bool b from rx); exact RcNeAt.bool_str b z t _ _ _ _ (fin _ (by simp))
  | int i => obtain ⟨t', rfl⟩ := (show ∃ t, v = Value.int i t from rx); exact RcNeAt.int_str i t' z t _ _ _ _ (fin _ (by simp))
  | str y hy =>
    obtain ⟨t', rfl⟩ := (show ∃ t, v = Value.str y t from rx)
    refine RcNeAt.str_str y t' z t _ _ _ _ (fin _ ?_)
    by_cases e : y = z
    · subst e; simp
    · simp [e]
  | @lst a xs h =>
    cases (show v = Value.ref a from rx)
    obtain ⟨_, its, k, _, h1⟩ := (show ObjOk X.prog X.w H s.heap a (.lst xs) from I.hok a _ h)
    exact RcNeAt.list_str z t ⟨_, h1, rfl, _, rfl⟩ (by omega) _ _ _ _ (fin _ (by simp))
  | @tup a xs h =>
    cases (show v = Value.ref a from rx)
    obtain ⟨_, its, _, o, h1, h2, k, h3⟩ := (show ObjOk X.prog X.w H s.heap a (.tup xs) from I.hok a _ h)
    exact RcNeAt.tuple_str z t ⟨_, h1, h2, _, h3⟩ (by omega) _ _ _ _ (fin _ (by simp))
  | @dct a kvs h =>
    cases (show v = Value.ref a from rx)
    obtain ⟨_, _, vs, _, o, es, ep, h1, h2, h3, _⟩ := (show ObjOk X.prog X.w H s.heap a (.dK kvs) from I.hok a _ h)
    exact ne_dict_str h1 h2.1 h3 (by omega) (fin _ (by simp))

def intV : V → Bool
  | .int _ => true
  | _ => false
def geV (lo : Int) : V → Bool
  | .int i => decide (lo ≤ i)
  | _ => false
def rngV (lo hi : Int) : V → Bool
  | .int i => decide (lo ≤ i) && decide (i ≤ hi)
  | _ => false
def nameV : V → Bool
  | .str z => nameB z
  | _ => false
theorem intV_eq {v : V} (h : intV v = true) : ∃ i, v = .int i := by
  cases v <;> first | exact ⟨_, rfl⟩ | cases h

section
variable {P : Program} {w : World} {K : PySem.W.Frag} {mg : Str → Option Value} {base : Heap}
theorem isi_int {H : Hp} {v : V} {n : String} (h : Thing H v n) : ∃ b, PySem.W.kitOne K (.type n) (.type "int") = some b ∧ ((∃ i, v = .int i ∧ b = true) ∨ (∃ c, v = .bl c ∧ b = true) ∨ (intV v = false ∧ b = false)) := by
  cases h with
  | non => exact ⟨false, kit_ty (by decide +kernel), .inr (.inr ⟨rfl, rfl⟩)⟩
  | bl b => exact ⟨true, kit_ty (by decide +kernel), .inr (.inl ⟨b, rfl, rfl⟩)⟩
  | int i => exact ⟨true, kit_ty (by decide +kernel), .inl ⟨i, rfl, rfl⟩⟩
  | str z h => exact ⟨false, kit_ty (by decide +kernel), .inr (.inr ⟨rfl, rfl⟩)⟩
  | lst h => exact ⟨false, kit_ty (by decide +kernel), .inr (.inr ⟨rfl, rfl⟩)⟩
  | tup h => exact ⟨false, kit_ty (by decide +kernel), .inr (.inr ⟨rfl, rfl⟩)⟩
  | dct h => exact ⟨false, kit_ty (by decide +kernel), .inr (.inr ⟨rfl, rfl⟩)⟩
def sp_V (f : V → Bool) : Sp := fun vs H Q _ => ∃ v n, vs = [v] ∧ Thing H v n ∧ ∀ H', Keep [] H H' → Q (.bl (f v)) H'
theorem p_is_number (T : Txt K mg) : Pr P w K mg base "is_number" s_is_number ["thing"] 1 (sp_V intV) := by
  obtain ⟨f, fd, D⟩ := T.d_is_number
  refine ⟨f, fd, D, D.F.ok sc_is_number (fun vs H Q E h => ?_) (fun cdv A outer s H vs Q E hr h => ?_)⟩
  · obtain ⟨v, n, rfl, _⟩ := h; rfl
  · obtain ⟨v, n, rfl, Tv, q⟩ := h
    refine ⟨_, (pss_one (ps_ret (pe_and (pe_callB call_isi (by rfl) T.z_isinstance (by decide +kernel) (pa_cons (pv 0) (pa_cons (pe_bltn (by rfl) T.z_int (by decide +kernel) (v := .ty "int") rfl) pa_nil))) (pe_one (pe_not (pe_callB call_isi (by rfl) T.z_isinstance (by decide +kernel) (pa_cons (pv 0) (pa_cons (pe_bltn (by rfl) T.z_bool (by decide +kernel) (v := .ty "bool") rfl) pa_nil)))))))), ?_⟩
    obtain ⟨b, eb, hb⟩ := isi_int (K := K) Tv
    refine ⟨_, rfl, v, _, _, _, b, rfl, .ty _, Tv.ty, eb, b, rfl, ?_⟩
    rcases hb with ⟨i, rfl, rfl⟩ | ⟨c, rfl, rfl⟩ | ⟨e, rfl⟩
    · refine iteT ⟨_, rfl, _, _, _, _, false, rfl, .ty _, .base (.int i), kit_ty (by decide +kernel), _, rfl, ?_⟩
      exact q _ Keep.refl
    · refine iteT ⟨_, rfl, _, _, _, _, true, rfl, .ty _, .base (.bl c), kit_ty (by decide +kernel), _, rfl, ?_⟩
      exact q _ Keep.refl
    · refine iteF ?_
      rw [e] at q; exact q _ Keep.refl
theorem p_is_count (T : Txt K mg) : Pr P w K mg base "is_count" s_is_count ["thing"] 2 (sp_V (geV 1)) := by
  obtain ⟨f, fd, D⟩ := T.d_is_count
  obtain ⟨f_is_number, fd_is_number, D_is_number, G_is_number⟩ := p_is_number (P := P) (w := w) (base := base) T
  refine ⟨f, fd, D, D.F.ok sc_is_count (fun vs H Q E h => ?_) (fun cdv A outer s H vs Q E hr h => ?_)⟩
  · obtain ⟨v, n, rfl, _⟩ := h; rfl
  · obtain ⟨v, n, rfl, Tv, q⟩ := h
    refine ⟨_, (pss_one (ps_ret (pe_and (pe_call G_is_number (hr.mono (by decide)) rfl D_is_number.m D_is_number.F.kp D_is_number.b .nil pass0 (pa_cons (pv 0) pa_nil)) (pe_one (pe_cmpR op_ge (pv 0) pe_int (nomark _)))))), ?_⟩
    refine ⟨_, rfl, v, n, rfl, Tv, fun H1 K1 => ⟨_, rfl, ite2 (fun e => ?_) (fun e => ?_)⟩⟩
    · obtain ⟨i, rfl⟩ := intV_eq e
      exact ⟨_, rfl, _, _, rfl, rfl, q _ K1⟩
    · have : geV 1 v = false := by cases v <;> first | rfl | exact absurd rfl e
      rw [this] at q; exact q _ K1
theorem p_is_amount (T : Txt K mg) : Pr P w K mg base "is_amount" s_is_amount ["thing"] 3 (sp_V (rngV 1 1000000000)) := by
  obtain ⟨f, fd, D⟩ := T.d_is_amount
  obtain ⟨f_is_count, fd_is_count, D_is_count, G_is_count⟩ := p_is_count (P := P) (w := w) (base := base) T; obtain ⟨t_MOST, g_MOST⟩ := T.g_MOST
  refine ⟨f, fd, D, D.F.ok sc_is_amount (fun vs H Q E h => ?_) (fun cdv A outer s H vs Q E hr h => ?_)⟩
  · obtain ⟨v, n, rfl, _⟩ := h; rfl
  · obtain ⟨v, n, rfl, Tv, q⟩ := h
    refine ⟨_, (pss_one (ps_ret (pe_and (pe_call G_is_count (hr.mono (by decide)) rfl D_is_count.m D_is_count.F.kp D_is_count.b .nil pass0 (pa_cons (pv 0) pa_nil)) (pe_one (pe_cmpR op_le (pv 0) (pe_glob (v := .int 1000000000) rfl g_MOST ⟨_, rfl⟩) (nomark _)))))), ?_⟩
    refine ⟨_, rfl, v, n, rfl, Tv, fun H1 K1 => ⟨_, rfl, ite2 (fun e => ?_) (fun e => ?_)⟩⟩
    · obtain ⟨i, rfl⟩ : ∃ i, v = .int i := by cases v <;> first | exact ⟨_, rfl⟩ | cases e
      have e' : decide ((1 : Int) ≤ i) = true := e
      refine ⟨_, rfl, _, _, rfl, rfl, ?_⟩
      have : rngV 1 1000000000 (.int i) = decide (i ≤ 1000000000) := by show (decide ((1 : Int) ≤ i) && _) = _; rw [e']; rfl
      rw [this] at q; exact q _ K1
    · have : rngV 1 1000000000 v = false := by
        cases v <;> first | rfl | (show (decide _ && _) = false; rw [Bool.and_eq_false_iff]; exact .inl (Bool.eq_false_iff.mpr e))
      rw [this] at q; exact q _ K1
theorem p_is_whole (T : Txt K mg) : Pr P w K mg base "is_whole" s_is_whole ["thing"] 2 (sp_V (geV 0)) := by
  obtain ⟨f, fd, D⟩ := T.d_is_whole
  obtain ⟨f_is_number, fd_is_number, D_is_number, G_is_number⟩ := p_is_number (P := P) (w := w) (base := base) T
  refine ⟨f, fd, D, D.F.ok sc_is_whole (fun vs H Q E h => ?_) (fun cdv A outer s H vs Q E hr h => ?_)⟩
  · obtain ⟨v, n, rfl, _⟩ := h; rfl
  · obtain ⟨v, n, rfl, Tv, q⟩ := h
    refine ⟨_, (pss_one (ps_ret (pe_and (pe_call G_is_number (hr.mono (by decide)) rfl D_is_number.m D_is_number.F.kp D_is_number.b .nil pass0 (pa_cons (pv 0) pa_nil)) (pe_one (pe_cmpR op_ge (pv 0) pe_int (nomark _)))))), ?_⟩
    refine ⟨_, rfl, v, n, rfl, Tv, fun H1 K1 => ⟨_, rfl, ite2 (fun e => ?_) (fun e => ?_)⟩⟩
    · obtain ⟨i, rfl⟩ := intV_eq e
      exact ⟨_, rfl, _, _, rfl, rfl, q _ K1⟩
    · have : geV 0 v = false := by cases v <;> first | rfl | exact absurd rfl e
      rw [this] at q; exact q _ K1
theorem p_is_time (T : Txt K mg) : Pr P w K mg base "is_time" s_is_time ["thing"] 3 (sp_V (geV 0)) := by
  obtain ⟨f, fd, D⟩ := T.d_is_time
  obtain ⟨f_is_whole, fd_is_whole, D_is_whole, G_is_whole⟩ := p_is_whole (P := P) (w := w) (base := base) T
  refine ⟨f, fd, D, D.F.ok sc_is_time (fun vs H Q E h => ?_) (fun cdv A outer s H vs Q E hr h => ?_)⟩
  · obtain ⟨v, n, rfl, _⟩ := h; rfl
  · obtain ⟨v, n, rfl, Tv, q⟩ := h
    exact ⟨_, (pss_one (ps_ret (pe_call G_is_whole (hr.mono (by decide)) rfl D_is_whole.m D_is_whole.F.kp D_is_whole.b .nil pass0 (pa_cons (pv 0) pa_nil)))), _, rfl, v, n, rfl, Tv, q⟩
end
end My
set_option Elab.async false
set_option maxRecDepth 100000
set_option maxHeartbeats 4000000
namespace My
open PySem L2 TL
section
variable {P : Program} {w : World} {K : PySem.W.Frag} {mg : Str → Option Value} {base : Heap}
theorem isi_str {H : Hp} {v : V} {n : String} (h : Thing H v n) : ∃ b, PySem.W.kitOne K (.type n) (.type "str") = some b ∧ ((∃ z, v = .str z ∧ z.length ≤ sizeLine ∧ b = true) ∨ (nameV v = false ∧ b = false)) := by
  cases h with
  | str z h => exact ⟨true, kit_ty (by decide +kernel), .inl ⟨z, rfl, h, rfl⟩⟩
  | non => exact ⟨false, kit_ty (by decide +kernel), .inr ⟨rfl, rfl⟩⟩
  | bl b => exact ⟨false, kit_ty (by decide +kernel), .inr ⟨rfl, rfl⟩⟩
  | int i => exact ⟨false, kit_ty (by decide +kernel), .inr ⟨rfl, rfl⟩⟩
  | lst h => exact ⟨false, kit_ty (by decide +kernel), .inr ⟨rfl, rfl⟩⟩
  | tup h => exact ⟨false, kit_ty (by decide +kernel), .inr ⟨rfl, rfl⟩⟩
  | dct h => exact ⟨false, kit_ty (by decide +kernel), .inr ⟨rfl, rfl⟩⟩
theorem ABC_mem (c : Nat) : decide (c ∈ tl ABC) = (decide (97 ≤ c) && decide (c ≤ 122)) := by
  have e : tl ABC = (List.range 26).map (97 + ·) := by decide +kernel
  rw [e]
  by_cases h : 97 ≤ c ∧ c ≤ 122
  · rw [decide_eq_true h.1, decide_eq_true h.2]
    refine decide_eq_true (List.mem_map.mpr ⟨c - 97, List.mem_range.mpr (by omega), by omega⟩)
  · have : (decide (97 ≤ c) && decide (c ≤ 122)) = false := by
      rw [Bool.and_eq_false_iff, decide_eq_false_iff_not, decide_eq_false_iff_not]; omega
    rw [this]
    refine decide_eq_false fun q => h ?_
    obtain ⟨k, hk, rfl⟩ := List.mem_map.mp q
    have := List.mem_range.mp hk
    omega
def okc (c : Nat) : Bool := decide (97 ≤ c) && decide (c ≤ 122)
def sp_letters : Sp := fun vs H Q _ => ∃ v n, vs = [v, .int 8] ∧ Thing H v n ∧ ∀ H', Keep [] H H' → Q (.bl (nameV v)) H'
theorem p_is_letters (T : Txt K mg) : Pr P w K mg base "is_letters" s_is_letters ["thing", "longest"] 1 sp_letters := by
  obtain ⟨f, fd, D⟩ := T.d_is_letters
  obtain ⟨t_LETTERS, g_LETTERS⟩ := T.g_LETTERS
  refine ⟨f, fd, D, D.F.ok sc_is_letters (fun vs H Q E h => ?_) (fun cdv A outer s H vs Q E hr h => ?_)⟩
  · obtain ⟨v, n, rfl, _⟩ := h; rfl
  · obtain ⟨v, n, rfl, Tv, q⟩ := h
    refine ⟨_, (pss_cons (ps_if (PW.pt (pw_or (pt_not (pt_val (pe_callB call_isi (by rfl) T.z_isinstance (by decide +kernel) (pa_cons (pv 0) (pa_cons (pe_bltn (by rfl) T.z_str (by decide +kernel) (v := .ty "str") rfl) pa_nil))))) (pw_or1 (pt_not (pt_chain op_le op_le pe_int (pe_callB call_len (by rfl) T.z_len (by decide +kernel) (pa_cons (pv 0) pa_nil)) (pv 1)))))) (pss_one (ps_ret pe_bl)) pss_nil)
      (pss_one (ps_ret (pe_callB (cr_all rfl) (by rfl) T.z_all (by decide +kernel) (pa_cons (pe_lc (own := [("sign", 2)]) (g := gName 2) (tt := tYes) rfl sc_is_letters.nd (pi_str (pv 0)) (blkOk_by (own := [("sign", 2)]) (N := N_is_letters) (sc := defScope s_is_letters) (by decide +kernel)) (fun _ _ _ _ _ => (pg_name (i := 2) sc_is_letters.nd rfl (Or.inl rfl))) (fun _ _ _ _ _ => pts_nil) (fun _ _ _ _ _ => (pe_cmpR op_in_sign (pv 2) (pe_glob (v := .str "abcdefghijklmnopqrstuvwxyz") rfl g_LETTERS ⟨_, rfl⟩) (by rfl)))) pa_nil))))), ?_⟩
    obtain ⟨b, eb, hb⟩ := isi_str (K := K) Tv
    refine ⟨_, rfl, v, _, _, _, b, rfl, .ty _, Tv.ty, eb, b, rfl, ?_⟩
    rcases hb with ⟨z, rfl, hz, rfl⟩ | ⟨e, rfl⟩
    · refine iteF ?_
      refine ⟨_, rfl, _, _, rfl, ⟨hz, rfl⟩, ?_⟩
      have ez := len_tl z
      refine ⟨_, _, rfl, rfl, _, rfl, ite2 (fun h1 => ⟨_, rfl, _, _, rfl, rfl, _, rfl, ?_⟩) (fun h1 => ⟨_, rfl, ?_⟩)⟩
      · have h1' : 1 ≤ (tl z).length := by have := of_decide_eq_true h1; omega
        by_cases h2 : (tl z).length ≤ 8
        · rw [decide_eq_true (show (z.length : Int) ≤ 8 by omega)]
          refine iteF ?_
          refine ⟨_, rfl, _, rfl, fun L hL => lc_it walk_str (fun i H4 => Keep [] H H4 ∧ H4 L = some (.lst (((tl z).take i).map fun c => V.bl (okc c)))) ⟨Keep.upd_new hL, upd_same⟩ (fun _ _ _ _ => trivial) ?_ ?_⟩
          · rintro j x H4 H5 hj ⟨K4, h4⟩ ⟨rfl, ch, hch, rfl⟩
            have e : (tl z)[j]? = some ch := by rw [← hch]; exact (Array.getElem?_toList).symm ▸ rfl
            refine ⟨rfl, tYes_go (yes ⟨_, rfl, ch, _, rfl, rfl, _, h4, ?_, K4.trans_new hL, ?_⟩)⟩
            · rw [List.length_map, List.length_take]; have : sizeLine = 16777216 := sizeLine_eq; omega
            · rw [upd_same, take_succ_of e, List.map_append]
              show _ = some (HO.lst (_ ++ [V.bl (okc ch)]))
              rw [show okc ch = decide (ch ∈ tl ABC) from (ABC_mem ch).symm]
          · rintro H4 ⟨K4, h4⟩
            rw [show z.cps.size = (tl z).length from ez, List.take_length] at h4
            have h5 : H4 L = some (.lst (((tl z).map okc).map V.bl)) := by rw [h4, List.map_map]; rfl
            refine ⟨L, _, rfl, SqL.of h5, ?_⟩
            have e : nameV (.str z) = ((tl z).map okc).all id := by
              show nameB z = _
              unfold nameB
              rw [decide_eq_true h1', decide_eq_true h2, List.all_map]; rfl
            rw [e] at q
            exact q _ K4
        · rw [decide_eq_false (show ¬ (z.length : Int) ≤ 8 by omega)]
          refine iteT ?_
          have e : nameV (.str z) = false := by
            show nameB z = _
            unfold nameB
            rw [decide_eq_false h2, Bool.and_false, Bool.false_and]
          rw [e] at q; exact q _ Keep.refl
      · refine iteT ?_
        have e : nameV (.str z) = false := by
          show nameB z = _
          unfold nameB
          rw [decide_eq_false (show ¬ 1 ≤ (tl z).length from fun h => h1 (decide_eq_true (by omega)))]
          rfl
        rw [e] at q; exact q _ Keep.refl
    · refine iteT (iteT ?_)
      rw [e] at q; exact q _ Keep.refl
theorem p_is_name (T : Txt K mg) : Pr P w K mg base "is_name" s_is_name ["thing"] 2 (sp_V nameV) := by
  obtain ⟨f, fd, D⟩ := T.d_is_name
  obtain ⟨f_is_letters, fd_is_letters, D_is_letters, G_is_letters⟩ := p_is_letters (P := P) (w := w) (base := base) T; obtain ⟨t_LONGEST, g_LONGEST⟩ := T.g_LONGEST
  refine ⟨f, fd, D, D.F.ok sc_is_name (fun vs H Q E h => ?_) (fun cdv A outer s H vs Q E hr h => ?_)⟩
  · obtain ⟨v, n, rfl, _⟩ := h; rfl
  · obtain ⟨v, n, rfl, Tv, q⟩ := h
    refine ⟨_, (pss_one (ps_ret (pe_call G_is_letters (hr.mono (by decide)) rfl D_is_letters.m D_is_letters.F.kp D_is_letters.b .nil pass0 (pa_cons (pv 0) (pa_cons (pe_glob (v := .int 8) rfl g_LONGEST ⟨_, rfl⟩) pa_nil))))), ?_⟩
    exact ⟨_, rfl, _, _, rfl, Tv, fun H' K' => q _ K'⟩
end
end My
set_option Elab.async false
set_option maxRecDepth 100000
set_option maxHeartbeats 4000000
namespace My
open PySem L2 TL
theorem ifnot {c : Bool} {A B : Prop} (h1 : c = false → A) (h2 : c = true → B) : if (!c) = true then A else B := by
  cases c with
  | true => exact iteF (h2 rfl)
  | false => exact iteT (h1 rfl)
theorem Thing.keep0 {H H' : Hp} {v : V} {n : String} (h : Thing H v n) (k : Keep [] H H') : Thing H' v n := by
  cases h with
  | non => exact .non
  | bl b => exact .bl b
  | int i => exact .int i
  | str z h => exact .str z h
  | lst h => exact .lst (k _ _ h (by simp))
  | tup h => exact .tup (k _ _ h (by simp))
  | dct h => exact .dct (k _ _ h (by simp))
def ltV : V → V → Bool
  | .int i, .int j => decide (i < j)
  | _, _ => false
def isOrdL : List V → Bool
  | [w, p, q, a, r, b, u] => decide (w = .str "order") && (nameV p && (nameV q && (!decide (p = q) && (rngV 1 1000000000 a && (rngV 0 9 r && (geV 0 b && (geV 0 u && ltV b u)))))))
  | _ => false
theorem isOrdL_len {xs : List V} (h : xs.length ≠ 7) : isOrdL xs = false := by
  unfold isOrdL
  split
  · exact absurd rfl h
  · rfl
theorem seven {α : Type} {xs : List α} (h : xs.length = 7) : ∃ w p q a r b u, xs = [w, p, q, a, r, b, u] := by
  match xs, h with
  | [w, p, q, a, r, b, u], _ => exact ⟨w, p, q, a, r, b, u, rfl⟩
theorem geV_eq {lo : Int} {v : V} (h : geV lo v = true) : ∃ i, v = .int i := by
  cases v <;> first | exact ⟨_, rfl⟩ | cases h
theorem nameV_eq {v : V} (h : nameV v = true) : ∃ z, v = .str z := by
  cases v <;> first | exact ⟨_, rfl⟩ | cases h
section
variable {P : Program} {w : World} {K : PySem.W.Frag} {mg : Str → Option Value} {base : Heap}
theorem isi_tup {H : Hp} {v : V} {n : String} (h : Thing H v n) (hn : n ≠ "tuple") : PySem.W.kitOne K (.type n) (.type "tuple") = some false := by
  cases h <;> first | exact kit_ty (by decide +kernel) | exact absurd rfl hn
def sp_order : Sp := fun vs H Q _ => ∃ v, vs = [v] ∧ ((∃ n, Thing H v n ∧ n ≠ "tuple" ∧ ∀ H', Keep [] H H' → Q (.bl false) H') ∨
  (∃ a xs, v = .ref a ∧ H a = some (.tup xs) ∧ (∀ x ∈ xs, ∃ n, Thing H x n) ∧ ∀ H', Keep [] H H' → Q (.bl (isOrdL xs)) H'))
theorem p_is_order (T : Txt K mg) : Pr P w K mg base "is_order" s_is_order ["thing"] 4 sp_order := by
  obtain ⟨f, fd, D⟩ := T.d_is_order
  obtain ⟨f_is_time, fd_is_time, D_is_time, G_is_time⟩ := p_is_time (P := P) (w := w) (base := base) T; obtain ⟨f_is_amount, fd_is_amount, D_is_amount, G_is_amount⟩ := p_is_amount (P := P) (w := w) (base := base) T; obtain ⟨f_is_number, fd_is_number, D_is_number, G_is_number⟩ := p_is_number (P := P) (w := w) (base := base) T; obtain ⟨f_is_name, fd_is_name, D_is_name, G_is_name⟩ := p_is_name (P := P) (w := w) (base := base) T; obtain ⟨t_TOP_RANK, g_TOP_RANK⟩ := T.g_TOP_RANK
  refine ⟨f, fd, D, D.F.ok sc_is_order (fun vs H Q E h => ?_) (fun cdv A outer s H vs Q E hr h => ?_)⟩
  · obtain ⟨v, rfl, _⟩ := h; rfl
  · obtain ⟨v, rfl, ⟨n, Tv, nt, q⟩ | ⟨a, xs, rfl, ha, hx, q⟩⟩ := h
    · refine ⟨_, (pss_cons (ps_if (PW.pt (pw_or (pt_not (pt_val (pe_callB call_isi (by rfl) T.z_isinstance (by decide +kernel) (pa_cons (pv 0) (pa_cons (pe_bltn (by rfl) T.z_tuple (by decide +kernel) (v := .ty "tuple") rfl) pa_nil))))) (pw_or1 (pt_cmpR op_ne (pe_callB call_len_seq (by rfl) T.z_len (by decide +kernel) (pa_cons (pv 0) pa_nil)) pe_int (nomark _))))) (pss_one (ps_ret pe_bl)) pss_nil)
      (pss_cons (ps_asg (pv 0) (pg_tup rfl (pgs_cons (pg_name (i := 1) sc_is_order.nd rfl (Or.inl rfl)) (pgs_cons (pg_name (i := 2) sc_is_order.nd rfl (Or.inl rfl)) (pgs_cons (pg_name (i := 3) sc_is_order.nd rfl (Or.inl rfl)) (pgs_cons (pg_name (i := 4) sc_is_order.nd rfl (Or.inl rfl)) (pgs_cons (pg_name (i := 5) sc_is_order.nd rfl (Or.inl rfl)) (pgs_cons (pg_name (i := 6) sc_is_order.nd rfl (Or.inl rfl)) (pgs_cons (pg_name (i := 7) sc_is_order.nd rfl (Or.inl rfl)) pgs_nil)))))))))
      (pss_cons (ps_if (PW.pt (pw_or (pt_cmpR (op_neStr hr.units) (pv 1) pe_str (nomark _)) (pw_or (pt_not (pt_val (pe_call G_is_name (hr.mono (by decide)) rfl D_is_name.m D_is_name.F.kp D_is_name.b .nil pass0 (pa_cons (pv 2) pa_nil)))) (pw_or (pt_not (pt_val (pe_call G_is_name (hr.mono (by decide)) rfl D_is_name.m D_is_name.F.kp D_is_name.b .nil pass0 (pa_cons (pv 3) pa_nil)))) (pw_or1 (pt_cmpR op_eq (pv 2) (pv 3) (nomark _))))))) (pss_one (ps_ret pe_bl)) pss_nil)
      (pss_cons (ps_if (PW.pt (pw_or (pt_not (pt_val (pe_call G_is_amount (hr.mono (by decide)) rfl D_is_amount.m D_is_amount.F.kp D_is_amount.b .nil pass0 (pa_cons (pv 4) pa_nil)))) (pw_or (pt_not (pt_val (pe_call G_is_number (hr.mono (by decide)) rfl D_is_number.m D_is_number.F.kp D_is_number.b .nil pass0 (pa_cons (pv 5) pa_nil)))) (pw_or1 (pt_not (pt_chain op_le op_le pe_int (pv 5) (pe_glob (v := .int 9) rfl g_TOP_RANK ⟨_, rfl⟩))))))) (pss_one (ps_ret pe_bl)) pss_nil)
      (pss_one (ps_ret (pe_and (pe_call G_is_time (hr.mono (by decide)) rfl D_is_time.m D_is_time.F.kp D_is_time.b .nil pass0 (pa_cons (pv 6) pa_nil)) (pe_and (pe_call G_is_time (hr.mono (by decide)) rfl D_is_time.m D_is_time.F.kp D_is_time.b .nil pass0 (pa_cons (pv 7) pa_nil)) (pe_one (pe_cmpR op_lt (pv 6) (pv 7) (nomark _))))))))))), ?_⟩
      refine ⟨_, rfl, v, _, _, _, false, rfl, .ty _, Tv.ty, isi_tup Tv nt, _, rfl, iteT (iteT ?_)⟩
      exact q _ Keep.refl
    · refine ⟨_, (pss_cons (ps_if (PW.pt (pw_or (pt_not (pt_val (pe_callB call_isi (by rfl) T.z_isinstance (by decide +kernel) (pa_cons (pv 0) (pa_cons (pe_bltn (by rfl) T.z_tuple (by decide +kernel) (v := .ty "tuple") rfl) pa_nil))))) (pw_or1 (pt_cmpR op_ne (pe_callB call_len_seq (by rfl) T.z_len (by decide +kernel) (pa_cons (pv 0) pa_nil)) pe_int (nomark _))))) (pss_one (ps_ret pe_bl)) pss_nil)
      (pss_cons (ps_asg (pv 0) (pg_tup rfl (pgs_cons (pg_name (i := 1) sc_is_order.nd rfl (Or.inl rfl)) (pgs_cons (pg_name (i := 2) sc_is_order.nd rfl (Or.inl rfl)) (pgs_cons (pg_name (i := 3) sc_is_order.nd rfl (Or.inl rfl)) (pgs_cons (pg_name (i := 4) sc_is_order.nd rfl (Or.inl rfl)) (pgs_cons (pg_name (i := 5) sc_is_order.nd rfl (Or.inl rfl)) (pgs_cons (pg_name (i := 6) sc_is_order.nd rfl (Or.inl rfl)) (pgs_cons (pg_name (i := 7) sc_is_order.nd rfl (Or.inl rfl)) pgs_nil)))))))))
      (pss_cons (ps_if (PW.pt (pw_or (pt_cmpR (op_neStr hr.units) (pv 1) pe_str (nomark _)) (pw_or (pt_not (pt_val (pe_call G_is_name (hr.mono (by decide)) rfl D_is_name.m D_is_name.F.kp D_is_name.b .nil pass0 (pa_cons (pv 2) pa_nil)))) (pw_or (pt_not (pt_val (pe_call G_is_name (hr.mono (by decide)) rfl D_is_name.m D_is_name.F.kp D_is_name.b .nil pass0 (pa_cons (pv 3) pa_nil)))) (pw_or1 (pt_cmpR op_eq (pv 2) (pv 3) (nomark _))))))) (pss_one (ps_ret pe_bl)) pss_nil)
      (pss_cons (ps_if (PW.pt (pw_or (pt_not (pt_val (pe_call G_is_amount (hr.mono (by decide)) rfl D_is_amount.m D_is_amount.F.kp D_is_amount.b .nil pass0 (pa_cons (pv 4) pa_nil)))) (pw_or (pt_not (pt_val (pe_call G_is_number (hr.mono (by decide)) rfl D_is_number.m D_is_number.F.kp D_is_number.b .nil pass0 (pa_cons (pv 5) pa_nil)))) (pw_or1 (pt_not (pt_chain op_le op_le pe_int (pv 5) (pe_glob (v := .int 9) rfl g_TOP_RANK ⟨_, rfl⟩))))))) (pss_one (ps_ret pe_bl)) pss_nil)
      (pss_one (ps_ret (pe_and (pe_call G_is_time (hr.mono (by decide)) rfl D_is_time.m D_is_time.F.kp D_is_time.b .nil pass0 (pa_cons (pv 6) pa_nil)) (pe_and (pe_call G_is_time (hr.mono (by decide)) rfl D_is_time.m D_is_time.F.kp D_is_time.b .nil pass0 (pa_cons (pv 7) pa_nil)) (pe_one (pe_cmpR op_lt (pv 6) (pv 7) (nomark _))))))))))), ?_⟩
      have Tv : Thing H (.ref a) "tuple" := .tup ha
      refine ⟨_, rfl, _, _, _, _, true, rfl, .ty _, Tv.ty, kit_ty (by decide +kernel), _, rfl, iteF ?_⟩
      refine ⟨_, rfl, a, xs, rfl, .inr (SqT.of ha), rfl, _, rfl, ite2 (fun e => ?_) (fun e => ?_)⟩
      · have : xs.length ≠ 7 := fun h => by rw [h] at e; exact absurd e (by decide)
        rw [isOrdL_len this] at q
        exact q _ Keep.refl
      · have h7 : xs.length = 7 := by
          by_cases h : xs.length = 7
          · exact h
          · refine absurd ?_ e
            have : ¬ (V.int (xs.length : Int) = V.int 7) := fun z => h (by injection z with z; omega)
            rw [decide_eq_false this]; rfl
        obtain ⟨xw, xp, xq, xa, xr, xb, xu, rfl⟩ := seven h7
        obtain ⟨nw, Tw⟩ := hx xw (by simp)
        obtain ⟨np, Tp⟩ := hx xp (by simp)
        obtain ⟨nq, Tq⟩ := hx xq (by simp)
        obtain ⟨na, Ta⟩ := hx xa (by simp)
        obtain ⟨nr, Tr⟩ := hx xr (by simp)
        obtain ⟨nb, Tb⟩ := hx xb (by simp)
        obtain ⟨nu, Tu⟩ := hx xu (by simp)
        have e0 : isOrdL [xw, xp, xq, xa, xr, xb, xu] = (decide (xw = .str "order") && (nameV xp && (nameV xq && (!decide (xp = xq) && (rngV 1 1000000000 xa && (rngV 0 9 xr && (geV 0 xb && (geV 0 xu && ltV xb xu)))))))) := rfl
        rw [e0] at q
        refine ⟨_, rfl, a, _, rfl, SqT.of ha, rfl, _, _, rfl, _, _, rfl, _, _, rfl, _, _, rfl, _, _, rfl, _, _, rfl, _, _, rfl, rfl, ?_⟩
        refine ⟨_, rfl, nw, _, Tw, rfl, _, rfl, ite2 (fun e => iteT ?_) (fun e1 => ?_)⟩
        · have : decide (xw = V.str (Str.ofString "order")) = false := by simpa using e
          rw [this] at q
          exact q _ Keep.refl
        have e1 : decide (xw = V.str (Str.ofString "order")) = true := by simpa using e1
        rw [e1, Bool.true_and] at q
        refine ⟨_, rfl, xp, np, rfl, Tp, fun H1 K1 => ⟨_, rfl, ifnot (fun e2 => iteT ?_) (fun e2 => ?_)⟩⟩
        · rw [e2] at q; exact q _ K1
        rw [e2, Bool.true_and] at q
        refine ⟨_, rfl, xq, nq, rfl, Tq.keep0 K1, fun H2 K2 => ⟨_, rfl, ifnot (fun e3 => iteT ?_) (fun e3 => ?_)⟩⟩
        · rw [e3] at q; exact q _ (K1.trans K2)
        rw [e3, Bool.true_and] at q
        obtain ⟨zp, rfl⟩ := nameV_eq e2
        obtain ⟨zq, rfl⟩ := nameV_eq e3
        refine ⟨_, rfl, _, rfl, rfl, _, rfl, ite2 (fun e4 => ?_) (fun e4 => ?_)⟩
        · rw [e4] at q; exact q _ (K1.trans K2)
        have e4' : decide (V.str zp = V.str zq) = false := Bool.eq_false_iff.mpr e4
        rw [e4'] at q
        refine ⟨_, rfl, xa, na, rfl, (Ta.keep0 K1).keep0 K2, fun H3 K3 => ⟨_, rfl, ifnot (fun e5 => iteT ?_) (fun e5 => ?_)⟩⟩
        · rw [e5] at q; exact q _ ((K1.trans K2).trans K3)
        rw [e5] at q
        refine ⟨_, rfl, xr, nr, rfl, ((Tr.keep0 K1).keep0 K2).keep0 K3, fun H4 K4 => ⟨_, rfl, ifnot (fun e6 => iteT ?_) (fun e6 => ?_)⟩⟩
        have K14 : Keep [] H H4 := ((K1.trans K2).trans K3).trans K4
        · have : rngV 0 9 xr = false := by cases xr <;> first | rfl | cases e6
          rw [this] at q; exact q _ K14
        have K14 : Keep [] H H4 := ((K1.trans K2).trans K3).trans K4
        obtain ⟨ir, rfl⟩ := intV_eq e6
        refine ⟨_, rfl, _, _, rfl, rfl, _, rfl, ite2 (fun e7 => ⟨_, _, rfl, rfl, _, rfl, ifnot (fun e8 => ?_) (fun e8 => ?_)⟩) (fun e7 => ⟨_, rfl, iteT ?_⟩)⟩
        · have : rngV 0 9 (.int ir) = false := by show (_ && decide (ir ≤ 9)) = false; rw [e8, Bool.and_false]
          rw [this] at q; exact q _ K14
        rotate_left
        · have : rngV 0 9 (.int ir) = false := by show (decide (0 ≤ ir) && _) = false; rw [Bool.eq_false_iff.mpr e7, Bool.false_and]
          rw [this] at q; exact q _ K14
        have : rngV 0 9 (.int ir) = true := by show (decide (0 ≤ ir) && decide (ir ≤ 9)) = true; rw [e7, e8]; rfl
        rw [this] at q
        refine ⟨_, rfl, xb, nb, rfl, Tb.keep0 K14, fun H5 K5 => ⟨_, rfl, ite2 (fun e9 => ?_) (fun e9 => ?_)⟩⟩
        · rw [e9] at q
          refine ⟨_, rfl, xu, nu, rfl, (Tu.keep0 K14).keep0 K5, fun H6 K6 => ⟨_, rfl, ite2 (fun e10 => ?_) (fun e10 => ?_)⟩⟩
          · rw [e10] at q
            obtain ⟨ib, rfl⟩ := geV_eq e9
            obtain ⟨iu, rfl⟩ := geV_eq e10
            exact ⟨_, rfl, _, rfl, _, _, rfl, rfl, q _ ((K14.trans K5).trans K6)⟩
          · rw [Bool.eq_false_iff.mpr e10] at q
            exact q _ ((K14.trans K5).trans K6)
        · rw [Bool.eq_false_iff.mpr e9] at q
          exact q _ (K14.trans K5)
end
end My
set_option Elab.async false
set_option maxRecDepth 100000
set_option maxHeartbeats 4000000
namespace My
open PySem L2 TL
section
variable {P : Program} {w : World} {K : PySem.W.Frag} {mg : Str → Option Value} {base : Heap}
def sp_amount : Sp := fun vs H Q _ => ∃ d c, vs = [.ref d] ∧ DrawAt H d c ∧ ∀ r H', 1 ≤ r → r ≤ 1000000000 → DrawAt H' d c → Keep [d] H H' → Q (.int r) H'
theorem p__law_amount (T : Txt K mg) : Pr P w K mg base "_law_amount" s__law_amount ["state"] 3 sp_amount := by
  obtain ⟨f, fd, D⟩ := T.d__law_amount
  obtain ⟨f__law_next, fd__law_next, D__law_next, G__law_next⟩ := p__law_next (P := P) (w := w) (base := base) T
  refine ⟨f, fd, D, D.F.ok sc__law_amount (fun vs H Q E h => ?_) (fun cdv A outer s H vs Q E hr h => ?_)⟩
  · obtain ⟨d, c, rfl, _⟩ := h; rfl
  · obtain ⟨d, c, rfl, D0, q⟩ := h
    refine ⟨_, (pss_cons (ps_set (i := 1) sc__law_amount.nd rfl (Or.inl rfl) (pe_call G__law_next (hr.mono (by decide)) rfl D__law_next.m D__law_next.F.kp D__law_next.b .nil pass0 (pa_cons (pv 0) (pa_cons pe_int pa_nil))))
      (pss_one (ps_ret (pe_ifExp (pt_cmpR op_eq (pv 1) pe_int (nomark _)) (pe_op op_pow pe_int pe_int) (pe_op op_add pe_int (pe_call G__law_next (hr.mono (by decide)) rfl D__law_next.m D__law_next.F.kp D__law_next.b .nil pass0 (pa_cons (pv 0) (pa_cons (pe_ix ix_list (pe_lst (pa_cons pe_int (pa_cons pe_int (pa_cons (pe_op op_pow pe_int pe_int) pa_nil)))) (pv 1) (fun _ _ => rfl)) pa_nil)))))))), ?_⟩
    refine ⟨_, rfl, d, c, _, rfl, D0, by decide, by decide, fun r H1 r0 r1 D1 K1 => ?_⟩
    refine ⟨_, rfl, rfl, _, rfl, ite2 (fun e => ?_) (fun e => ?_)⟩
    · exact ⟨_, _, rfl, rfl, ⟨by decide, by decide, by decide⟩, q _ H1 (by decide) (by decide) D1 K1⟩
    · have r3 : r < 3 := by
        have : ¬ (V.int r = V.int 3) := fun z => e (decide_eq_true z)
        have : r ≠ 3 := fun z => this (by rw [z])
        omega
      refine ⟨_, rfl, _, _, rfl, rfl, ⟨by decide, by decide, by decide⟩, by show 3 ≤ sizeLine; decide, fun l hl => ?_⟩
      obtain ⟨v, e1, e2⟩ := atI_of (xs := [V.int 5, V.int 1000, V.int 1000000000]) (i := r) r0 (by simpa using r3)
      obtain ⟨n, rfl, n0, n1⟩ : ∃ n : Int, v = .int n ∧ 1 ≤ n ∧ n ≤ 1000000000 := by
        have hm := List.mem_of_getElem? e1
        simp only [List.mem_cons, List.not_mem_nil, or_false] at hm
        rcases hm with rfl | rfl | rfl <;> exact ⟨_, rfl, by decide, by decide⟩
      refine ⟨_, rfl, l, _, r, _, rfl, rfl, SqL.of upd_same, e2, d, c, _, rfl, D1.keep (Keep.upd_new hl), by omega, by omega, fun r2 H2 s0 s1 D2 K2 => ?_⟩
      exact ⟨_, _, rfl, rfl, q _ H2 (by omega) (by omega) D2 ((K1.trans (Keep.upd_new hl)).trans K2)⟩
end
end My
set_option Elab.async false
set_option maxRecDepth 100000
set_option maxHeartbeats 4000000
namespace My
open PySem L2 TL
section
variable {P : Program} {w : World} {K : PySem.W.Frag} {mg : Str → Option Value} {base : Heap}
def ordV (x y : Str) (m r s e : Int) : List V := [.str "order", .str x, .str y, .int m, .int r, .int s, .int e]
theorem other_left {zs : List Str} {x : Str} (nd : zs.Nodup) (h : 2 ≤ zs.length) : 0 < (zs.filter fun y => !decide (V.str y = V.str x)).length := by
  match zs, nd, h with
  | a :: b :: r, nd, _ =>
    have hab : a ≠ b := by
      have := (List.nodup_cons.mp nd).1
      intro e; exact this (by simp [e])
    have : ∃ y ∈ (a :: b :: r), y ≠ x := by
      by_cases e : a = x
      · exact ⟨b, by simp, fun q => hab (e.trans q.symm)⟩
      · exact ⟨a, by simp, e⟩
    obtain ⟨y, hy, hn⟩ := this
    refine List.length_pos_of_mem (List.mem_filter.mpr ⟨hy, ?_⟩)
    have : ¬ V.str y = V.str x := fun q => hn (by injection q)
    rw [decide_eq_false this]; rfl
def sp_one : Sp := fun vs H Q _ => ∃ d c a zs, vs = [.ref d, .ref a] ∧ DrawAt H d c ∧ H a = some (.lst (zs.map V.str)) ∧ CrewL zs ∧ 2 ≤ zs.length ∧ zs.length ≤ 1000 ∧
  ∀ p x y m r s e H', H p = none → H' p = some (.tup (ordV x y m r s e)) → x ∈ zs → y ∈ zs → x ≠ y → 1 ≤ m → m ≤ 1000000000 → 0 ≤ r → r ≤ 9 → 0 ≤ s → s < 1000000000000 → s < e → e ≤ s + 9 → DrawAt H' d c → Keep [d] H H' → Q (.ref p) H'
theorem Keep.none_of {ds : List Addr} {H H' : Hp} {p : Addr} (k : Keep ds H H') (h : H' p = none) (hp : p ∉ ds) : H p = none := by
  cases e : H p with
  | none => rfl
  | some o => rw [k p o e hp] at h; cases h
theorem p__law_one (T : Txt K mg) : Pr P w K mg base "_law_one" s__law_one ["state", "crew"] 4 sp_one := by
  obtain ⟨f, fd, D⟩ := T.d__law_one
  obtain ⟨f__law_next, fd__law_next, D__law_next, G__law_next⟩ := p__law_next (P := P) (w := w) (base := base) T; obtain ⟨f__law_amount, fd__law_amount, D__law_amount, G__law_amount⟩ := p__law_amount (P := P) (w := w) (base := base) T; obtain ⟨f__law_pick, fd__law_pick, D__law_pick, G__law_pick⟩ := p__law_pick (P := P) (w := w) (base := base) T
  refine ⟨f, fd, D, D.F.ok sc__law_one (fun vs H Q E h => ?_) (fun cdv A outer s H vs Q E hr h => ?_)⟩
  · obtain ⟨d, c, a, zs, rfl, _⟩ := h; rfl
  · obtain ⟨d, c, a, zs, rfl, D0, ha, C0, z0, z1, q⟩ := h
    refine ⟨_, (pss_cons (ps_set (i := 2) sc__law_one.nd rfl (Or.inr rfl) (pe_call G__law_pick (hr.mono (by decide)) rfl D__law_pick.m D__law_pick.F.kp D__law_pick.b .nil pass0 (pa_cons (pv 0) (pa_cons (pv 1) pa_nil))))
      (pss_cons (ps_set (i := 3) sc__law_one.nd rfl (Or.inl rfl) (pe_call G__law_pick (hr.mono (by decide)) rfl D__law_pick.m D__law_pick.F.kp D__law_pick.b .nil pass0 (pa_cons (pv 0) (pa_cons (pe_lc (own := [("name", 5)]) (g := gName 5) rfl sc__law_one.nd (pi_list (pv 1)) (blkOk_by (own := [("name", 5)]) (N := N__law_one) (sc := defScope s__law_one) (by decide +kernel)) (fun _ _ _ _ _ => (pg_name (i := 5) sc__law_one.nd rfl (Or.inl rfl))) (fun _ _ _ _ _ => pts_one (pt_cmpR op_ne (pv 5) (pv 2) (nomark _))) (fun _ _ _ _ _ => (pv 5))) pa_nil))))
      (pss_cons (ps_set (i := 4) sc__law_one.nd rfl (Or.inl rfl) (pe_ix ix_list (pe_lst (pa_cons pe_int (pa_cons (pe_call G__law_next (hr.mono (by decide)) rfl D__law_next.m D__law_next.F.kp D__law_next.b .nil pass0 (pa_cons (pv 0) (pa_cons pe_int pa_nil))) (pa_cons (pe_call G__law_next (hr.mono (by decide)) rfl D__law_next.m D__law_next.F.kp D__law_next.b .nil pass0 (pa_cons (pv 0) (pa_cons (pe_op op_pow pe_int pe_int) pa_nil))) pa_nil)))) (pe_call G__law_next (hr.mono (by decide)) rfl D__law_next.m D__law_next.F.kp D__law_next.b .nil pass0 (pa_cons (pv 0) (pa_cons pe_int pa_nil))) (fun _ _ => rfl)))
      (pss_one (ps_ret (pe_tup (pa_cons pe_str (pa_cons (pv 2) (pa_cons (pv 3) (pa_cons (pe_call G__law_amount (hr.mono (by decide)) rfl D__law_amount.m D__law_amount.F.kp D__law_amount.b .nil pass0 (pa_cons (pv 0) pa_nil)) (pa_cons (pe_call G__law_next (hr.mono (by decide)) rfl D__law_next.m D__law_next.F.kp D__law_next.b .nil pass0 (pa_cons (pv 0) (pa_cons pe_int pa_nil))) (pa_cons (pv 4) (pa_cons (pe_op op_add (pe_op op_add (pv 4) pe_int) (pe_call G__law_next (hr.mono (by decide)) rfl D__law_next.m D__law_next.F.kp D__law_next.b .nil pass0 (pa_cons (pv 0) (pa_cons pe_int pa_nil)))) pa_nil))))))))))))), ?_⟩
    have nad : a ∉ [d] := by
      obtain ⟨ns, k, l, m, h1, _⟩ := D0
      simp only [List.mem_singleton]; exact ne_of ha h1 (by intro z; cases z)
    have hs : sizeLine = 16777216 := sizeLine_eq
    refine ⟨_, rfl, _, rfl, d, c, _, _, rfl, D0, .inl ⟨a, rfl, .inl ha⟩, by rw [List.length_map]; omega, by rw [List.length_map]; omega, fun v H1 hv D1 K1 => ?_⟩
    obtain ⟨x, hx, rfl⟩ := List.mem_map.mp hv
    have ha1 := K1 _ _ ha nad
    refine ⟨_, rfl, _, rfl, a, rfl, ⟨_, SqL.of ha1⟩, fun L hL => ?_⟩
    refine lc_list (K := K) (a := a) (xs := zs.map V.str) (fun i H2 => Keep [] H1 H2 ∧ H2 L = some (.lst (((zs.take i).filter fun y => !decide (V.str y = V.str x)).map V.str))) ⟨Keep.upd_new hL, upd_same⟩ (fun i H2 _ ⟨k, _⟩ => SqL.of (k _ _ ha1 (by simp))) ?_ ?_
    · rintro j v H2 hj ⟨K2, h2⟩
      rw [List.getElem?_map] at hj
      cases ej : zs[j]? with
      | none => rw [ej] at hj; cases hj
      | some y =>
        rw [ej] at hj; cases hj
        refine ⟨rfl, _, rfl, _, rfl, rfl, _, rfl, ?_⟩
        rw [take_succ_of ej, List.filter_append]
        cases eo : (!decide (V.str y = V.str x)) with
        | false =>
          refine iteF ⟨K2, ?_⟩
          rw [List.filter_cons_of_neg (by rw [eo]; exact Bool.false_ne_true), List.filter_nil, List.append_nil]; exact h2
        | true =>
          refine iteT ⟨_, rfl, _, h2, ?_, K2.trans_new hL, ?_⟩
          · rw [List.length_map]
            refine Nat.lt_of_le_of_lt (List.length_filter_le _ _) ?_
            rw [List.length_take]; omega
          · rw [List.filter_cons_of_pos (by rw [eo]), List.filter_nil, List.map_append]; exact upd_same
    · rintro H2 ⟨K2, h2⟩
      rw [List.length_map, List.take_length] at h2
      have hl := other_left (x := x) C0.nd z0
      have hl2 := List.length_filter_le (fun y => !decide (V.str y = V.str x)) zs
      refine ⟨d, c, _, _, rfl, D1.keep K2, .inl ⟨L, rfl, .inl h2⟩, by rw [List.length_map]; omega, by rw [List.length_map]; omega, fun v H3 hv D3 K3 => ?_⟩
      obtain ⟨y, hy, rfl⟩ := List.mem_map.mp hv
      obtain ⟨hy1, hy2⟩ := List.mem_filter.mp hy
      have hyx : x ≠ y := fun e => by subst e; simp at hy2
      have KA : Keep [d] H H3 := (K1.trans (K2.mono (by simp))).trans K3
      refine ⟨_, rfl, d, c, _, rfl, D3, by decide, by decide, fun s1 H4 s10 s11 D4 K4 => ?_⟩
      refine ⟨_, rfl, _, _, rfl, rfl, ⟨by decide, by decide, by decide⟩, d, c, _, rfl, D4, by decide, by decide, fun s2 H5 s20 s21 D5 K5 => ?_⟩
      refine ⟨by show 3 ≤ sizeLine; decide, fun l hl5 => ?_⟩
      refine ⟨_, rfl, d, c, _, rfl, D5.keep (Keep.upd_new hl5), by decide, by decide, fun i H6 i0 i1 D6 K6 => ?_⟩
      have nl := (D5.new hl5).1
      have hl6 := K6 _ _ upd_same (show l ∉ [d] by simpa using nl.symm)
      have s21' : s2 < 1000000000000 := by have e : ((fun i j : Int => i ^ j.toNat) 10 12) = 1000000000000 := by decide +kernel
                                           exact e ▸ s21
      obtain ⟨v, e1, e2⟩ := atI_of (xs := [V.int 0, V.int s1, V.int s2]) (i := i) i0 (by simpa using i1)
      obtain ⟨n, rfl, n0, n1⟩ : ∃ n : Int, v = .int n ∧ 0 ≤ n ∧ n < 1000000000000 := by
        have hm := List.mem_of_getElem? e1
        simp only [List.mem_cons, List.not_mem_nil, or_false] at hm
        rcases hm with rfl | rfl | rfl
        · exact ⟨_, rfl, by decide, by decide⟩
        · exact ⟨_, rfl, s10, by omega⟩
        · exact ⟨_, rfl, s20, s21'⟩
      refine ⟨l, _, i, _, rfl, rfl, SqL.of hl6, e2, ?_⟩
      have KB : Keep [d] H H6 := ((KA.trans K4).trans K5).trans ((Keep.upd_new hl5).trans K6)
      refine ⟨_, rfl, _, rfl, _, rfl, d, c, rfl, D6, fun m H7 m0 m1 D7 K7 => ?_⟩
      refine ⟨_, rfl, d, c, _, rfl, D7, by decide, by decide, fun r H8 r0 r1 D8 K8 => ?_⟩
      refine ⟨_, rfl, _, rfl, _, _, rfl, rfl, _, rfl, d, c, _, rfl, D8, by decide, by decide, fun g H9 g0 g1 D9 K9 => ?_⟩
      refine ⟨_, _, rfl, rfl, by show 7 ≤ sizeLine; decide, fun p hp => ?_⟩
      have KC : Keep [d] H H9 := ((KB.trans K7).trans K8).trans K9
      have pd := (D9.new hp).1
      exact q p x y m r n (n + 1 + g) _ (KC.none_of hp (by simpa using pd.symm)) upd_same hx hy1 hyx m0 m1 r0 (by omega) n0 n1 (by omega) (by omega) (D9.keep (Keep.upd_new hp)) (KC.trans (Keep.upd_new hp))
end
end My
set_option Elab.async false
set_option maxRecDepth 100000
set_option maxHeartbeats 800000
namespace My
open PySem L2 TL
/-! orders, sums by names, sets of places: no heap here -/
structure O where
  py : Str
  pe : Str
  m : Int
  r : Int
  s : Int
  e : Int
structure OkO (o : O) : Prop where
  n1 : NameS o.py
  n2 : NameS o.pe
  ne : o.py ≠ o.pe
  m0 : 1 ≤ o.m
  m1 : o.m ≤ 1000000000
  r0 : 0 ≤ o.r
  r1 : o.r ≤ 9
  s0 : 0 ≤ o.s
  e0 : o.s < o.e
abbrev DI := List (Str × Int)
def lookI (h : DI) (n : Str) : Option Int := (h.find? fun p => decide (p.1 = n)).map (·.2)
def getI (h : DI) (n : Str) : Int := (lookI h n).getD 0
def putI (h : DI) (n : Str) (v : Int) : DI := if (h.any fun p => decide (p.1 = n)) then h.map (fun p => if p.1 = n then (n, v) else p) else h ++ [(n, v)]
theorem lookI_none {h : DI} {n : Str} : lookI h n = none ↔ n ∉ h.map (·.1) := by
  unfold lookI
  rw [Option.map_eq_none_iff, List.find?_eq_none]
  simp only [decide_eq_true_eq, List.mem_map, not_exists, not_and]
theorem lookI_append {h g : DI} {n : Str} : lookI (h ++ g) n = (lookI h n).or (lookI g n) := by
  unfold lookI
  rw [List.find?_append]
  cases List.find? (fun p => decide (p.1 = n)) h <;> rfl
theorem lookI_map {v : Int} {n k : Str} : ∀ h : DI, lookI (h.map fun p => if p.1 = n then (n, v) else p) k = if k = n then (lookI h k).map fun _ => v else lookI h k
  | [] => by simp [lookI]
  | p :: r => by
    have ih := lookI_map (v := v) (n := n) (k := k) r
    unfold lookI at ih ⊢
    rw [List.map_cons, List.find?_cons, List.find?_cons]
    by_cases e : p.1 = n
    · rw [if_pos e]
      by_cases e2 : k = n
      · subst e2
        simp [e]
      · rw [if_neg e2]
        have e3 : ¬ n = k := fun z => e2 z.symm
        have e4 : ¬ p.1 = k := fun z => e2 (z.symm.trans e)
        simp only [e3, e4, decide_false]
        rw [if_neg e2] at ih
        exact ih
    · rw [if_neg e]
      by_cases e2 : p.1 = k
      · have e3 : ¬ k = n := fun z => e (e2.trans z)
        simp [e2, e3]
      · simp only [e2, decide_false]
        exact ih
theorem lookI_put {h : DI} {n k : Str} {v : Int} : lookI (putI h n v) k = if k = n then some v else lookI h k := by
  unfold putI
  by_cases c : (h.any fun p => decide (p.1 = n)) = true
  · rw [if_pos c, lookI_map]
    by_cases e : k = n
    · rw [if_pos e, if_pos e]
      cases q : lookI h k with
      | some _ => rfl
      | none =>
        exfalso
        obtain ⟨p, hp, hn⟩ := List.any_eq_true.mp c
        exact lookI_none.mp q (List.mem_map.mpr ⟨p, hp, (of_decide_eq_true hn).trans e.symm⟩)
    · rw [if_neg e, if_neg e]
  · rw [if_neg c, lookI_append]
    by_cases e : k = n
    · subst e
      rw [if_pos rfl]
      have : lookI h k = none := lookI_none.mpr fun z => c (by
        obtain ⟨p, hp, hn⟩ := List.mem_map.mp z
        exact List.any_eq_true.mpr ⟨p, hp, decide_eq_true hn⟩)
      rw [this]; simp [lookI]
    · rw [if_neg e]
      have : lookI [(n, v)] k = none := lookI_none.mpr (by simpa using e)
      rw [this]; simp
theorem getI_put {h : DI} {n k : Str} {v : Int} : getI (putI h n v) k = if k = n then v else getI h k := by
  unfold getI
  rw [lookI_put]
  split <;> rfl
theorem keys_put {h : DI} {n : Str} {v : Int} : (putI h n v).map (·.1) = if n ∈ h.map (·.1) then h.map (·.1) else h.map (·.1) ++ [n] := by
  unfold putI
  have hc : ((h.any fun p => decide (p.1 = n)) = true) ↔ n ∈ h.map (·.1) := by
    rw [List.any_eq_true, List.mem_map]
    exact ⟨fun ⟨p, a, b⟩ => ⟨p, a, of_decide_eq_true b⟩, fun ⟨p, a, b⟩ => ⟨p, a, decide_eq_true b⟩⟩
  by_cases c : (h.any fun p => decide (p.1 = n)) = true
  · rw [if_pos c, if_pos (hc.mp c), List.map_map]
    refine List.map_congr_left fun p _ => ?_
    show (if p.1 = n then (n, v) else p).1 = p.1
    split
    · rename_i e; exact e.symm
    · rfl
  · rw [if_neg c, if_neg fun z => c (hc.mpr z), List.map_append]; rfl
theorem nodup_put {h : DI} {n : Str} {v : Int} (nd : (h.map (·.1)).Nodup) : ((putI h n v).map (·.1)).Nodup := by
  rw [keys_put]
  split
  · exact nd
  · rename_i e
    refine List.nodup_append.mpr ⟨nd, by simp, fun a ha b hb => ?_⟩
    rw [List.mem_singleton] at hb; subst hb
    rintro rfl; exact e ha
theorem len_put {h : DI} {n : Str} {v : Int} : (putI h n v).length ≤ h.length + 1 := by
  unfold putI; split
  · rw [List.length_map]; omega
  · rw [List.length_append]; simp
theorem lookI_mem {h : DI} {n : Str} {v : Int} (nd : (h.map (·.1)).Nodup) (hm : (n, v) ∈ h) : lookI h n = some v := by
  induction h with
  | nil => cases hm
  | cons p r ih =>
    unfold lookI
    rw [List.find?_cons]
    rw [List.map_cons, List.nodup_cons] at nd
    rcases List.mem_cons.mp hm with e | hm
    · subst e; simp
    · have : ¬ p.1 = n := fun e => nd.1 (List.mem_map.mpr ⟨(n, v), hm, e.symm⟩)
      simp only [this, decide_false]
      exact ih nd.2 hm
theorem mem_lookI {h : DI} {n : Str} {v : Int} (e : lookI h n = some v) : (n, v) ∈ h := by
  unfold lookI at e
  obtain ⟨p, hp, rfl⟩ := Option.map_eq_some_iff.mp e
  have h1 := List.mem_of_find?_eq_some hp
  have h2 := of_decide_eq_true (List.find?_some (p := fun p : Str × Int => decide (p.1 = n)) hp)
  rw [← h2]; exact h1
/-- what an order brings to a name -/
def flow (o : O) (n : Str) : Int := (if o.pe = n then o.m else 0) - (if o.py = n then o.m else 0)
def stepI (h : DI) (o : O) : DI := let g := putI h o.py (getI h o.py - o.m); putI g o.pe (getI g o.pe + o.m)
def backI (h : DI) (o : O) : DI := let g := putI h o.py (getI h o.py + o.m); putI g o.pe (getI g o.pe - o.m)
theorem getI_step {h : DI} {o : O} (hne : o.py ≠ o.pe) (n : Str) : getI (stepI h o) n = getI h n + flow o n := by
  unfold stepI flow
  simp only [getI_put]
  by_cases e1 : n = o.pe
  · subst e1
    rw [if_pos rfl, if_neg (Ne.symm hne), if_pos rfl, if_neg hne]; omega
  · rw [if_neg e1, if_neg (show ¬ o.pe = n from fun z => e1 z.symm)]
    by_cases e2 : n = o.py
    · subst e2; rw [if_pos rfl, if_pos rfl]; omega
    · rw [if_neg e2, if_neg (show ¬ o.py = n from fun z => e2 z.symm)]; omega
theorem getI_back {h : DI} {o : O} (hne : o.py ≠ o.pe) (n : Str) : getI (backI h o) n = getI h n - flow o n := by
  unfold backI flow
  simp only [getI_put]
  by_cases e1 : n = o.pe
  · subst e1
    rw [if_pos rfl, if_neg (Ne.symm hne), if_pos rfl, if_neg hne]; omega
  · rw [if_neg e1, if_neg (show ¬ o.pe = n from fun z => e1 z.symm)]
    by_cases e2 : n = o.py
    · subst e2; rw [if_pos rfl, if_pos rfl]; omega
    · rw [if_neg e2, if_neg (show ¬ o.py = n from fun z => e2 z.symm)]; omega
def flowAt (os : List O) (i : Nat) (n : Str) : Int := match os[i]? with
  | some o => flow o n
  | none => 0
def payer (os : List O) (i : Nat) : Option Str := os[i]?.map (·.py)
/-- what a name has with a set of places -/
def sumP (os : List O) (P : Nat → Bool) (n : Str) : Int := ((List.range os.length).map fun i => if P i then flowAt os i n else 0).sum
def bal (fr : DI) (os : List O) (P : Nat → Bool) (n : Str) : Int := getI fr n + sumP os P n
def Closed (os : List O) (P : Nat → Bool) : Prop := ∀ i k, P i = true → k < i → i < os.length → payer os k = payer os i → P k = true
structure Stands (fr : DI) (os : List O) (P : Nat → Bool) : Prop where
  cl : Closed os P
  nn : ∀ n, 0 ≤ bal fr os P n
/-- every set that stands lies within -/
def Over (fr : DI) (os : List O) (P : Nat → Bool) : Prop := ∀ S, Stands fr os S → ∀ i, i < os.length → S i = true → P i = true
structure Great (fr : DI) (os : List O) (P : Nat → Bool) : Prop where
  st : Stands fr os P
  ov : Over fr os P
theorem sum_le {f g : Nat → Int} : ∀ {l : List Nat}, (∀ i ∈ l, f i ≤ g i) → (l.map f).sum ≤ (l.map g).sum
  | [], _ => Int.le_refl 0
  | i :: r, h => by
    have h1 := h i (by simp)
    have h2 := sum_le (l := r) fun j hj => h j (List.mem_cons_of_mem _ hj)
    simp only [List.map_cons, List.sum_cons]; omega
/-- l is the last of its payer in P, and the payer is below 0 with P -/
structure Goes (fr : DI) (os : List O) (P : Nat → Bool) (l : Nat) (x : Str) : Prop where
  lt : l < os.length
  hp : P l = true
  py : payer os l = some x
  la : ∀ i, i < os.length → P i = true → payer os i = some x → i ≤ l
  be : bal fr os P x < 0
theorem flow_ge {o : O} {x : Str} (h : OkO o) (n : o.py ≠ x) : 0 ≤ flow o x := by
  unfold flow
  rw [if_neg n]
  have := h.m0
  split <;> omega
theorem Goes.out {fr : DI} {os : List O} {P : Nat → Bool} {l : Nat} {x : Str} (ok : ∀ o ∈ os, OkO o) (g : Goes fr os P l x) {S : Nat → Bool} (hS : Stands fr os S) (sub : ∀ i, i < os.length → S i = true → P i = true) : S l = false := by
  cases e : S l with
  | false => rfl
  | true =>
    exfalso
    have h1 := hS.nn x
    have h2 := g.be
    unfold bal at h1 h2
    have : sumP os S x ≤ sumP os P x := by
      refine sum_le fun i hi => ?_
      have hi := List.mem_range.mp hi
      obtain ⟨o, ho⟩ : ∃ o, os[i]? = some o := ⟨os[i], List.getElem?_eq_getElem hi⟩
      have hf : flowAt os i x = flow o x := by unfold flowAt; rw [ho]
      have hpy : payer os i = some o.py := by unfold payer; rw [ho]; rfl
      by_cases ex : o.py = x
      · have : S i = P i := by
          cases ep : P i with
          | false => cases es : S i with
            | false => rfl
            | true => rw [sub i hi es] at ep; cases ep
          | true =>
            have hl := g.la i hi ep (by rw [hpy, ex])
            by_cases eil : i = l
            · rw [eil]; exact e
            · exact hS.cl l i e (by omega) g.lt (by rw [hpy, g.py, ex])
        show (if S i = true then _ else _) ≤ (if P i = true then _ else _)
        rw [this]; exact Int.le_refl _
      · have hge := flow_ge (ok o (List.mem_of_getElem? ho)) ex
        show (if S i = true then flowAt os i x else 0) ≤ (if P i = true then flowAt os i x else 0)
        rw [hf]
        cases es : S i with
        | true => rw [sub i hi es]; exact Int.le_refl _
        | false =>
          rw [if_neg Bool.false_ne_true]
          split <;> omega
    omega
/-- some go at once, each the last one of a payer below 0 -/
theorem Over.less {fr : DI} {os : List O} {P : Nat → Bool} (ok : ∀ o ∈ os, OkO o) (ov : Over fr os P) {R : Nat → Bool} (hR : ∀ l, R l = true → ∃ x, Goes fr os P l x) : Over fr os fun i => P i && !R i := by
  intro S hS i hi e
  have h1 := ov S hS i hi e
  show (P i && !R i) = true
  rw [h1, Bool.true_and]
  cases er : R i with
  | false => rfl
  | true =>
    obtain ⟨x, g⟩ := hR i er
    rw [g.out ok hS (ov S hS)] at e; cases e
theorem Closed.less {fr : DI} {os : List O} {P : Nat → Bool} (cl : Closed os P) {R : Nat → Bool} (hR : ∀ l, R l = true → ∃ x, Goes fr os P l x) : Closed os fun i => P i && !R i := by
  intro i k h lt hi hp
  have h : (P i && !R i) = true := h
  rw [Bool.and_eq_true] at h
  show (P k && !R k) = true
  rw [cl i k h.1 lt hi hp, Bool.true_and]
  cases er : R k with
  | false => rfl
  | true =>
    obtain ⟨x, g⟩ := hR k er
    have := g.la i hi h.1 (by rw [← hp]; exact g.py)
    omega
/-- a payer below 0 has an order within -/
theorem below_has {fr : DI} {os : List O} {P : Nat → Bool} {x : Str} (ok : ∀ o ∈ os, OkO o) (f0 : 0 ≤ getI fr x) (h : bal fr os P x < 0) : ∃ i, i < os.length ∧ P i = true ∧ payer os i = some x := by
  refine Classical.byContradiction fun no => ?_
  have : (0 : Int) ≤ sumP os P x := by
    have z : ((List.range os.length).map fun _ => (0 : Int)).sum = 0 := by
      generalize List.range os.length = l
      induction l with
      | nil => rfl
      | cons a r ih => rw [List.map_cons, List.sum_cons, ih]; rfl
    rw [← z]
    refine sum_le fun i hi => ?_
    have hi := List.mem_range.mp hi
    obtain ⟨o, ho⟩ : ∃ o, os[i]? = some o := ⟨os[i], List.getElem?_eq_getElem hi⟩
    show 0 ≤ if P i = true then flowAt os i x else 0
    split
    · rename_i hp
      have : o.py ≠ x := fun e => no ⟨i, hi, hp, by unfold payer; rw [ho, ← e]; rfl⟩
      unfold flowAt; rw [ho]
      exact flow_ge (ok o (List.mem_of_getElem? ho)) this
    · exact Int.le_refl 0
  unfold bal at h
  omega
theorem Great.uniq {fr : DI} {os : List O} {P P' : Nat → Bool} (g : Great fr os P) (g' : Great fr os P') : (List.range os.length).filter P = (List.range os.length).filter P' := by
  refine List.filter_congr fun i hi => ?_
  have hi := List.mem_range.mp hi
  cases e : P i with
  | true => rw [g'.ov P g.st i hi e]
  | false => cases e' : P' i with
    | false => rfl
    | true => rw [g.ov P' g'.st i hi e'] at e; cases e
/-- sums over the list of a set's places -/
theorem sum_filter {f : Nat → Int} {P : Nat → Bool} : ∀ l : List Nat, ((l.filter P).map f).sum = (l.map fun i => if P i then f i else 0).sum
  | [] => rfl
  | i :: r => by
    rw [List.filter_cons, List.map_cons, List.sum_cons, ← sum_filter r]
    cases P i <;> simp
/-- the paper: one behind the other -/
def rm (P : Nat → Bool) (l : Nat) : Nat → Bool := fun i => P i && !decide (i = l)
inductive Walk (fr : DI) (os : List O) : (Nat → Bool) → List Nat → (Nat → Bool) → Prop where
  | nil {P : Nat → Bool} : Walk fr os P [] P
  | cons {P E : Nat → Bool} {l : Nat} {x : Str} {w : List Nat} (g : Goes fr os P l x) (t : Walk fr os (rm P l) w E) : Walk fr os P (l :: w) E
theorem Walk.snoc {fr : DI} {os : List O} {P E : Nat → Bool} {w : List Nat} {l : Nat} {x : Str} (h : Walk fr os P w E) (g : Goes fr os E l x) : Walk fr os P (w ++ [l]) (rm E l) := by
  induction h with
  | nil => exact .cons g .nil
  | cons g' _ ih => exact .cons g' (ih g)
theorem filter_rm {P : Nat → Bool} {l : Nat} : ∀ {r : List Nat}, r.Nodup → l ∈ r → P l = true → (r.filter P).Perm (l :: r.filter (rm P l))
  | [], _, h, _ => by cases h
  | a :: r, nd, h, hp => by
    rw [List.nodup_cons] at nd
    rcases List.mem_cons.mp h with e | h
    · subst e
      have e2 : r.filter (rm P l) = r.filter P := List.filter_congr fun i hi => by
        have : i ≠ l := fun e => nd.1 (e ▸ hi)
        unfold rm; simp [this]
      rw [List.filter_cons_of_pos hp, List.filter_cons_of_neg (by unfold rm; simp), e2]
    · have hne : a ≠ l := fun e => nd.1 (e ▸ h)
      have ih := filter_rm (P := P) nd.2 h hp
      have ea : rm P l a = P a := by unfold rm; simp [hne]
      rw [List.filter_cons, List.filter_cons, ea]
      split
      · exact (ih.cons a).trans (List.Perm.swap l a _)
      · exact ih
theorem Walk.perm {fr : DI} {os : List O} {P E : Nat → Bool} {w : List Nat} (h : Walk fr os P w E) : ((List.range os.length).filter P).Perm (w ++ (List.range os.length).filter E) := by
  induction h with
  | nil => exact List.Perm.refl _
  | cons g _ ih => exact (filter_rm List.nodup_range (List.mem_range.mpr g.lt) g.hp).trans (ih.cons _)
theorem perm_sum {l l' : List Int} (p : l.Perm l') : l.sum = l'.sum := by
  induction p with
  | nil => rfl
  | cons x _ ih => rw [List.sum_cons, List.sum_cons, ih]
  | swap x y l => simp only [List.sum_cons]; omega
  | trans _ _ a b => exact a.trans b
theorem bal_rm {fr : DI} {os : List O} {P : Nat → Bool} {l : Nat} (hl : l < os.length) (hp : P l = true) (n : Str) : bal fr os (rm P l) n = bal fr os P n - flowAt os l n := by
  unfold bal sumP
  rw [← sum_filter, ← sum_filter]
  have := (filter_rm (P := P) (l := l) List.nodup_range (List.mem_range.mpr hl) hp).map (flowAt os · n)
  rw [perm_sum this, List.map_cons, List.sum_cons]
  omega
end My
set_option Elab.async false
set_option maxRecDepth 100000
set_option maxHeartbeats 1600000
namespace My
open PySem PySem.Spec PyProof.Rows L2
section
/-- enumerate(v) of anything whose iterator is told -/
theorem enum_new1 {v : Value} {o : Obj} {Hv : Heap → Prop} (B : Begins v o Hv) :
    Meets (Builtin.«enumerate.__new__» ⟨[.type "enumerate", v], []⟩) (fun _ R s => Hv s.heap ∧ R (.ok (.ret (.ref (s.heap.push o).objs.size)))
      { s with heap := (s.heap.push o).push ⟨.type "enumerate", none, .fields #[.none, .bool false, .ref s.heap.objs.size, rawInt 0, .none, .none], #[]⟩ }) :=
  .of_wp fun prog w A R s h => by
    obtain ⟨hp, g, d, tk, os⟩ := s
    obtain ⟨h1, h⟩ := h
    have f1 := sub_enumerate
    have q1 : ∀ {A' : Around} {E' : Value → Shared → Prop} {Q' : Value → Shared → Prop}, Q' (.ref hp.objs.size) ⟨hp.push o, g, d, tk, os⟩ → wpAny (model prog w) A' (pyIter v) Q' E' ⟨hp, g, d, tk, os⟩ :=
      fun q => B.iter _ _ _ _ ⟨hp, g, d, tk, os⟩ _ h1 q
    wp_walk using q1
    refine wpAny_stack_any fun _ => wpAny_pure ?_
    split
    case h_1 c _ _ _ _ _ =>
      cases (c == Value.type "enumerate") <;> (wp_walk using q1; exact ⟨_, rfl, h⟩)
    case h_2 =>
      wp_walk using q1
      exact ⟨_, rfl, h⟩
variable {prog : Program} {w : World} {A : Around} {E : Value → Shared → Prop} {s : Shared}
theorem enum_call1 {v : Value} {o : Obj} {Hv : Heap → Prop} {Q : Value → Shared → Prop} (B : Begins v o Hv) (h1 : Hv s.heap)
    (h : ∀ h', IsEnum h' (s.heap.objs.size + 1) s.heap.objs.size 0 .none → h'.get? s.heap.objs.size = some o → (∀ b o, s.heap.get? b = some o → h'.get? b = some o) → Q (.ref (s.heap.objs.size + 1)) { s with heap := h' }) :
    wpAny (model prog w) A (call (.type "enumerate") [v]) Q E s := by
  refine callType_new PySem.F.called_enumerate (by decide) (PySem.F.typeCall_enumerate_1 _) (PySem.F.newCall_enumerate_1 _) (fun x => PySem.F.args_object_init_2 x _) PySem.F.entry_enumerate_new (enum_new1 B) ⟨h1, ?_⟩
  have z : (s.heap.push o).objs.size = s.heap.objs.size + 1 := Heap.size_push ..
  show _ ∧ _
  rw [z]
  have he : IsEnum ((s.heap.push o).push ⟨.type "enumerate", none, .fields #[.none, .bool false, .ref s.heap.objs.size, rawInt 0, .none, .none], #[]⟩) (s.heap.objs.size + 1) s.heap.objs.size 0 .none :=
    z ▸ Heap.get?_push_size (s.heap.push o) rfl
  exact ⟨⟨_, he, rfl⟩, h _ he (Heap.get?_push_of_some _ (Heap.get?_push_size _ B.free)) fun b u x => Heap.get?_push_of_some _ (Heap.get?_push_of_some _ x)⟩
end
/-- the tuple at a, each item in a new pair with its place -/
def IteT (K : PySem.W.Frag) (a : Addr) : It where
  go := fun i H => ∃ (xs : List V) (x : V), SqT K H a xs ∧ xs[i]? = some x
  yld := fun i H v H' => ∃ T x, v = .ref T ∧ H T = none ∧ H' = upd H T (.tup [.int (i : Nat), x]) ∧ ∀ xs, SqT K H a xs → xs[i]? = some x
  stop := fun i H => ∃ xs : List V, SqT K H a xs ∧ xs.length = i
theorem turn_enumT {P : Program} {w : World} {K : PySem.W.Frag} {elts : List Expr} {kk : Nat} {tpos : Pos} (a e it : Addr) :
    Turn P w K (.Tuple elts kk tpos) (IteT K a) [e, it] e (fun i h => (∃ old, IsEnum h e it ((i : Nat) : Int) old) ∧ h.IsTupleIter it a i ∧ e ≠ it) where
  mem := List.mem_cons_self
  obj := by
    rintro i h ⟨⟨old, he⟩, ⟨o, ho, hc, hd⟩, _⟩ b hb
    rcases List.mem_cons.mp hb with rfl | hb
    · exact ⟨_, he, fun v q => nomatch q⟩
    · obtain rfl := List.mem_singleton.mp hb
      exact ⟨o, ho, fun v q => by rw [hd] at q; cases q⟩
  keep := by
    rintro i h h' ⟨⟨old, he⟩, hi, ne⟩ k
    exact ⟨⟨old, k e (by simp) _ he⟩, hi.at fun o q => k it (by simp) o q, ne⟩
  item := by
    rintro X rfl rfl rfl hc i pins s σ H E I hf ⟨⟨old, he⟩, hit, hne⟩ ⟨xs, x, hq, hx⟩
    obtain ⟨its, rv, pT, hz⟩ := I.tuple hq
    obtain ⟨u, hu, ru⟩ := rv.get hx
    have hlen : i < its.length := (List.getElem?_eq_some_iff.mp hu).1
    have le : e < s.heap.objs.size := Heap.lt_size he
    have li : it < s.heap.objs.size := by obtain ⟨_, q, _⟩ := hit; exact Heap.lt_size q
    have hat : a ≠ it := fun z => by
      obtain ⟨o1, q1, c1, _⟩ := hit
      obtain ⟨o2, q2, c2, _⟩ := pT
      rw [z, q1] at q2; cases q2; rw [c1] at c2; injection c2 with c2; exact absurd c2 (by decide)
    have hae : e ∉ [it, a] := fun z => by
      rcases List.mem_cons.mp z with z | z
      · exact hne z
      · rw [List.mem_singleton] at z
        obtain ⟨o2, q2, c2, _⟩ := pT
        rw [← z] at q2
        have q3 : s.heap.get? e = _ := he
        rw [q2] at q3; cases q3; injection c2 with c2; exact absurd c2 (by decide)
    have D := Draws.tuple (prog := X.prog) (w := X.w) (A := X.A.in1) (I.ok.hd hc) it a hat its.toArray
    refine wpAny_pyNext_enum_itemD D he ⟨hit, pT⟩ (by simpa using hlen) hne hae fun y h' tk hy ho st hT hs hk => ?_
    have ey : y = u := by
      have : its[i]? = some y := by simpa using hy
      rw [hu] at this; exact (Option.some.inj this).symm
    subst ey
    refine ⟨_, rfl, wpAny_letOwnedTupleGo_enum (s := { s with heap := h', toks := tk + 1 }) ho fun h'' he' sb => ?_⟩
    have hT2 : h''.get? s.heap.objs.size = some ⟨.type "tuple", none, .seq #[.int i tk, y] 0, #[]⟩ := (sb.2 _ (Nat.ne_of_gt le)).trans hT
    have new : ObjOk X.prog X.w (upd H s.heap.objs.size (.tup [.int (i : Nat), x])) h'' s.heap.objs.size (.tup [.int (i : Nat), x]) :=
      ⟨by show 2 ≤ sizeLine; decide, [.int i tk, y], .cons ⟨_, rfl⟩ (.cons ru .nil), ⟨_, hT2, rfl, _, rfl⟩⟩
    have J : Inv X pins σ (upd H s.heap.objs.size (.tup [.int (i : Nat), x])) { s with heap := h'', toks := tk + 1 } := by
      refine I.turnedNew (ch := [e, it]) (fun b o hb q => ?_) hf (Nat.le_refl _) new
      have n1 : b ≠ e := fun z => hb (by simp [z])
      have n2 : b ≠ it := fun z => hb (by simp [z])
      exact (sb.2 b n1).trans (hk b o n1 n2 q)
    refine ⟨.ref s.heap.objs.size, _, J, rfl, ⟨_, x, rfl, I.hok.fresh (Nat.le_refl _), rfl, fun ys hy => I.tuple_inj hy hq ▸ hx⟩, ⟨⟨y, ?_⟩, st.1.at fun o q => (sb.2 it (Ne.symm hne)).trans q, hne⟩, fun b hb => ?_⟩
    · rw [show ((i + 1 : Nat) : Int) = (i : Int) + 1 by omega]; exact he'
    · have lb : b < s.heap.objs.size := by
        rcases List.mem_cons.mp hb with rfl | z
        · exact le
        · rw [List.mem_singleton.mp z]; exact li
      rw [upd_ne (Nat.ne_of_lt lb)]; exact (hf b hb).1
  done := by
    rintro X rfl rfl rfl hc i pins s σ H E I hf ⟨⟨old, he⟩, hit, hne⟩ ⟨xs, hq, hx⟩
    obtain ⟨its, rv, pT, hz⟩ := I.tuple hq
    have hat : a ≠ it := fun z => by
      obtain ⟨o1, q1, c1, _⟩ := hit
      obtain ⟨o2, q2, c2, _⟩ := pT
      rw [z, q1] at q2; cases q2; rw [c1] at c2; injection c2 with c2; exact absurd c2 (by decide)
    have D := Draws.tuple (prog := X.prog) (w := X.w) (A := X.A.in1) (I.ok.hd hc) it a hat its.toArray
    have hl := rv.length
    have en : i = its.toArray.size := by simp; omega
    obtain ⟨f0, f1, f2, f3, f4, f5⟩ := hf it (by simp)
    refine wpAny_pyNext_enum_endD D he ⟨en ▸ hit, pT⟩ fun h' eb => ⟨rfl, ?_⟩
    exact I.turned (t' := s.toks) (fun b o hb q => eb b o hb q) f0 f1 f3 f4 f5
  self := fun A i s Q E st h => let ⟨⟨_, he⟩, _⟩ := st; wpAny_pyIter_enum he h
def iEnumT (K : PySem.W.Frag) (ta : TA) : TI := fun σ H R => ta σ H fun vs H1 => ∃ a xs, vs = [.ref a] ∧ SqT K H1 a xs ∧ R (IteT K a) H1
theorem pi_enumT {X : Cx} {e : Expr} {ta : TA} {p pos tpos : Pos} {elts : List Expr} {kk : Nat} (hg : Gl X "enumerate") (hm : X.mg "enumerate" = none) (ha : PA X [e] ta) (hs : starEach [e] X.env = [(false, eval e X.env)] := by rfl) :
    PI X (.Tuple elts kk tpos) (.Call (.Name "enumerate" p) [e] [] pos) (iEnumT X.K ta) := by
  refine ⟨fun pins s σ H R I h => Call_ (ld_blt I hg hm boot_enumerate ?_)⟩
  refine callWith_type1 (thn (ha.run pos pins s σ H _ I h) fun us s1 ⟨vs, H1, I1, r1, q1⟩ => ?_) hs rfl
  obtain ⟨a, xs, rfl, hq, q⟩ := q1
  obtain ⟨u, rfl, r⟩ := vals1 r1
  cases (show u = Value.ref a from r)
  obtain ⟨its, rv, pT, hz⟩ := I1.tuple hq
  refine enum_call1 (begins_tuple a its.toArray) pT fun h' he hit hk => wpAny_pyIter_enum he ?_
  have J : Inv X pins σ H1 { s1 with heap := h' } := I1.kept (t' := s1.toks) hk
  refine ⟨s1.heap.objs.size + 1, [s1.heap.objs.size + 1, s1.heap.objs.size], _, _, H1, rfl, J, turn_enumT a _ s1.heap.objs.size, ⟨⟨.none, he⟩, ⟨_, hit, rfl, rfl⟩, Nat.succ_ne_self _⟩, fun b hb => ?_, q⟩
  have lb : s1.heap.objs.size ≤ b := by
    rcases List.mem_cons.mp hb with rfl | z
    · exact Nat.le_add_right _ _
    · rw [List.mem_singleton.mp z]; exact Nat.le_refl _
  exact I1.fpOk lb (I1.hok.fresh lb)
theorem walk_enumT {K : PySem.W.Frag} {a : Addr} {xs : List V} : L2.Walk (IteT K a) xs.length (fun H => SqT K H a xs) (YPair (fun i => some (.int (i : Nat))) (fun i => xs[i]?)) where
  goes := fun i H hi q => ⟨xs, xs[i], q, List.getElem?_eq_getElem hi⟩
  stops := fun H q => ⟨xs, q, rfl⟩
  yields := fun i H x H' hi q ⟨T, y, e1, e2, e3, e4⟩ => ⟨T, _, y, e1, e2, e3, rfl, e4 xs q⟩
end My
set_option Elab.async false
set_option maxRecDepth 100000
set_option maxHeartbeats 800000
namespace My
open PySem L2 TL
/-! orders, sums and places in the heap -/
def kvI (h : DI) : List (Key × V) := h.map fun p => (Sum.inr p.1, V.int p.2)
theorem key_eq {a b : Str} : ((Sum.inr a : Key) = Sum.inr b) ↔ a = b := ⟨fun h => by injection h, fun h => by rw [h]⟩
theorem valV_kvI {h : DI} {n : Str} : valV (kvI h) (Sum.inr n) = (lookI h n).map V.int := by
  induction h with
  | nil => rfl
  | cons p r ih =>
    by_cases e : p.1 = n
    · have e1 : lookI (p :: r) n = some p.2 := by unfold lookI; simp [e]
      rw [e1]
      show valV ((Sum.inr p.1, V.int p.2) :: kvI r) _ = _
      rw [valV_pos (by rw [e])]; rfl
    · have e1 : lookI (p :: r) n = lookI r n := by unfold lookI; simp [e]
      rw [e1, ← ih]
      exact valV_neg (fun z => e (key_eq.mp z))
theorem putK_kvI {h : DI} {n : Str} {v : Int} : putK (kvI h) (Sum.inr n) (.int v) = kvI (putI h n v) := by
  unfold putK putI
  have ea : (kvI h).any (fun kv => decide (kv.1 = (Sum.inr n : Key))) = h.any fun p => decide (p.1 = n) := by
    unfold kvI
    rw [List.any_map]
    refine congrArg (fun f => h.any f) (funext fun p => ?_)
    show decide ((Sum.inr p.1 : Key) = Sum.inr n) = _
    by_cases e : p.1 = n
    · subst e; simp
    · rw [decide_eq_false e, decide_eq_false fun z => e (key_eq.mp z)]
  rw [ea]
  split
  · unfold kvI
    rw [List.map_map, List.map_map]
    refine List.map_congr_left fun p _ => ?_
    show (if (Sum.inr p.1 : Key) = Sum.inr n then ((Sum.inr p.1 : Key), V.int v) else (Sum.inr p.1, V.int p.2)) = ((Sum.inr (if p.1 = n then (n, v) else p).1 : Key), V.int (if p.1 = n then (n, v) else p).2)
    by_cases e : p.1 = n
    · rw [if_pos e, if_pos (by rw [e]), e]
    · rw [if_neg e, if_neg fun z => e (key_eq.mp z)]
  · unfold kvI; rw [List.map_append]; rfl
theorem get_kvI {H : Hp} {a : Addr} {h : DI} {n : Str} (e : H a = some (.dK (kvI h))) : DGet H a (.str n) ((lookI h n).map V.int) := valV_kvI ▸ DGet.k (k := Sum.inr n) e
theorem getD_kvI {h : DI} {n : Str} : ((lookI h n).map V.int).getD (.int 0) = .int (getI h n) := by
  unfold getI
  cases lookI h n <;> rfl
def vals (o : O) : List V := ordV o.py o.pe o.m o.r o.s o.e
def Ords (H : Hp) (rs : List Addr) (os : List O) : Prop := Paired (fun r o => H r = some (.tup (vals o))) rs os
theorem Ords.keep {H H' : Hp} {rs : List Addr} {os : List O} (h : Ords H rs os) (k : Keep [] H H') : Ords H' rs os := Paired.mapP h fun _ _ x => k _ _ x (by simp)
theorem Ords.at {H : Hp} : ∀ {rs : List Addr} {os : List O} {i : Nat} {o : O}, Ords H rs os → os[i]? = some o → ∃ r, rs[i]? = some r ∧ H r = some (.tup (vals o))
  | _, _, _, _, .nil, e => by simp at e
  | _, _, 0, _, .cons r t, e => by simp at e; subst e; exact ⟨_, rfl, r⟩
  | _, _, i + 1, o, .cons _ t, e => by
    obtain ⟨r, h1, h2⟩ := Ords.at (i := i) (o := o) t (by simpa using e)
    exact ⟨r, by simpa using h1, h2⟩
theorem Ords.len {H : Hp} {rs : List Addr} {os : List O} (h : Ords H rs os) : rs.length = os.length := Paired.length h
def LotAt (H : Hp) (x : Addr) (os : List O) : Prop := ∃ rs : List Addr, (H x = some (.lst (rs.map V.ref)) ∨ H x = some (.tup (rs.map V.ref))) ∧ Ords H rs os
theorem LotAt.keep {H H' : Hp} {x : Addr} {os : List O} (h : LotAt H x os) (k : Keep [] H H') : LotAt H' x os := by
  obtain ⟨rs, h1, h2⟩ := h
  exact ⟨rs, h1.imp (fun z => k _ _ z (by simp)) fun z => k _ _ z (by simp), h2.keep k⟩
structure OkF (fr : DI) : Prop where
  nd : (fr.map (·.1)).Nodup
  nm : ∀ p ∈ fr, NameS p.1
  nn : ∀ p ∈ fr, 0 ≤ p.2
  size : fr.length ≤ 1000
theorem OkF.get {fr : DI} (f : OkF fr) (n : Str) : 0 ≤ getI fr n := by
  unfold getI
  cases e : lookI fr n with
  | none => exact Int.le_refl 0
  | some v => exact f.nn _ (mem_lookI e)
theorem Keep.base {ds : List Addr} {H0 H H' : Hp} (k0 : Keep [] H0 H) (k : Keep ds H H') (h : ∀ d ∈ ds, H0 d = none) : Keep [] H0 H' := fun b o e _ => by
  refine k b o (k0 b o e (by simp)) fun hb => ?_
  rw [h b hb] at e; cases e
/-- behind a lock -/
theorem Keep.unlock {H H' : Hp} {d : Addr} {od : Obj} {u : HO} (h : H d = some u) (k : Keep [] (upd H d (.frz od u)) H') : Keep [] H (upd H' d u) := fun b o e _ => by
  by_cases hb : b = d
  · subst hb; rw [upd_same]; rw [h] at e; exact e
  · rw [upd_ne hb]; exact k b o (by rw [upd_ne hb]; exact e) (by simp)
theorem NameS.v {z : Str} (h : NameS z) : nameV (.str z) = true := by
  show nameB z = true
  unfold nameB
  rw [decide_eq_true h.1, decide_eq_true h.2.1, Bool.true_and, Bool.true_and]
  exact List.all_eq_true.mpr fun c hc => by
    have := h.2.2 c hc
    rw [decide_eq_true this.1, decide_eq_true this.2]; rfl
theorem NameS.len {z : Str} (h : NameS z) : z.length ≤ sizeLine := by
  have := h.2.1
  rw [len_tl]; have : sizeLine = 16777216 := sizeLine_eq; omega
theorem ord_true {o : O} (h : OkO o) : isOrdL (vals o) = true := by
  show (decide (V.str "order" = .str "order") && (nameV (.str o.py) && (nameV (.str o.pe) && (!decide (V.str o.py = .str o.pe) && (rngV 1 1000000000 (.int o.m) && (rngV 0 9 (.int o.r) && (geV 0 (.int o.s) && (geV 0 (.int o.e) && ltV (.int o.s) (.int o.e))))))))) = true
  have e : ¬ V.str o.py = .str o.pe := fun z => h.ne (by injection z)
  have := h.s0; have := h.e0
  rw [h.n1.v, h.n2.v, decide_eq_false e]
  show (decide _ && (true && (true && (!false && ((decide (1 ≤ o.m) && decide (o.m ≤ 1000000000)) && ((decide (0 ≤ o.r) && decide (o.r ≤ 9)) && (decide (0 ≤ o.s) && (decide (0 ≤ o.e) && decide (o.s < o.e)))))))) ) = true
  rw [decide_eq_true h.m0, decide_eq_true h.m1, decide_eq_true h.r0, decide_eq_true h.r1, decide_eq_true h.s0, decide_eq_true h.e0, decide_eq_true (show 0 ≤ o.e by omega)]
  rfl
section
variable {P : Program} {w : World} {K : PySem.W.Frag} {mg : Str → Option Value} {base : Heap}
def sp_islist : Sp := fun vs H Q _ => ∃ a xs, vs = [.ref a] ∧ (H a = some (.lst xs) ∨ H a = some (.tup xs)) ∧ ∀ H', Keep [] H H' → Q (.bl true) H'
theorem p_is_list (T : Txt K mg) : Pr P w K mg base "is_list" s_is_list ["thing"] 1 sp_islist := by
  obtain ⟨f, fd, D⟩ := T.d_is_list
  refine ⟨f, fd, D, D.F.ok sc_is_list (fun vs H Q E h => ?_) (fun cdv A outer s H vs Q E hr h => ?_)⟩
  · obtain ⟨a, xs, rfl, _⟩ := h; rfl
  · obtain ⟨a, xs, rfl, ha, q⟩ := h
    refine ⟨_, (pss_one (ps_ret (pe_callB call_isiT (by rfl) T.z_isinstance (by decide +kernel) (pa_cons (pv 0) (pa_cons (pe_tup (pa_cons (pe_bltn (by rfl) T.z_list (by decide +kernel) (v := .ty "list") rfl) (pa_cons (pe_bltn (by rfl) T.z_tuple (by decide +kernel) (v := .ty "tuple") rfl) pa_nil))) pa_nil))))), ?_⟩
    refine ⟨_, rfl, by show 2 ≤ sizeLine; decide, fun p hp => ?_⟩
    have k := Keep.upd_new (ds := []) hp (o := .tup [V.ty "list", .ty "tuple"])
    rcases ha with ha | ha
    · exact ⟨_, p, _, _, _, true, rfl, upd_same, .cons (.ty _) (.cons (.ty _) .nil), .base (.lst (k _ _ ha (by simp))), kitAny_cons (b := true) (kit_ty (by decide +kernel)) (fun z => by cases z) (fun _ => rfl), q _ k⟩
    · exact ⟨_, p, _, _, _, true, rfl, upd_same, .cons (.ty _) (.cons (.ty _) .nil), .base (.tup (k _ _ ha (by simp))), kitAny_cons (b := false) (kit_ty (by decide +kernel)) (fun _ => kitAny_cons (b := true) (kit_ty (by decide +kernel)) (fun z => by cases z) (fun _ => rfl)) (fun z => by cases z), q _ k⟩
theorem all_rep (n : Nat) : (List.replicate n true).all id = true := by
  rw [List.all_eq_true]; intro x hx; exact (List.mem_replicate.mp hx).2
theorem vals_things {H : Hp} {o : O} (h : OkO o) : ∀ x ∈ vals o, ∃ n, Thing H x n := by
  intro x hx
  unfold vals ordV at hx
  simp only [List.mem_cons, List.not_mem_nil, or_false] at hx
  rcases hx with rfl | rfl | rfl | rfl | rfl | rfl | rfl
  · exact ⟨_, .str _ (by decide +kernel)⟩
  · exact ⟨_, .str _ h.n1.len⟩
  · exact ⟨_, .str _ h.n2.len⟩
  · exact ⟨_, .int _⟩
  · exact ⟨_, .int _⟩
  · exact ⟨_, .int _⟩
  · exact ⟨_, .int _⟩
def sp_look : Sp := fun vs H Q _ => ∃ pf po fr os, vs = [.ref pf, .ref po, .int 60] ∧ H pf = some (.dK (kvI fr)) ∧ LotAt H po os ∧ OkF fr ∧ (∀ o ∈ os, OkO o) ∧ os.length ≤ 60 ∧ ∀ H', Keep [] H H' → Q .non H'
theorem p_look_at_round (T : Txt K mg) : Pr P w K mg base "look_at_round" s_look_at_round ["free", "orders", "most"] 5 sp_look := by
  obtain ⟨f, fd, D⟩ := T.d_look_at_round
  obtain ⟨f_is_order, fd_is_order, D_is_order, G_is_order⟩ := p_is_order (P := P) (w := w) (base := base) T; obtain ⟨f_is_name, fd_is_name, D_is_name, G_is_name⟩ := p_is_name (P := P) (w := w) (base := base) T; obtain ⟨f_is_whole, fd_is_whole, D_is_whole, G_is_whole⟩ := p_is_whole (P := P) (w := w) (base := base) T; obtain ⟨f_is_list, fd_is_list, D_is_list, G_is_list⟩ := p_is_list (P := P) (w := w) (base := base) T
  refine ⟨f, fd, D, D.F.ok sc_look_at_round (fun vs H Q E h => ?_) (fun cdv A outer s H vs Q E hr h => ?_)⟩
  · obtain ⟨a, b, c, d, rfl, _⟩ := h; rfl
  · obtain ⟨pf, po, fr, os, rfl, hf, ⟨rs, ho, hO⟩, F, G, l60, q⟩ := h
    rcases ho with ho | ho
    · refine ⟨_, (pss_cons (ps_if (PW.pt (pw_or (pt_not (pt_val (pe_callB call_isi (by rfl) T.z_isinstance (by decide +kernel) (pa_cons (pv 0) (pa_cons (pe_bltn (by rfl) T.z_dict (by decide +kernel) (v := .ty "dict") rfl) pa_nil))))) (pw_or (pt_not (pt_val (pe_call G_is_list (hr.mono (by decide)) rfl D_is_list.m D_is_list.F.kp D_is_list.b .nil pass0 (pa_cons (pv 1) pa_nil)))) (pw_or1 (pt_cmpR op_gt (pe_callB call_len_seq (by rfl) T.z_len (by decide +kernel) (pa_cons (pv 1) pa_nil)) (pv 2) (nomark _)))))) (pss_one ps_never) pss_nil)
      (pss_cons (ps_if (pt_not (pt_val (pe_callB (cr_all rfl) (by rfl) T.z_all (by decide +kernel) (pa_cons (pe_lock (pe_lc (own := [("name", 3), ("number", 4)]) (g := gTup K 2 (gCons (gName 3) (gCons (gName 4) gNil))) (tt := tYes) rfl sc_look_at_round.nd (pi_items (pv 0)) (blkOk_by (own := [("name", 3), ("number", 4)]) (N := N_look_at_round) (sc := defScope s_look_at_round) (by decide +kernel)) (fun _ _ _ _ _ => (pg_tup rfl (pgs_cons (pg_name (i := 3) sc_look_at_round.nd rfl (Or.inl rfl)) (pgs_cons (pg_name (i := 4) sc_look_at_round.nd rfl (Or.inl rfl)) pgs_nil)))) (fun _ _ _ _ _ => pts_nil) (fun _ _ _ _ _ => (pe_and (pe_call G_is_name (hr.mono (by decide)) rfl D_is_name.m D_is_name.F.kp D_is_name.b .nil pass0 (pa_cons (pv 3) pa_nil)) (pe_one (pe_call G_is_whole (hr.mono (by decide)) rfl D_is_whole.m D_is_whole.F.kp D_is_whole.b .nil pass0 (pa_cons (pv 4) pa_nil))))))) pa_nil)))) (pss_one ps_never) pss_nil)
      (pss_one (ps_if (pt_not (pt_val (pe_callB (cr_all rfl) (by rfl) T.z_all (by decide +kernel) (pa_cons (pe_lc (own := [("order", 5)]) (g := gName 5) (tt := tYes) rfl sc_look_at_round.nd (pi_list (pv 1)) (blkOk_by (own := [("order", 5)]) (N := N_look_at_round) (sc := defScope s_look_at_round) (by decide +kernel)) (fun _ _ _ _ _ => (pg_name (i := 5) sc_look_at_round.nd rfl (Or.inl rfl))) (fun _ _ _ _ _ => pts_nil) (fun _ _ _ _ _ => (pe_call G_is_order (hr.mono (by decide)) rfl D_is_order.m D_is_order.F.kp D_is_order.b .nil pass0 (pa_cons (pv 5) pa_nil)))) pa_nil)))) (pss_one ps_never) pss_nil)))), ?_⟩
      refine ⟨_, rfl, _, _, _, _, true, rfl, .ty _, .base (.dK hf), kit_ty (by decide +kernel), _, rfl, iteF ?_⟩
      refine ⟨_, rfl, po, _, rfl, .inl ho, fun H1 K1 => ⟨_, rfl, iteF ?_⟩⟩
      have hf1 := K1 _ _ hf (by simp)
      have ho1 := K1 _ _ ho (by simp)
      have lr := hO.len
      refine ⟨_, rfl, po, _, rfl, .inl (SqL.of ho1), _, rfl, _, _, rfl, rfl, _, rfl, ?_⟩
      rw [decide_eq_false (show ¬ (60 : Int) < ((rs.map V.ref).length : Nat) by rw [List.length_map]; omega)]
      refine iteF ?_
      refine ⟨pf, _, hf1, trivial, fun od => ⟨_, rfl, pf, od, _, rfl, upd_same, fun L hL => lc_it walk_items (fun i H4 => Keep [] (upd H1 pf (.frz od (.dK (kvI fr)))) H4 ∧ H4 L = some (.lst ((List.replicate i true).map V.bl))) ⟨Keep.upd_new hL, upd_same⟩ (fun i H4 _ ⟨k, _⟩ => k _ _ upd_same (by simp)) ?_ ?_⟩⟩
      · rintro i x H4 H5 hi ⟨K4, h4⟩ ⟨T', a, b, rfl, hT, rfl, ea, eb⟩
        have hi' : i < fr.length := by unfold kvI at hi; rw [List.length_map] at hi; exact hi
        obtain ⟨p, hp⟩ : ∃ p, fr[i]? = some p := ⟨fr[i], List.getElem?_eq_getElem hi'⟩
        have pm := List.mem_of_getElem? hp
        have ek : (kvI fr)[i]? = some (Sum.inr p.1, V.int p.2) := by unfold kvI; rw [List.getElem?_map, hp]; rfl
        have ea : ((kvI fr)[i]?).map (fun kv => kV kv.1) = some a := ea
        have eb : ((kvI fr)[i]?).map Prod.snd = some b := eb
        rw [ek] at ea eb
        obtain rfl : V.str p.1 = a := Option.some.inj ea
        obtain rfl : V.int p.2 = b := Option.some.inj eb
        have nm := (F.nm p pm).v
        have KT := Keep.upd_new (ds := []) hT (o := .tup [V.str p.1, .int p.2])
        refine ⟨T', _, rfl, SqT.of upd_same, rfl, _, _, rfl, _, _, rfl, rfl, rfl, tYes_go (yes ?_)⟩
        refine ⟨_, rfl, _, _, rfl, .str _ (F.nm p pm).len, fun H6 K6 => ⟨_, rfl, ite2 (fun _ => ?_) (fun h => absurd nm h)⟩⟩
        refine ⟨_, rfl, _, _, rfl, .int _, fun H7 K7 => ?_⟩
        have K47 := (KT.trans K6).trans K7
        refine ⟨_, K47 _ _ h4 (by simp), ?_, (K4.trans K47).trans_new hL, ?_⟩
        · rw [List.length_map, List.length_replicate]; have := F.size; have : sizeLine = 16777216 := sizeLine_eq; omega
        · rw [upd_same, List.replicate_succ', List.map_append, show geV 0 (.int p.2) = true from decide_eq_true (F.nn p pm)]; rfl
      · rintro H4 ⟨K4, h4⟩
        have nL : L ≠ pf := (ne_of_none (upd_same (H := H1)) hL).symm
        refine ⟨K4 _ _ upd_same (by simp), L, _, rfl, SqL.of (by rw [upd_ne nL]; exact h4), _, rfl, ?_⟩
        rw [all_rep]
        refine iteF ?_
        have K5 : Keep [] H (upd H4 pf (.dK (kvI fr))) := K1.trans (Keep.unlock hf1 K4)
        have ho5 := K5 _ _ ho (by simp)
        have hO5 := hO.keep K5
        generalize upd H4 pf (.dK (kvI fr)) = H5 at K5 ho5 hO5
        refine ⟨_, rfl, po, rfl, ⟨_, SqL.of ho5⟩, fun L2 hL2 => ?_⟩
        refine lc_list (K := K) (a := po) (xs := rs.map V.ref) (fun i H6 => Keep [] H5 H6 ∧ H6 L2 = some (.lst ((List.replicate i true).map V.bl))) ⟨Keep.upd_new hL2, upd_same⟩ (fun i H6 _ ⟨k, _⟩ => SqL.of (k _ _ ho5 (by simp))) ?_ ?_
        · rintro i x H6 hx ⟨K6, h6⟩
          have hi' : i < os.length := by have := (List.getElem?_eq_some_iff.mp hx).1; rw [List.length_map] at this; omega
          obtain ⟨r, hr1, hr2⟩ := hO5.at (List.getElem?_eq_getElem hi')
          rw [List.getElem?_map, hr1] at hx
          obtain rfl : V.ref r = x := Option.some.inj hx
          have om := G _ (List.getElem_mem hi')
          refine ⟨rfl, tYes_go (yes ?_)⟩
          refine ⟨_, rfl, _, rfl, .inr ⟨r, _, rfl, K6 _ _ hr2 (by simp), vals_things om, fun H7 K7 => ?_⟩⟩
          refine ⟨_, K7 _ _ h6 (by simp), ?_, (K6.trans K7).trans_new hL2, ?_⟩
          · rw [List.length_map, List.length_replicate]; have : sizeLine = 16777216 := sizeLine_eq; omega
          · rw [upd_same, List.replicate_succ', List.map_append, ord_true om]; rfl
        · rintro H6 ⟨K6, h6⟩
          refine ⟨L2, _, rfl, SqL.of h6, _, rfl, ?_⟩
          rw [all_rep]
          exact iteF (q _ (K5.trans K6))
    · refine ⟨_, (pss_cons (ps_if (PW.pt (pw_or (pt_not (pt_val (pe_callB call_isi (by rfl) T.z_isinstance (by decide +kernel) (pa_cons (pv 0) (pa_cons (pe_bltn (by rfl) T.z_dict (by decide +kernel) (v := .ty "dict") rfl) pa_nil))))) (pw_or (pt_not (pt_val (pe_call G_is_list (hr.mono (by decide)) rfl D_is_list.m D_is_list.F.kp D_is_list.b .nil pass0 (pa_cons (pv 1) pa_nil)))) (pw_or1 (pt_cmpR op_gt (pe_callB call_len_seq (by rfl) T.z_len (by decide +kernel) (pa_cons (pv 1) pa_nil)) (pv 2) (nomark _)))))) (pss_one ps_never) pss_nil)
      (pss_cons (ps_if (pt_not (pt_val (pe_callB (cr_all rfl) (by rfl) T.z_all (by decide +kernel) (pa_cons (pe_lock (pe_lc (own := [("name", 3), ("number", 4)]) (g := gTup K 2 (gCons (gName 3) (gCons (gName 4) gNil))) (tt := tYes) rfl sc_look_at_round.nd (pi_items (pv 0)) (blkOk_by (own := [("name", 3), ("number", 4)]) (N := N_look_at_round) (sc := defScope s_look_at_round) (by decide +kernel)) (fun _ _ _ _ _ => (pg_tup rfl (pgs_cons (pg_name (i := 3) sc_look_at_round.nd rfl (Or.inl rfl)) (pgs_cons (pg_name (i := 4) sc_look_at_round.nd rfl (Or.inl rfl)) pgs_nil)))) (fun _ _ _ _ _ => pts_nil) (fun _ _ _ _ _ => (pe_and (pe_call G_is_name (hr.mono (by decide)) rfl D_is_name.m D_is_name.F.kp D_is_name.b .nil pass0 (pa_cons (pv 3) pa_nil)) (pe_one (pe_call G_is_whole (hr.mono (by decide)) rfl D_is_whole.m D_is_whole.F.kp D_is_whole.b .nil pass0 (pa_cons (pv 4) pa_nil))))))) pa_nil)))) (pss_one ps_never) pss_nil)
      (pss_one (ps_if (pt_not (pt_val (pe_callB (cr_all rfl) (by rfl) T.z_all (by decide +kernel) (pa_cons (pe_lc (own := [("order", 5)]) (g := gName 5) (tt := tYes) rfl sc_look_at_round.nd (pi_tup (pv 1)) (blkOk_by (own := [("order", 5)]) (N := N_look_at_round) (sc := defScope s_look_at_round) (by decide +kernel)) (fun _ _ _ _ _ => (pg_name (i := 5) sc_look_at_round.nd rfl (Or.inl rfl))) (fun _ _ _ _ _ => pts_nil) (fun _ _ _ _ _ => (pe_call G_is_order (hr.mono (by decide)) rfl D_is_order.m D_is_order.F.kp D_is_order.b .nil pass0 (pa_cons (pv 5) pa_nil)))) pa_nil)))) (pss_one ps_never) pss_nil)))), ?_⟩
      refine ⟨_, rfl, _, _, _, _, true, rfl, .ty _, .base (.dK hf), kit_ty (by decide +kernel), _, rfl, iteF ?_⟩
      refine ⟨_, rfl, po, _, rfl, .inr ho, fun H1 K1 => ⟨_, rfl, iteF ?_⟩⟩
      have hf1 := K1 _ _ hf (by simp)
      have ho1 := K1 _ _ ho (by simp)
      have lr := hO.len
      refine ⟨_, rfl, po, _, rfl, .inr (SqT.of ho1), _, rfl, _, _, rfl, rfl, _, rfl, ?_⟩
      rw [decide_eq_false (show ¬ (60 : Int) < ((rs.map V.ref).length : Nat) by rw [List.length_map]; omega)]
      refine iteF ?_
      refine ⟨pf, _, hf1, trivial, fun od => ⟨_, rfl, pf, od, _, rfl, upd_same, fun L hL => lc_it walk_items (fun i H4 => Keep [] (upd H1 pf (.frz od (.dK (kvI fr)))) H4 ∧ H4 L = some (.lst ((List.replicate i true).map V.bl))) ⟨Keep.upd_new hL, upd_same⟩ (fun i H4 _ ⟨k, _⟩ => k _ _ upd_same (by simp)) ?_ ?_⟩⟩
      · rintro i x H4 H5 hi ⟨K4, h4⟩ ⟨T', a, b, rfl, hT, rfl, ea, eb⟩
        have hi' : i < fr.length := by unfold kvI at hi; rw [List.length_map] at hi; exact hi
        obtain ⟨p, hp⟩ : ∃ p, fr[i]? = some p := ⟨fr[i], List.getElem?_eq_getElem hi'⟩
        have pm := List.mem_of_getElem? hp
        have ek : (kvI fr)[i]? = some (Sum.inr p.1, V.int p.2) := by unfold kvI; rw [List.getElem?_map, hp]; rfl
        have ea : ((kvI fr)[i]?).map (fun kv => kV kv.1) = some a := ea
        have eb : ((kvI fr)[i]?).map Prod.snd = some b := eb
        rw [ek] at ea eb
        obtain rfl : V.str p.1 = a := Option.some.inj ea
        obtain rfl : V.int p.2 = b := Option.some.inj eb
        have nm := (F.nm p pm).v
        have KT := Keep.upd_new (ds := []) hT (o := .tup [V.str p.1, .int p.2])
        refine ⟨T', _, rfl, SqT.of upd_same, rfl, _, _, rfl, _, _, rfl, rfl, rfl, tYes_go (yes ?_)⟩
        refine ⟨_, rfl, _, _, rfl, .str _ (F.nm p pm).len, fun H6 K6 => ⟨_, rfl, ite2 (fun _ => ?_) (fun h => absurd nm h)⟩⟩
        refine ⟨_, rfl, _, _, rfl, .int _, fun H7 K7 => ?_⟩
        have K47 := (KT.trans K6).trans K7
        refine ⟨_, K47 _ _ h4 (by simp), ?_, (K4.trans K47).trans_new hL, ?_⟩
        · rw [List.length_map, List.length_replicate]; have := F.size; have : sizeLine = 16777216 := sizeLine_eq; omega
        · rw [upd_same, List.replicate_succ', List.map_append, show geV 0 (.int p.2) = true from decide_eq_true (F.nn p pm)]; rfl
      · rintro H4 ⟨K4, h4⟩
        have nL : L ≠ pf := (ne_of_none (upd_same (H := H1)) hL).symm
        refine ⟨K4 _ _ upd_same (by simp), L, _, rfl, SqL.of (by rw [upd_ne nL]; exact h4), _, rfl, ?_⟩
        rw [all_rep]
        refine iteF ?_
        have K5 : Keep [] H (upd H4 pf (.dK (kvI fr))) := K1.trans (Keep.unlock hf1 K4)
        have ho5 := K5 _ _ ho (by simp)
        have hO5 := hO.keep K5
        generalize upd H4 pf (.dK (kvI fr)) = H5 at K5 ho5 hO5
        refine ⟨_, rfl, po, rfl, ⟨_, SqT.of ho5⟩, fun L2 hL2 => ?_⟩
        refine lc_tup (K := K) (a := po) (xs := rs.map V.ref) (fun i H6 => Keep [] H5 H6 ∧ H6 L2 = some (.lst ((List.replicate i true).map V.bl))) ⟨Keep.upd_new hL2, upd_same⟩ (fun i H6 _ ⟨k, _⟩ => SqT.of (k _ _ ho5 (by simp))) ?_ ?_
        · rintro i x H6 hx ⟨K6, h6⟩
          have hi' : i < os.length := by have := (List.getElem?_eq_some_iff.mp hx).1; rw [List.length_map] at this; omega
          obtain ⟨r, hr1, hr2⟩ := hO5.at (List.getElem?_eq_getElem hi')
          rw [List.getElem?_map, hr1] at hx
          obtain rfl : V.ref r = x := Option.some.inj hx
          have om := G _ (List.getElem_mem hi')
          refine ⟨rfl, tYes_go (yes ?_)⟩
          refine ⟨_, rfl, _, rfl, .inr ⟨r, _, rfl, K6 _ _ hr2 (by simp), vals_things om, fun H7 K7 => ?_⟩⟩
          refine ⟨_, K7 _ _ h6 (by simp), ?_, (K6.trans K7).trans_new hL2, ?_⟩
          · rw [List.length_map, List.length_replicate]; have : sizeLine = 16777216 := sizeLine_eq; omega
          · rw [upd_same, List.replicate_succ', List.map_append, ord_true om]; rfl
        · rintro H6 ⟨K6, h6⟩
          refine ⟨L2, _, rfl, SqL.of h6, _, rfl, ?_⟩
          rw [all_rep]
          exact iteF (q _ (K5.trans K6))
end
end My
set_option Elab.async false
set_option maxRecDepth 100000
set_option maxHeartbeats 800000
namespace My
open PySem L2 TL
section
variable {P : Program} {w : World} {K : PySem.W.Frag} {mg : Str → Option Value} {base : Heap}
theorem slA_all {H : Hp} {a : Addr} {xs : List V} {lo hi : Option Int} {Q : VK} (ha : H a = some (.tup xs)) (q : ∀ p H', Keep [] H H' → H' p = some (.tup (cutV xs lo hi)) → Q (.ref p) H') : rSlA K (.ref a) lo hi H Q := by
  refine ⟨a, xs, rfl, SqT.of ha, fun e => ?_, fun _ p hp => q p _ (Keep.upd_new hp) upd_same⟩
  refine q a H Keep.refl ?_
  have : cutV xs lo hi = xs := by
    unfold cutV
    rw [e.1, e.2, List.drop_zero, Nat.sub_zero, List.take_length]
  rw [this]; exact ha
theorem IsD_kvI {H : Hp} {a : Addr} {h : DI} (e : H a = some (.dK (kvI h))) : IsD H a := .inl ⟨_, .inl e⟩
theorem vals_cut (o : O) : cutV (vals o) (some 1) (some 4) = [.str o.py, .str o.pe, .int o.m] := rfl
theorem fold_len {fr : DI} : ∀ os : List O, (os.foldl stepI fr).length ≤ fr.length + 2 * os.length := by
  intro os
  induction os generalizing fr with
  | nil => exact Nat.le_refl _
  | cons o r ih =>
    have h1 := ih (fr := stepI fr o)
    have h2 : (stepI fr o).length ≤ fr.length + 2 := by
      unfold stepI
      have a := len_put (h := fr) (n := o.py) (v := getI fr o.py - o.m)
      have b := len_put (h := putI fr o.py (getI fr o.py - o.m)) (n := o.pe) (v := getI (putI fr o.py (getI fr o.py - o.m)) o.pe + o.m)
      show (putI _ _ _).length ≤ _
      omega
    rw [List.foldl_cons, List.length_cons]; omega
theorem fold_snoc {fr : DI} {os : List O} {i : Nat} {o : O} (h : os[i]? = some o) : (os.take (i + 1)).foldl stepI fr = stepI ((os.take i).foldl stepI fr) o := by
  rw [take_succ_of h, List.foldl_append]; rfl
def sp_have : Sp := fun vs H Q _ => ∃ pf po fr os, vs = [.ref pf, .ref po] ∧ H pf = some (.dK (kvI fr)) ∧ LotAt H po os ∧ OkF fr ∧ os.length ≤ 60 ∧ ∀ p H', H p = none → Keep [] H H' → H' p = some (.dK (kvI (os.foldl stepI fr))) → Q (.ref p) H'
theorem p_have_by_all (T : Txt K mg) : Pr P w K mg base "have_by_all" s_have_by_all ["free", "orders"] 1 sp_have := by
  obtain ⟨f, fd, D⟩ := T.d_have_by_all
  
  refine ⟨f, fd, D, D.F.ok sc_have_by_all (fun vs H Q E h => ?_) (fun cdv A outer s H vs Q E hr h => ?_)⟩
  · obtain ⟨a, b, c, d, rfl, _⟩ := h; rfl
  · obtain ⟨pf, po, fr, os, rfl, hf, ⟨rs, ho, hO⟩, F, l60, q⟩ := h
    have hsl : sizeLine = 16777216 := sizeLine_eq
    have hu := hu_of hr
    rcases ho with ho | ho
    · refine ⟨_, (pss_cons (ps_set (i := 2) sc_have_by_all.nd rfl (Or.inl rfl) (pe_callTy call_dictD (by rfl) T.z_dict (by decide +kernel) (pa_cons (pv 0) pa_nil)))
      (pss_cons (ps_for PassesOwn.never rfl (pi_list (pv 1)) (pg_name (i := 3) sc_have_by_all.nd rfl (Or.inl rfl)) (pss_cons (ps_asg (pe_slice sl_tupA (pv 3) (po_some pe_int) (po_some pe_int)) (pg_tup rfl (pgs_cons (pg_name (i := 4) sc_have_by_all.nd rfl (Or.inl rfl)) (pgs_cons (pg_name (i := 5) sc_have_by_all.nd rfl (Or.inl rfl)) (pgs_cons (pg_name (i := 6) sc_have_by_all.nd rfl (Or.inl rfl)) pgs_nil)))))
      (pss_cons (ps_dput hu (pv 2) (pv 4) (pe_op op_sub (pe_dget2 hu (pv 2) (pv 4) pe_int ⟨rfl, rfl, rfl, rfl⟩) (pv 6)) rfl)
      (pss_one (ps_dput hu (pv 2) (pv 5) (pe_op op_add (pe_dget2 hu (pv 2) (pv 5) pe_int ⟨rfl, rfl, rfl, rfl⟩) (pv 6)) rfl)))))
      (pss_one (ps_ret (pv 2))))), ?_⟩
      refine ⟨_, rfl, pf, _, rfl, .inl hf, fun p hp => ?_⟩
      refine ⟨_, rfl, po, rfl, ⟨_, SqL.of (Keep.upd_new (ds := []) hp _ _ ho (by simp))⟩, for_list (K := K) (a := po) (xs := rs.map V.ref) (fun i σ H2 => Keep [] H H2 ∧ H2 p = some (.dK (kvI ((os.take i).foldl stepI fr))) ∧ ∃ v3 v4 v5 v6, σ = [some (.ref pf), some (.ref po), some (.ref p), v3, v4, v5, v6]) ⟨Keep.upd_new hp, upd_same, none, none, none, none, rfl⟩ (fun i σ H2 _ ⟨k, _⟩ => SqL.of (k _ _ ho (by simp))) ?_ ?_⟩
      · rintro i x σ H2 hx ⟨K2, h2, v3, v4, v5, v6, rfl⟩
        have hi' : i < os.length := by have := (List.getElem?_eq_some_iff.mp hx).1; rw [List.length_map] at this; have := hO.len; omega
        obtain ⟨r, hr1, hr2⟩ := (hO.keep K2).at (List.getElem?_eq_getElem hi')
        rw [List.getElem?_map, hr1] at hx
        obtain rfl : V.ref r = x := Option.some.inj hx
        generalize eo : os[i] = o at hr2
        have hoi : os[i]? = some o := by rw [List.getElem?_eq_getElem hi', eo]
        rw [fold_snoc hoi]
        have L := fold_len (fr := fr) (os.take i)
        have Lt : (os.take i).length ≤ 60 := by rw [List.length_take]; omega
        have := F.size
        generalize (os.take i).foldl stepI fr = g at h2 L
        refine ⟨_, rfl, _, rfl, _, rfl, slA_all hr2 fun T' H3 K3 h3 => ?_⟩
        rw [vals_cut] at h3
        refine ⟨T', _, rfl, SqT.of h3, rfl, _, _, rfl, _, _, rfl, _, _, rfl, rfl, ?_⟩
        have h23 := K3 _ _ h2 (by simp)
        refine ⟨_, rfl, p, rfl, IsD_kvI h23, _, rfl, _, get_kvI h23, ?_⟩
        rw [getD_kvI]
        refine ⟨_, rfl, _, _, rfl, rfl, _, rfl, _, rfl, p, _, rfl, DPutS h23 (by unfold kvI; rw [List.length_map]; omega), ?_⟩
        have e1 : putK (kvI g) (Sum.inr o.py) (.int (getI g o.py - o.m)) = kvI (putI g o.py (getI g o.py - o.m)) := putK_kvI
        rw [e1]
        have l1 := len_put (h := g) (n := o.py) (v := getI g o.py - o.m)
        have K4 : Keep [] H (upd H3 p (.dK (kvI (putI g o.py (getI g o.py - o.m))))) := (K2.trans K3).trans_new hp
        have h4 : (upd H3 p (.dK (kvI (putI g o.py (getI g o.py - o.m))))) p = _ := upd_same
        have e2 : stepI g o = putI (putI g o.py (getI g o.py - o.m)) o.pe (getI (putI g o.py (getI g o.py - o.m)) o.pe + o.m) := rfl
        rw [e2]
        generalize putI g o.py (getI g o.py - o.m) = g1 at K4 h4 l1
        generalize upd H3 p (.dK (kvI g1)) = H4 at K4 h4
        refine ⟨_, rfl, p, rfl, IsD_kvI h4, _, rfl, _, get_kvI h4, ?_⟩
        rw [getD_kvI]
        refine ⟨_, rfl, _, _, rfl, rfl, _, rfl, _, rfl, p, _, rfl, DPutS h4 (by unfold kvI; rw [List.length_map]; omega), ?_⟩
        have e3 : putK (kvI g1) (Sum.inr o.pe) (.int (getI g1 o.pe + o.m)) = kvI (putI g1 o.pe (getI g1 o.pe + o.m)) := putK_kvI
        rw [e3]
        exact ⟨K4.trans_new hp, upd_same, _, _, _, _, rfl⟩
      · rintro σ H2 ⟨K2, h2, v3, v4, v5, v6, rfl⟩
        rw [List.length_map, hO.len, List.take_length] at h2
        exact ⟨_, rfl, q p H2 hp K2 h2⟩
    · refine ⟨_, (pss_cons (ps_set (i := 2) sc_have_by_all.nd rfl (Or.inl rfl) (pe_callTy call_dictD (by rfl) T.z_dict (by decide +kernel) (pa_cons (pv 0) pa_nil)))
      (pss_cons (ps_for PassesOwn.never rfl (pi_tup (pv 1)) (pg_name (i := 3) sc_have_by_all.nd rfl (Or.inl rfl)) (pss_cons (ps_asg (pe_slice sl_tupA (pv 3) (po_some pe_int) (po_some pe_int)) (pg_tup rfl (pgs_cons (pg_name (i := 4) sc_have_by_all.nd rfl (Or.inl rfl)) (pgs_cons (pg_name (i := 5) sc_have_by_all.nd rfl (Or.inl rfl)) (pgs_cons (pg_name (i := 6) sc_have_by_all.nd rfl (Or.inl rfl)) pgs_nil)))))
      (pss_cons (ps_dput hu (pv 2) (pv 4) (pe_op op_sub (pe_dget2 hu (pv 2) (pv 4) pe_int ⟨rfl, rfl, rfl, rfl⟩) (pv 6)) rfl)
      (pss_one (ps_dput hu (pv 2) (pv 5) (pe_op op_add (pe_dget2 hu (pv 2) (pv 5) pe_int ⟨rfl, rfl, rfl, rfl⟩) (pv 6)) rfl)))))
      (pss_one (ps_ret (pv 2))))), ?_⟩
      refine ⟨_, rfl, pf, _, rfl, .inl hf, fun p hp => ?_⟩
      refine ⟨_, rfl, po, rfl, ⟨_, SqT.of (Keep.upd_new (ds := []) hp _ _ ho (by simp))⟩, for_tup (K := K) (a := po) (xs := rs.map V.ref) (fun i σ H2 => Keep [] H H2 ∧ H2 p = some (.dK (kvI ((os.take i).foldl stepI fr))) ∧ ∃ v3 v4 v5 v6, σ = [some (.ref pf), some (.ref po), some (.ref p), v3, v4, v5, v6]) ⟨Keep.upd_new hp, upd_same, none, none, none, none, rfl⟩ (fun i σ H2 _ ⟨k, _⟩ => SqT.of (k _ _ ho (by simp))) ?_ ?_⟩
      · rintro i x σ H2 hx ⟨K2, h2, v3, v4, v5, v6, rfl⟩
        have hi' : i < os.length := by have := (List.getElem?_eq_some_iff.mp hx).1; rw [List.length_map] at this; have := hO.len; omega
        obtain ⟨r, hr1, hr2⟩ := (hO.keep K2).at (List.getElem?_eq_getElem hi')
        rw [List.getElem?_map, hr1] at hx
        obtain rfl : V.ref r = x := Option.some.inj hx
        generalize eo : os[i] = o at hr2
        have hoi : os[i]? = some o := by rw [List.getElem?_eq_getElem hi', eo]
        rw [fold_snoc hoi]
        have L := fold_len (fr := fr) (os.take i)
        have Lt : (os.take i).length ≤ 60 := by rw [List.length_take]; omega
        have := F.size
        generalize (os.take i).foldl stepI fr = g at h2 L
        refine ⟨_, rfl, _, rfl, _, rfl, slA_all hr2 fun T' H3 K3 h3 => ?_⟩
        rw [vals_cut] at h3
        refine ⟨T', _, rfl, SqT.of h3, rfl, _, _, rfl, _, _, rfl, _, _, rfl, rfl, ?_⟩
        have h23 := K3 _ _ h2 (by simp)
        refine ⟨_, rfl, p, rfl, IsD_kvI h23, _, rfl, _, get_kvI h23, ?_⟩
        rw [getD_kvI]
        refine ⟨_, rfl, _, _, rfl, rfl, _, rfl, _, rfl, p, _, rfl, DPutS h23 (by unfold kvI; rw [List.length_map]; omega), ?_⟩
        have e1 : putK (kvI g) (Sum.inr o.py) (.int (getI g o.py - o.m)) = kvI (putI g o.py (getI g o.py - o.m)) := putK_kvI
        rw [e1]
        have l1 := len_put (h := g) (n := o.py) (v := getI g o.py - o.m)
        have K4 : Keep [] H (upd H3 p (.dK (kvI (putI g o.py (getI g o.py - o.m))))) := (K2.trans K3).trans_new hp
        have h4 : (upd H3 p (.dK (kvI (putI g o.py (getI g o.py - o.m))))) p = _ := upd_same
        have e2 : stepI g o = putI (putI g o.py (getI g o.py - o.m)) o.pe (getI (putI g o.py (getI g o.py - o.m)) o.pe + o.m) := rfl
        rw [e2]
        generalize putI g o.py (getI g o.py - o.m) = g1 at K4 h4 l1
        generalize upd H3 p (.dK (kvI g1)) = H4 at K4 h4
        refine ⟨_, rfl, p, rfl, IsD_kvI h4, _, rfl, _, get_kvI h4, ?_⟩
        rw [getD_kvI]
        refine ⟨_, rfl, _, _, rfl, rfl, _, rfl, _, rfl, p, _, rfl, DPutS h4 (by unfold kvI; rw [List.length_map]; omega), ?_⟩
        have e3 : putK (kvI g1) (Sum.inr o.pe) (.int (getI g1 o.pe + o.m)) = kvI (putI g1 o.pe (getI g1 o.pe + o.m)) := putK_kvI
        rw [e3]
        exact ⟨K4.trans_new hp, upd_same, _, _, _, _, rfl⟩
      · rintro σ H2 ⟨K2, h2, v3, v4, v5, v6, rfl⟩
        rw [List.length_map, hO.len, List.take_length] at h2
        exact ⟨_, rfl, q p H2 hp K2 h2⟩
/-! places by their payers -/
def kvA (ls : List (Str × Addr)) : List (Key × V) := ls.map fun p => (Sum.inr p.1, V.ref p.2)
def lookA (ls : List (Str × Addr)) (n : Str) : Option Addr := (ls.find? fun p => decide (p.1 = n)).map (·.2)
theorem valV_kvA {h : List (Str × Addr)} {n : Str} : valV (kvA h) (Sum.inr n) = (lookA h n).map V.ref := by
  induction h with
  | nil => rfl
  | cons p r ih =>
    by_cases e : p.1 = n
    · have e1 : lookA (p :: r) n = some p.2 := by unfold lookA; simp [e]
      rw [e1]
      show valV ((Sum.inr p.1, V.ref p.2) :: kvA r) _ = _
      rw [valV_pos (by rw [e])]; rfl
    · have e1 : lookA (p :: r) n = lookA r n := by unfold lookA; simp [e]
      rw [e1, ← ih]
      exact valV_neg (fun z => e (key_eq.mp z))
theorem lookA_none {h : List (Str × Addr)} {n : Str} : lookA h n = none ↔ ∀ p ∈ h, p.1 ≠ n := by
  unfold lookA
  rw [Option.map_eq_none_iff, List.find?_eq_none]
  simp only [decide_eq_true_eq, ne_eq]
theorem mem_lookA {h : List (Str × Addr)} {n : Str} {v : Addr} (e : lookA h n = some v) : (n, v) ∈ h := by
  unfold lookA at e
  obtain ⟨p, hp, rfl⟩ := Option.map_eq_some_iff.mp e
  have h1 := List.mem_of_find?_eq_some hp
  have h2 := of_decide_eq_true (List.find?_some (p := fun p : Str × Addr => decide (p.1 = n)) hp)
  rw [← h2]; exact h1
theorem putK_kvA {h : List (Str × Addr)} {n : Str} {v : Addr} (e : lookA h n = none) : putK (kvA h) (Sum.inr n) (.ref v) = kvA (h ++ [(n, v)]) := by
  have e := lookA_none.mp e
  unfold putK
  have ea : (kvA h).any (fun kv => decide (kv.1 = (Sum.inr n : Key))) = false := by
    rw [List.any_eq_false]
    intro kv hkv
    obtain ⟨p, hp, rfl⟩ := List.mem_map.mp hkv
    exact fun z => e p hp (key_eq.mp (of_decide_eq_true z))
  rw [ea, if_neg Bool.false_ne_true]
  unfold kvA; rw [List.map_append]; rfl
/-- the lists of a dict of lists of places -/
structure LeftAt (H0 H : Hp) (a : Addr) (ls : List (Str × Addr)) (f : Str → List Nat) : Prop where
  ha : H a = some (.dK (kvA ls))
  na : H0 a = none
  nd : (a :: ls.map (·.2)).Nodup
  nk : (ls.map (·.1)).Nodup
  nw : ∀ p ∈ ls, H0 p.2 = none
  lst : ∀ p ∈ ls, H p.2 = some (.lst ((f p.1).map fun i : Nat => V.int i))
  off : ∀ x, (∀ p ∈ ls, p.1 ≠ x) → f x = []
theorem nodup_map_inj {α β : Type} {f : α → β} : ∀ {l : List α} {a b : α}, (l.map f).Nodup → a ∈ l → b ∈ l → f a = f b → a = b
  | c :: r, a, b, nd, ha, hb, e => by
    rw [List.map_cons, List.nodup_cons] at nd
    rcases List.mem_cons.mp ha with e1 | ha' <;> rcases List.mem_cons.mp hb with e2 | hb'
    · rw [e1, e2]
    · subst e1; exact absurd (List.mem_map.mpr ⟨b, hb', e.symm⟩) nd.1
    · subst e2; exact absurd (List.mem_map.mpr ⟨a, ha', e⟩) nd.1
    · exact nodup_map_inj nd.2 ha' hb' e
theorem LeftAt.keep {H0 H H' : Hp} {a ls f} (L : LeftAt H0 H a ls f) (k : Keep [] H H') : LeftAt H0 H' a ls f :=
  { L with ha := k _ _ L.ha (by simp), lst := fun p hp => k _ _ (L.lst p hp) (by simp) }
theorem LeftAt.get {H0 H : Hp} {a ls f} (L : LeftAt H0 H a ls f) {x : Str} (h : f x ≠ []) : ∃ b, lookA ls x = some b ∧ (x, b) ∈ ls ∧ H b = some (.lst ((f x).map fun i : Nat => V.int i)) := by
  cases e : lookA ls x with
  | none => exact absurd (L.off x (lookA_none.mp e)) h
  | some b => exact ⟨b, rfl, mem_lookA e, L.lst _ (mem_lookA e)⟩
/-- one of the lists is another now -/
theorem LeftAt.set {H0 H : Hp} {a ls f} (L : LeftAt H0 H a ls f) {x : Str} {b : Addr} (hb : (x, b) ∈ ls) {zs : List Nat} {f' : Str → List Nat} (hx : f' x = zs) (hy : ∀ y, y ≠ x → f' y = f y) : LeftAt H0 (upd H b (.lst (zs.map fun i : Nat => V.int i))) a ls f' := by
  have nd := List.nodup_cons.mp L.nd
  have ne : a ≠ b := fun e => nd.1 (List.mem_map.mpr ⟨_, hb, e.symm⟩)
  refine ⟨by rw [upd_ne ne]; exact L.ha, L.na, L.nd, L.nk, L.nw, fun p hp => ?_, fun y hy' => ?_⟩
  · by_cases e : p.2 = b
    · have : p = (x, b) := nodup_map_inj nd.2 hp hb e
      subst this
      show upd H b _ b = some (.lst ((f' x).map _))
      rw [upd_same, hx]
    · have : p.1 ≠ x := fun ex => e (by
        have := nodup_map_inj L.nk hp hb ex
        rw [this])
      rw [upd_ne e, hy _ this]; exact L.lst p hp
  · have : y ≠ x := fun e => hy' _ hb e.symm
    rw [hy y this]; exact L.off y hy'
def at_ (os : List O) (P : Nat → Bool) (m : Nat) (x : Str) : List Nat := (List.range m).filter fun i => P i && decide (payer os i = some x)
theorem at_succ {os : List O} {P : Nat → Bool} {m : Nat} {o : O} (h : os[m]? = some o) (hp : P m = true) (x : Str) : at_ os P (m + 1) x = at_ os P m x ++ if x = o.py then [m] else [] := by
  unfold at_ payer
  rw [List.range_succ, List.filter_append, List.filter_cons, h, hp]
  by_cases e : x = o.py
  · subst e; simp
  · have : ¬ some o.py = some x := fun z => e (by injection z with z; exact z.symm)
    rw [if_neg e]; simp [this]
def sp_left : Sp := fun vs H Q _ => ∃ po os, vs = [.ref po] ∧ LotAt H po os ∧ os.length ≤ 60 ∧ ∀ p ls H', Keep [] H H' → LeftAt H H' p ls (at_ os (fun _ => true) os.length) → Q (.ref p) H'
theorem p__places_by_payer (T : Txt K mg) : Pr P w K mg base "_places_by_payer" s__places_by_payer ["orders"] 1 sp_left := by
  obtain ⟨f, fd, D⟩ := T.d__places_by_payer
  
  refine ⟨f, fd, D, D.F.ok sc__places_by_payer (fun vs H Q E h => ?_) (fun cdv A outer s H vs Q E hr h => ?_)⟩
  · obtain ⟨a, b, rfl, _⟩ := h; rfl
  · obtain ⟨po, os, rfl, ⟨rs, ho, hO⟩, l60, q⟩ := h
    have hsl : sizeLine = 16777216 := sizeLine_eq
    have hu := hu_of hr
    rcases ho with ho | ho
    · refine ⟨_, (pss_cons (ps_set (i := 1) sc__places_by_payer.nd rfl (Or.inl rfl) pe_dnewK)
      (pss_cons (ps_for PassesOwn.never rfl (pi_enum (by rfl) T.z_enumerate (pa_cons (pv 0) pa_nil)) (pg_tup rfl (pgs_cons (pg_name (i := 2) sc__places_by_payer.nd rfl (Or.inl rfl)) (pgs_cons (pg_name (i := 3) sc__places_by_payer.nd rfl (Or.inl rfl)) pgs_nil))) (pss_one (ps_expr (pe_bm PySem.F.plainAttrs_list PySem.F.slot_list_append PySem.F.type_list_append mt_append (pe_dsetd (pv 1) (pe_ix ix_tup (pv 3) pe_int (fun _ _ => rfl)) (pe_lst pa_nil) ⟨rfl, rfl, rfl, rfl⟩) (pa_cons (pv 2) pa_nil)))))
      (pss_one (ps_ret (pv 1))))), ?_⟩
      refine fun p hp => ?_
      refine ⟨_, rfl, po, _, rfl, SqL.of (Keep.upd_new (ds := []) hp _ _ ho (by simp)), for_it (walk_enum (K := K) (a := po) (xs := rs.map V.ref)) (fun i σ H2 => Keep [] H H2 ∧ ∃ ls v2 v3, LeftAt H H2 p ls (at_ os (fun _ => true) i) ∧ ls.length ≤ i ∧ σ = [some (.ref po), some (.ref p), v2, v3]) ⟨Keep.upd_new hp, [], none, none, ⟨upd_same, hp, by simp, by simp, by simp, by simp, fun _ _ => rfl⟩, Nat.le_refl _, rfl⟩ (fun i σ H2 _ ⟨k, _⟩ => SqL.of (k _ _ ho (by simp))) ?_ ?_⟩
      · rintro i x σ H2 H3 hi ⟨K2, ls, v2, v3, L, lls, rfl⟩ ⟨T', a, b, rfl, hT, rfl, ea, eb⟩
        rw [List.length_map, hO.len] at hi
        have eb : (rs.map V.ref)[i]? = some b := eb
        obtain rfl : V.int (i : Nat) = a := Option.some.inj ea
        obtain ⟨r, hr1, hr2⟩ := (hO.keep K2).at (List.getElem?_eq_getElem hi)
        rw [List.getElem?_map, hr1] at eb
        obtain rfl : V.ref r = b := Option.some.inj eb
        generalize eo : os[i] = o at hr2
        have hoi : os[i]? = some o := by rw [List.getElem?_eq_getElem hi, eo]
        have KT := Keep.upd_new (ds := []) hT (o := .tup [V.int (i : Nat), .ref r])
        have hr3 := KT _ _ hr2 (by simp)
        have L3 := L.keep KT
        have K3 := K2.trans KT
        have sT : SqT K (upd H2 T' (.tup [V.int (i : Nat), .ref r])) T' [V.int (i : Nat), .ref r] := SqT.of upd_same
        generalize upd H2 T' (.tup [V.int (i : Nat), .ref r]) = H3 at hr3 L3 K3 sT
        refine ⟨T', _, rfl, sT, rfl, _, _, rfl, _, _, rfl, rfl, ?_⟩
        have step : ∀ x, at_ os (fun _ => true) (i + 1) x = at_ os (fun _ => true) i x ++ if x = o.py then [i] else [] := at_succ hoi rfl
        have zs : (at_ os (fun _ => true) i o.py).length ≤ i := by
          have := List.length_filter_le (fun j => (fun _ => true) j && decide (payer os j = some o.py)) (List.range i)
          rw [List.length_range] at this; exact this
        refine ⟨_, rfl, p, rfl, .inl ⟨_, .inl L3.ha⟩, _, rfl, r, _, 1, _, rfl, rfl, SqT.of hr3, rfl, ?_⟩
        refine ⟨Nat.zero_le _, fun M hM => ?_⟩
        have L4 := L3.keep (Keep.upd_new (ds := []) hM (o := .lst []))
        have K4 := K3.trans (Keep.upd_new (o := .lst []) hM)
        have hM0 := K3.none_of hM (by simp)
        have hMs : (upd H3 M (.lst [])) M = some (.lst []) := upd_same
        have pM : p ≠ M := ne_of_none L3.ha hM
        have lM : ∀ q ∈ ls, q.2 ≠ M := fun q hq => ne_of_none (L3.lst q hq) hM
        generalize upd H3 M (.lst []) = H4 at L4 K4 hMs
        refine ⟨kvA ls, Sum.inr o.py, L4.ha, rfl, by unfold kvA; rw [List.length_map]; omega, fun v hv => ?_, fun hv => ?_⟩
        · rw [valV_kvA] at hv
          obtain ⟨b, hb, rfl⟩ := Option.map_eq_some_iff.mp hv
          have hb := mem_lookA hb
          refine ⟨.inl ⟨rfl, _, SqL.of (L4.lst _ hb)⟩, _, rfl, b, _, _, rfl, rfl, L4.lst _ hb, by rw [List.length_map]; show (at_ os (fun _ => true) i o.py).length < _; omega, ?_⟩
          have e0 : ((at_ os (fun _ => true) i o.py).map fun i : Nat => V.int i) ++ [V.int (i : Nat)] = ((at_ os (fun _ => true) i o.py) ++ [i]).map fun i : Nat => V.int i := by rw [List.map_append]; rfl
          rw [e0]
          refine ⟨K4.trans_new (L4.nw _ hb), ls, _, _, L4.set hb (by rw [step, if_pos rfl]) (fun y hy => by rw [step, if_neg hy, List.append_nil]), by omega, rfl⟩
        · rw [valV_kvA, Option.map_eq_none_iff] at hv
          rw [putK_kvA hv]
          have hv := lookA_none.mp hv
          refine ⟨.inl ⟨rfl, _, SqL.of (by rw [upd_ne pM.symm]; exact hMs)⟩, _, rfl, M, [], _, rfl, rfl, by rw [upd_ne pM.symm]; exact hMs, by show 0 < sizeLine; omega, ?_⟩
          refine ⟨(K4.trans_new L4.na).trans_new hM0, ls ++ [(o.py, M)], _, _, ⟨?_, L4.na, ?_, ?_, ?_, ?_, ?_⟩, by simp; omega, rfl⟩
          · rw [upd_ne pM]; exact upd_same
          · have nd := List.nodup_cons.mp L4.nd
            rw [List.map_append, ← List.cons_append]
            refine List.nodup_append.mpr ⟨L4.nd, by simp, fun a ha b hb => ?_⟩
            obtain rfl : b = M := by simpa using hb
            rcases List.mem_cons.mp ha with rfl | ha
            · exact pM
            · obtain ⟨q, hq, rfl⟩ := List.mem_map.mp ha
              exact lM q hq
          · rw [List.map_append]
            refine List.nodup_append.mpr ⟨L4.nk, by simp, fun a ha b hb => ?_⟩
            obtain rfl : b = o.py := by simpa using hb
            obtain ⟨q, hq, rfl⟩ := List.mem_map.mp ha
            exact hv q hq
          · intro q hq
            rcases List.mem_append.mp hq with hq | hq
            · exact L4.nw q hq
            · obtain rfl : q = (o.py, M) := by simpa using hq
              exact hM0
          · intro q hq
            rcases List.mem_append.mp hq with hq | hq
            · have n1 : q.2 ≠ p := fun e => (List.nodup_cons.mp L4.nd).1 (List.mem_map.mpr ⟨q, hq, e⟩)
              rw [upd_ne (lM q hq), upd_ne n1, step, if_neg (hv q hq), List.append_nil]
              exact L4.lst q hq
            · obtain rfl : q = (o.py, M) := by simpa using hq
              rw [upd_same, step, if_pos rfl, L4.off _ hv]; rfl
          · intro x hx
            have h1 : ∀ q ∈ ls, q.1 ≠ x := fun q hq => hx q (List.mem_append_left _ hq)
            have h2 : o.py ≠ x := hx (o.py, M) (by simp)
            rw [step, if_neg (Ne.symm h2), L4.off x h1]; rfl
      · rintro σ H2 ⟨K2, ls, v2, v3, L, _, rfl⟩
        rw [List.length_map, hO.len] at L
        exact ⟨_, rfl, q p ls H2 K2 L⟩
    · refine ⟨_, (pss_cons (ps_set (i := 1) sc__places_by_payer.nd rfl (Or.inl rfl) pe_dnewK)
      (pss_cons (ps_for PassesOwn.never rfl (pi_enumT (by rfl) T.z_enumerate (pa_cons (pv 0) pa_nil)) (pg_tup rfl (pgs_cons (pg_name (i := 2) sc__places_by_payer.nd rfl (Or.inl rfl)) (pgs_cons (pg_name (i := 3) sc__places_by_payer.nd rfl (Or.inl rfl)) pgs_nil))) (pss_one (ps_expr (pe_bm PySem.F.plainAttrs_list PySem.F.slot_list_append PySem.F.type_list_append mt_append (pe_dsetd (pv 1) (pe_ix ix_tup (pv 3) pe_int (fun _ _ => rfl)) (pe_lst pa_nil) ⟨rfl, rfl, rfl, rfl⟩) (pa_cons (pv 2) pa_nil)))))
      (pss_one (ps_ret (pv 1))))), ?_⟩
      refine fun p hp => ?_
      refine ⟨_, rfl, po, _, rfl, SqT.of (Keep.upd_new (ds := []) hp _ _ ho (by simp)), for_it (walk_enumT (K := K) (a := po) (xs := rs.map V.ref)) (fun i σ H2 => Keep [] H H2 ∧ ∃ ls v2 v3, LeftAt H H2 p ls (at_ os (fun _ => true) i) ∧ ls.length ≤ i ∧ σ = [some (.ref po), some (.ref p), v2, v3]) ⟨Keep.upd_new hp, [], none, none, ⟨upd_same, hp, by simp, by simp, by simp, by simp, fun _ _ => rfl⟩, Nat.le_refl _, rfl⟩ (fun i σ H2 _ ⟨k, _⟩ => SqT.of (k _ _ ho (by simp))) ?_ ?_⟩
      · rintro i x σ H2 H3 hi ⟨K2, ls, v2, v3, L, lls, rfl⟩ ⟨T', a, b, rfl, hT, rfl, ea, eb⟩
        rw [List.length_map, hO.len] at hi
        have eb : (rs.map V.ref)[i]? = some b := eb
        obtain rfl : V.int (i : Nat) = a := Option.some.inj ea
        obtain ⟨r, hr1, hr2⟩ := (hO.keep K2).at (List.getElem?_eq_getElem hi)
        rw [List.getElem?_map, hr1] at eb
        obtain rfl : V.ref r = b := Option.some.inj eb
        generalize eo : os[i] = o at hr2
        have hoi : os[i]? = some o := by rw [List.getElem?_eq_getElem hi, eo]
        have KT := Keep.upd_new (ds := []) hT (o := .tup [V.int (i : Nat), .ref r])
        have hr3 := KT _ _ hr2 (by simp)
        have L3 := L.keep KT
        have K3 := K2.trans KT
        have sT : SqT K (upd H2 T' (.tup [V.int (i : Nat), .ref r])) T' [V.int (i : Nat), .ref r] := SqT.of upd_same
        generalize upd H2 T' (.tup [V.int (i : Nat), .ref r]) = H3 at hr3 L3 K3 sT
        refine ⟨T', _, rfl, sT, rfl, _, _, rfl, _, _, rfl, rfl, ?_⟩
        have step : ∀ x, at_ os (fun _ => true) (i + 1) x = at_ os (fun _ => true) i x ++ if x = o.py then [i] else [] := at_succ hoi rfl
        have zs : (at_ os (fun _ => true) i o.py).length ≤ i := by
          have := List.length_filter_le (fun j => (fun _ => true) j && decide (payer os j = some o.py)) (List.range i)
          rw [List.length_range] at this; exact this
        refine ⟨_, rfl, p, rfl, .inl ⟨_, .inl L3.ha⟩, _, rfl, r, _, 1, _, rfl, rfl, SqT.of hr3, rfl, ?_⟩
        refine ⟨Nat.zero_le _, fun M hM => ?_⟩
        have L4 := L3.keep (Keep.upd_new (ds := []) hM (o := .lst []))
        have K4 := K3.trans (Keep.upd_new (o := .lst []) hM)
        have hM0 := K3.none_of hM (by simp)
        have hMs : (upd H3 M (.lst [])) M = some (.lst []) := upd_same
        have pM : p ≠ M := ne_of_none L3.ha hM
        have lM : ∀ q ∈ ls, q.2 ≠ M := fun q hq => ne_of_none (L3.lst q hq) hM
        generalize upd H3 M (.lst []) = H4 at L4 K4 hMs
        refine ⟨kvA ls, Sum.inr o.py, L4.ha, rfl, by unfold kvA; rw [List.length_map]; omega, fun v hv => ?_, fun hv => ?_⟩
        · rw [valV_kvA] at hv
          obtain ⟨b, hb, rfl⟩ := Option.map_eq_some_iff.mp hv
          have hb := mem_lookA hb
          refine ⟨.inl ⟨rfl, _, SqL.of (L4.lst _ hb)⟩, _, rfl, b, _, _, rfl, rfl, L4.lst _ hb, by rw [List.length_map]; show (at_ os (fun _ => true) i o.py).length < _; omega, ?_⟩
          have e0 : ((at_ os (fun _ => true) i o.py).map fun i : Nat => V.int i) ++ [V.int (i : Nat)] = ((at_ os (fun _ => true) i o.py) ++ [i]).map fun i : Nat => V.int i := by rw [List.map_append]; rfl
          rw [e0]
          refine ⟨K4.trans_new (L4.nw _ hb), ls, _, _, L4.set hb (by rw [step, if_pos rfl]) (fun y hy => by rw [step, if_neg hy, List.append_nil]), by omega, rfl⟩
        · rw [valV_kvA, Option.map_eq_none_iff] at hv
          rw [putK_kvA hv]
          have hv := lookA_none.mp hv
          refine ⟨.inl ⟨rfl, _, SqL.of (by rw [upd_ne pM.symm]; exact hMs)⟩, _, rfl, M, [], _, rfl, rfl, by rw [upd_ne pM.symm]; exact hMs, by show 0 < sizeLine; omega, ?_⟩
          refine ⟨(K4.trans_new L4.na).trans_new hM0, ls ++ [(o.py, M)], _, _, ⟨?_, L4.na, ?_, ?_, ?_, ?_, ?_⟩, by simp; omega, rfl⟩
          · rw [upd_ne pM]; exact upd_same
          · have nd := List.nodup_cons.mp L4.nd
            rw [List.map_append, ← List.cons_append]
            refine List.nodup_append.mpr ⟨L4.nd, by simp, fun a ha b hb => ?_⟩
            obtain rfl : b = M := by simpa using hb
            rcases List.mem_cons.mp ha with rfl | ha
            · exact pM
            · obtain ⟨q, hq, rfl⟩ := List.mem_map.mp ha
              exact lM q hq
          · rw [List.map_append]
            refine List.nodup_append.mpr ⟨L4.nk, by simp, fun a ha b hb => ?_⟩
            obtain rfl : b = o.py := by simpa using hb
            obtain ⟨q, hq, rfl⟩ := List.mem_map.mp ha
            exact hv q hq
          · intro q hq
            rcases List.mem_append.mp hq with hq | hq
            · exact L4.nw q hq
            · obtain rfl : q = (o.py, M) := by simpa using hq
              exact hM0
          · intro q hq
            rcases List.mem_append.mp hq with hq | hq
            · have n1 : q.2 ≠ p := fun e => (List.nodup_cons.mp L4.nd).1 (List.mem_map.mpr ⟨q, hq, e⟩)
              rw [upd_ne (lM q hq), upd_ne n1, step, if_neg (hv q hq), List.append_nil]
              exact L4.lst q hq
            · obtain rfl : q = (o.py, M) := by simpa using hq
              rw [upd_same, step, if_pos rfl, L4.off _ hv]; rfl
          · intro x hx
            have h1 : ∀ q ∈ ls, q.1 ≠ x := fun q hq => hx q (List.mem_append_left _ hq)
            have h2 : o.py ≠ x := hx (o.py, M) (by simp)
            rw [step, if_neg (Ne.symm h2), L4.off x h1]; rfl
      · rintro σ H2 ⟨K2, ls, v2, v3, L, _, rfl⟩
        rw [List.length_map, hO.len] at L
        exact ⟨_, rfl, q p ls H2 K2 L⟩
def First (h : DI) (v : V) : Prop := (v = .non ∧ ∀ p ∈ h, 0 ≤ p.2) ∨ ∃ p ∈ h, v = .str p.1 ∧ p.2 < 0
def sp_first : Sp := fun vs H Q _ => ∃ pd h, vs = [.ref pd] ∧ H pd = some (.dK (kvI h)) ∧ ∀ v H', Keep [] H H' → First h v → Q v H'
theorem p_first_below (T : Txt K mg) : Pr P w K mg base "first_below" s_first_below ["have"] 1 sp_first := by
  obtain ⟨f, fd, D⟩ := T.d_first_below
  
  refine ⟨f, fd, D, D.F.ok sc_first_below (fun vs H Q E h => ?_) (fun cdv A outer s H vs Q E hr h => ?_)⟩
  · obtain ⟨a, b, rfl, _⟩ := h; rfl
  · obtain ⟨pd, h, rfl, hd, q⟩ := h
    have hu := hu_of hr
    refine ⟨_, (pss_cons (ps_lock (ps_for PassesOwn.never rfl (pi_items (pv 0)) (pg_tup rfl (pgs_cons (pg_name (i := 1) sc_first_below.nd rfl (Or.inl rfl)) (pgs_cons (pg_name (i := 2) sc_first_below.nd rfl (Or.inl rfl)) pgs_nil))) (pss_one (ps_if (pt_cmpR op_lt (pv 2) pe_int (nomark _)) (pss_one (ps_ret (pv 1))) pss_nil))))
      (pss_one (ps_ret pe_non))), ?_⟩
    refine ⟨pd, _, hd, trivial, fun od => ⟨_, rfl, pd, od, _, rfl, upd_same, for_it walk_items (fun i σ H2 => Keep [] (upd H pd (.frz od (.dK (kvI h)))) H2 ∧ (∀ p ∈ h.take i, 0 ≤ p.2) ∧ ∃ v1 v2, σ = [some (.ref pd), v1, v2]) ⟨Keep.refl, by simp, none, none, rfl⟩ (fun i σ H2 _ ⟨k, _⟩ => k _ _ upd_same (by simp)) ?_ ?_⟩⟩
    · rintro i x σ H2 H3 hi ⟨K2, hn, v1, v2, rfl⟩ ⟨T', a, b, rfl, hT, rfl, ea, eb⟩
      have hi' : i < h.length := by unfold kvI at hi; rw [List.length_map] at hi; exact hi
      obtain ⟨p, hp⟩ : ∃ p, h[i]? = some p := ⟨h[i], List.getElem?_eq_getElem hi'⟩
      have pm := List.mem_of_getElem? hp
      have ek : (kvI h)[i]? = some (Sum.inr p.1, V.int p.2) := by unfold kvI; rw [List.getElem?_map, hp]; rfl
      have ea : ((kvI h)[i]?).map (fun kv => kV kv.1) = some a := ea
      have eb : ((kvI h)[i]?).map Prod.snd = some b := eb
      rw [ek] at ea eb
      obtain rfl : V.str p.1 = a := Option.some.inj ea
      obtain rfl : V.int p.2 = b := Option.some.inj eb
      have K3 := K2.trans (Keep.upd_new hT (o := .tup [V.str p.1, .int p.2]))
      refine ⟨T', _, rfl, SqT.of upd_same, rfl, _, _, rfl, _, _, rfl, rfl, ?_⟩
      generalize upd H2 T' (.tup [V.str p.1, .int p.2]) = H3 at K3
      refine ⟨_, rfl, _, _, rfl, rfl, _, rfl, ?_⟩
      refine ite2 (fun c => ?_) fun c => ?_
      · have c : p.2 < 0 := of_decide_eq_true c
        refine ⟨_, rfl, K3 _ _ upd_same (by simp), q _ _ (Keep.unlock hd K3) (.inr ⟨p, pm, rfl, c⟩)⟩
      · have c : ¬ p.2 < 0 := of_decide_eq_false (eq_false_of_ne_true c)
        refine ⟨K3, fun p' hp' => ?_, _, _, rfl⟩
        rw [take_succ_of hp] at hp'
        rcases List.mem_append.mp hp' with hp' | hp'
        · exact hn p' hp'
        · obtain rfl : p' = p := by simpa using hp'
          omega
    · rintro σ H2 ⟨K2, hn, v1, v2, rfl⟩
      have hl : (kvI h).length = h.length := by unfold kvI; rw [List.length_map]
      rw [hl, List.take_length] at hn
      exact ⟨K2 _ _ upd_same (by simp), q _ _ (Keep.unlock hd K2) (.inl ⟨rfl, hn⟩)⟩
def sp_undo : Sp := fun vs H Q _ => ∃ pd h r o, vs = [.ref pd, .ref r] ∧ H pd = some (.dK (kvI h)) ∧ H r = some (.tup (vals o)) ∧ (lookI h o.py).isSome = true ∧ (lookI h o.pe).isSome = true ∧ h.length ≤ 2000 ∧ ∀ H', Keep [pd] H H' → H' pd = some (.dK (kvI (backI h o))) → Q .non H'
theorem p__undo (T : Txt K mg) : Pr P w K mg base "_undo" s__undo ["have", "order"] 1 sp_undo := by
  obtain ⟨f, fd, D⟩ := T.d__undo
  
  refine ⟨f, fd, D, D.F.ok sc__undo (fun vs H Q E h => ?_) (fun cdv A outer s H vs Q E hr h => ?_)⟩
  · obtain ⟨a, b, c, d, rfl, _⟩ := h; rfl
  · obtain ⟨pd, h, r, o, rfl, hd, ho, p1, p2, l, q⟩ := h
    have hu := hu_of hr
    have hsl : sizeLine = 16777216 := sizeLine_eq
    obtain ⟨g1, e1⟩ := Option.isSome_iff_exists.mp p1
    have f1 : getI h o.py = g1 := by unfold getI; rw [e1]; rfl
    refine ⟨_, (pss_cons (ps_asg (pe_slice sl_tupA (pv 1) (po_some pe_int) (po_some pe_int)) (pg_tup rfl (pgs_cons (pg_name (i := 2) sc__undo.nd rfl (Or.inl rfl)) (pgs_cons (pg_name (i := 3) sc__undo.nd rfl (Or.inl rfl)) (pgs_cons (pg_name (i := 4) sc__undo.nd rfl (Or.inl rfl)) pgs_nil)))))
      (pss_cons (ps_daug hu (pv 0) (pv 2) (pv 4) in_add (fun _ _ _ => rfl))
      (pss_one (ps_daug hu (pv 0) (pv 3) (pv 4) in_sub (fun _ _ _ => rfl))))), ?_⟩
    refine ⟨_, rfl, _, rfl, _, rfl, slA_all ho fun T' H3 K3 h3 => ?_⟩
    rw [vals_cut] at h3
    refine ⟨T', _, rfl, SqT.of h3, rfl, _, _, rfl, _, _, rfl, _, _, rfl, rfl, ?_⟩
    have h23 := K3 _ _ hd (by simp)
    refine ⟨_, rfl, _, rfl, pd, _, rfl, e1 ▸ get_kvI h23, _, rfl, _, _, rfl, rfl, _, DPutS h23 (by unfold kvI; rw [List.length_map]; omega), ?_⟩
    have e3 : putK (kvI h) (Sum.inr o.py) (.int (g1 + o.m)) = kvI (putI h o.py (getI h o.py + o.m)) := by rw [f1]; exact putK_kvI
    rw [e3]
    have l1 := len_put (h := h) (n := o.py) (v := getI h o.py + o.m)
    have K4 : Keep [pd] H (upd H3 pd (.dK (kvI (putI h o.py (getI h o.py + o.m))))) := (K3.mono (by simp)).trans (Keep.upd_in (by simp))
    have h4 : (upd H3 pd (.dK (kvI (putI h o.py (getI h o.py + o.m))))) pd = _ := upd_same
    obtain ⟨g2, e2⟩ : ∃ g2, lookI (putI h o.py (getI h o.py + o.m)) o.pe = some g2 := by
      rw [lookI_put]
      split
      · exact ⟨_, rfl⟩
      · exact Option.isSome_iff_exists.mp p2
    have f2 : getI (putI h o.py (getI h o.py + o.m)) o.pe = g2 := by unfold getI at e2 ⊢; rw [e2]; rfl
    have eb : backI h o = putI (putI h o.py (getI h o.py + o.m)) o.pe (getI (putI h o.py (getI h o.py + o.m)) o.pe - o.m) := rfl
    rw [eb] at q
    generalize putI h o.py (getI h o.py + o.m) = g at K4 h4 l1 q e2 f2
    generalize upd H3 pd (.dK (kvI g)) = H4 at K4 h4
    refine ⟨_, rfl, _, rfl, pd, _, rfl, e2 ▸ get_kvI h4, _, rfl, _, _, rfl, rfl, _, DPutS h4 (by unfold kvI; rw [List.length_map]; omega), ?_⟩
    have e4 : putK (kvI g) (Sum.inr o.pe) (.int (g2 - o.m)) = kvI (putI g o.pe (getI g o.pe - o.m)) := by rw [f2]; exact putK_kvI
    rw [e4]
    exact q _ (K4.trans (Keep.upd_in (by simp))) upd_same
end
end My
set_option Elab.async false
set_option maxRecDepth 100000
set_option maxHeartbeats 800000
namespace My
open PySem L2 TL
/-! what the sums by names say -/
structure HaveOk (fr : DI) (os : List O) (P : Nat → Bool) (h : DI) : Prop where
  nd : (h.map (·.1)).Nodup
  ks : ∀ o ∈ os, (lookI h o.py).isSome = true ∧ (lookI h o.pe).isSome = true
  len : h.length ≤ 1200
  eq : ∀ n, getI h n = bal fr os P n
theorem look_put {h : DI} {n k : Str} {v : Int} (e : (lookI h k).isSome = true) : (lookI (putI h n v) k).isSome = true := by
  rw [lookI_put]; split
  · rfl
  · exact e
theorem len_put_in {h : DI} {n : Str} {v : Int} (e : (lookI h n).isSome = true) : (putI h n v).length = h.length := by
  obtain ⟨u, hu⟩ := Option.isSome_iff_exists.mp e
  have hm := mem_lookI hu
  unfold putI
  rw [if_pos (List.any_eq_true.mpr ⟨_, hm, by simp⟩), List.length_map]
theorem fold_get {fr : DI} {os : List O} (ok : ∀ o ∈ os, OkO o) (n : Str) : ∀ k, k ≤ os.length → getI ((os.take k).foldl stepI fr) n = getI fr n + ((List.range k).map (flowAt os · n)).sum
  | 0, _ => by simp
  | k + 1, h => by
    have ih := fold_get (fr := fr) ok n k (by omega)
    have hk : os[k]? = some os[k] := List.getElem?_eq_getElem (by omega)
    rw [fold_snoc hk, getI_step (ok _ (List.getElem_mem _)).ne, ih, List.range_succ, List.map_append, List.sum_append]
    have : flowAt os k n = flow os[k] n := by unfold flowAt; rw [hk]
    simp only [List.map_cons, List.map_nil, List.sum_cons, List.sum_nil, this]
    omega
theorem fold_keys {fr : DI} {os : List O} : ∀ k, k ≤ os.length → (∀ i o, i < k → os[i]? = some o → (lookI ((os.take k).foldl stepI fr) o.py).isSome = true ∧ (lookI ((os.take k).foldl stepI fr) o.pe).isSome = true)
  | 0, _ => fun _ _ h => absurd h (Nat.not_lt_zero _)
  | k + 1, h => by
    intro i o hi ho
    have hk : os[k]? = some os[k] := List.getElem?_eq_getElem (by omega)
    rw [fold_snoc hk]
    have ih := fold_keys (fr := fr) (os := os) k (by omega)
    unfold stepI
    by_cases e : i = k
    · subst e
      rw [hk] at ho
      obtain rfl := Option.some.inj ho
      refine ⟨look_put ?_, ?_⟩
      · rw [lookI_put, if_pos rfl]; rfl
      · rw [lookI_put, if_pos rfl]; rfl
    · obtain ⟨a, b⟩ := ih i o (by omega) ho
      exact ⟨look_put (look_put a), look_put (look_put b)⟩
theorem fold_nd {fr : DI} (nd : (fr.map (·.1)).Nodup) : ∀ os : List O, ((os.foldl stepI fr).map (·.1)).Nodup := by
  intro os
  induction os generalizing fr with
  | nil => exact nd
  | cons o r ih => exact ih (fr := stepI fr o) (nodup_put (nodup_put nd))
theorem HaveOk.start {fr : DI} {os : List O} (F : OkF fr) (ok : ∀ o ∈ os, OkO o) (l : os.length ≤ 60) : HaveOk fr os (fun _ => true) (os.foldl stepI fr) := by
  refine ⟨fold_nd F.nd os, fun o ho => ?_, ?_, fun n => ?_⟩
  · obtain ⟨i, hi, e⟩ := List.mem_iff_getElem.mp ho
    have := fold_keys (fr := fr) (os := os) os.length (Nat.le_refl _) i o hi (by rw [List.getElem?_eq_getElem hi, e])
    rwa [List.take_length] at this
  · have := fold_len (fr := fr) os
    have := F.size
    omega
  · have := fold_get (fr := fr) ok n os.length (Nat.le_refl _)
    rw [List.take_length] at this
    rw [this]
    unfold bal sumP
    simp
theorem HaveOk.back {fr : DI} {os : List O} {P : Nat → Bool} {h : DI} {l : Nat} {o : O} (k : HaveOk fr os P h) (ho : os[l]? = some o) (ne : o.py ≠ o.pe) (hp : P l = true) : HaveOk fr os (rm P l) (backI h o) := by
  have hl := (List.getElem?_eq_some_iff.mp ho).1
  have om := List.mem_of_getElem? ho
  refine ⟨nodup_put (nodup_put k.nd), fun o' ho' => ⟨look_put (look_put (k.ks o' ho').1), look_put (look_put (k.ks o' ho').2)⟩, ?_, fun n => ?_⟩
  · have a := len_put_in (v := getI h o.py + o.m) (k.ks o om).1
    have b : (putI h o.py (getI h o.py + o.m)).length = h.length := a
    show (putI _ _ _).length ≤ 1200
    rw [len_put_in (look_put (k.ks o om).2), b]; exact k.len
  · rw [getI_back ne, k.eq, bal_rm hl hp]
    have : flowAt os l n = flow o n := by unfold flowAt; rw [ho]
    rw [this]
theorem HaveOk.neg {fr : DI} {os : List O} {P : Nat → Bool} {h : DI} (k : HaveOk fr os P h) {p : Str × Int} (hp : p ∈ h) (hn : p.2 < 0) : bal fr os P p.1 < 0 := by
  rw [← k.eq]
  unfold getI
  rw [lookI_mem k.nd (show (p.1, p.2) ∈ h from hp)]; exact hn
theorem HaveOk.nn {fr : DI} {os : List O} {P : Nat → Bool} {h : DI} (k : HaveOk fr os P h) (a : ∀ p ∈ h, 0 ≤ p.2) (n : Str) : 0 ≤ bal fr os P n := by
  rw [← k.eq]
  unfold getI
  cases e : lookI h n with
  | none => exact Int.le_refl 0
  | some v => exact a _ (mem_lookI e)
theorem Walk.mem {fr : DI} {os : List O} {P E : Nat → Bool} {w : List Nat} (h : Walk fr os P w E) : ∀ i, E i = (P i && !decide (i ∈ w)) := by
  induction h with
  | nil => intro i; simp
  | cons g _ ih =>
    rename_i P E l x w _
    intro i
    rw [ih i]
    unfold rm
    by_cases e : i = l
    · subst e; simp
    · simp [e]
theorem Walk.lt {fr : DI} {os : List O} {P E : Nat → Bool} {w : List Nat} (h : Walk fr os P w E) : ∀ i ∈ w, i < os.length := by
  induction h with
  | nil => simp
  | cons g _ ih =>
    intro i hi
    rcases List.mem_cons.mp hi with rfl | hi
    · exact g.lt
    · exact ih i hi
theorem Walk.room {fr : DI} {os : List O} {E : Nat → Bool} {w : List Nat} (h : Walk fr os (fun _ => true) w E) : w.length + ((List.range os.length).filter E).length = os.length := by
  have := h.perm.length_eq
  rw [List.length_append] at this
  rw [← this, List.filter_eq_self.mpr (fun _ _ => rfl), List.length_range]
/-- the last of a payer's places, and the others -/
theorem at_last {fr : DI} {os : List O} {P : Nat → Bool} {x : Str} (F : OkF fr) (ok : ∀ o ∈ os, OkO o) (hb : bal fr os P x < 0) : ∃ ini l, at_ os P os.length x = ini ++ [l] ∧ Goes fr os P l x ∧ at_ os (rm P l) os.length x = ini ∧ ∀ y, y ≠ x → at_ os (rm P l) os.length y = at_ os P os.length y := by
  have ne : at_ os P os.length x ≠ [] := by
    obtain ⟨i, hi, hp, hy⟩ := below_has ok (F.get x) hb
    exact List.ne_nil_of_mem (List.mem_filter.mpr ⟨List.mem_range.mpr hi, by simp [hp, hy]⟩)
  obtain ⟨ini, l, e⟩ : ∃ ini l, at_ os P os.length x = ini ++ [l] := ⟨_, _, (List.dropLast_concat_getLast ne).symm⟩
  have hm : l ∈ at_ os P os.length x := by rw [e]; simp
  obtain ⟨h1, h2⟩ := List.mem_filter.mp hm
  simp only [Bool.and_eq_true, decide_eq_true_eq] at h2
  have srt : (at_ os P os.length x).Pairwise (· < ·) := List.Pairwise.filter _ List.pairwise_lt_range
  rw [e] at srt
  have lt : ∀ i ∈ ini, i < l := fun i hi => (List.pairwise_append.mp srt).2.2 i hi l (by simp)
  refine ⟨ini, l, e, ⟨List.mem_range.mp h1, h2.1, h2.2, fun i hi hp hy => ?_, hb⟩, ?_, fun y hy => ?_⟩
  · have : i ∈ at_ os P os.length x := List.mem_filter.mpr ⟨List.mem_range.mpr hi, by simp [hp, hy]⟩
    rw [e] at this
    rcases List.mem_append.mp this with h | h
    · exact Nat.le_of_lt (lt i h)
    · simp at h; omega
  · have : at_ os (rm P l) os.length x = (at_ os P os.length x).filter fun i => !decide (i = l) := by
      unfold at_
      rw [List.filter_filter]
      refine List.filter_congr fun i _ => ?_
      unfold rm
      cases P i <;> cases decide (payer os i = some x) <;> cases decide (i = l) <;> rfl
    rw [this, e, List.filter_append]
    have e1 : ini.filter (fun i => !decide (i = l)) = ini := List.filter_eq_self.mpr fun i hi => by have := lt i hi; simp; omega
    rw [e1]; simp
  · refine List.filter_congr fun i _ => ?_
    unfold rm
    by_cases e : i = l
    · subst e
      have : ¬ payer os i = some y := fun z => hy (by rw [h2.2] at z; exact (Option.some.inj z).symm)
      simp [this]
    · simp [e]
theorem Great.of {fr : DI} {os : List O} {P : Nat → Bool} (cl : Closed os P) (ov : Over fr os P) (nn : ∀ n, 0 ≤ bal fr os P n) : Great fr os P := ⟨⟨cl, nn⟩, ov⟩
theorem less_rm {fr : DI} {os : List O} {P : Nat → Bool} {l : Nat} {x : Str} (ok : ∀ o ∈ os, OkO o) (g : Goes fr os P l x) (cl : Closed os P) (ov : Over fr os P) : Closed os (rm P l) ∧ Over fr os (rm P l) :=
  ⟨Closed.less (fr := fr) cl (R := fun i => decide (i = l)) fun _ hk => ⟨x, of_decide_eq_true hk ▸ g⟩, Over.less ok ov (R := fun i => decide (i = l)) fun _ hk => ⟨x, of_decide_eq_true hk ▸ g⟩⟩
theorem all_over {fr : DI} {os : List O} : Closed os (fun _ => true) ∧ Over fr os (fun _ => true) := ⟨fun _ _ _ _ _ _ => rfl, fun _ _ _ _ _ => rfl⟩
end My
set_option Elab.async false
set_option maxRecDepth 100000
set_option maxHeartbeats 800000
namespace My
open PySem L2 TL
section
variable {P : Program} {w : World} {K : PySem.W.Frag} {mg : Str → Option Value} {base : Heap}
abbrev nats (l : List Nat) : List V := l.map fun i : Nat => V.int i
theorem LeftAt.weak {H0 H1 H : Hp} {a ls f} (L : LeftAt H1 H a ls f) (k : Keep [] H0 H1) : LeftAt H0 H a ls f :=
  { L with na := k.none_of L.na (by simp), nw := fun p hp => k.none_of (L.nw p hp) (by simp) }
theorem LeftAt.keepD {H0 H H' : Hp} {a ls f} {ds : List Addr} (L : LeftAt H0 H a ls f) (k : Keep ds H H') (h : a ∉ ds) (h2 : ∀ p ∈ ls, p.2 ∉ ds) : LeftAt H0 H' a ls f :=
  { L with ha := k _ _ L.ha h, lst := fun p hp => k _ _ (L.lst p hp) (h2 p hp) }
theorem get_kvA {H : Hp} {a : Addr} {h : List (Str × Addr)} {n : Str} (e : H a = some (.dK (kvA h))) : DGet H a (.str n) ((lookA h n).map V.ref) := valV_kvA ▸ DGet.k (k := Sum.inr n) e
theorem inV_nat (i : Nat) : ∀ w : List Nat, inV (V.int (i : Nat)) (nats w) = decide (i ∈ w)
  | [] => rfl
  | j :: r => by
    have e := inV_nat i r
    unfold inV nats at e ⊢
    rw [List.map_cons, List.any_cons, e]
    show (decide ((j : Int) = (i : Int)) || decide (i ∈ r)) = _
    by_cases h : i = j
    · subst h; simp
    · have : ¬ (j : Int) = (i : Int) := by omega
      rw [decide_eq_false this]; simp [h]
theorem all_flat_nat (w : List Nat) : (nats w).all flatV = true := by
  rw [List.all_eq_true]; intro v hv
  obtain ⟨z, _, rfl⟩ := List.mem_map.mp hv; rfl
theorem nats_last {ini : List Nat} {l : Nat} : (nats (ini ++ [l]))[(nats (ini ++ [l])).length - 1]? = some (.int l) ∧ (nats (ini ++ [l])).dropLast = nats ini := by
  unfold nats
  rw [List.map_append]
  refine ⟨?_, by simp⟩
  simp
def sp_great : Sp := fun vs H Q _ => ∃ pf po fr os, vs = [.ref pf, .ref po] ∧ H pf = some (.dK (kvI fr)) ∧ LotAt H po os ∧ OkF fr ∧ (∀ o ∈ os, OkO o) ∧ os.length ≤ 60 ∧
  ∀ R pL pW P w H', Keep [] H H' → H' R = some (.tup [.ref pL, .ref pW]) → H' pL = some (.lst (nats ((List.range os.length).filter P))) → H pL = none → H' pW = some (.tup (nats w)) → Walk fr os (fun _ => true) w P → Great fr os P → Q (.ref R) H'
theorem p_greatest (T : Txt K mg) : Pr P w K mg base "greatest" s_greatest ["free", "orders"] 6 sp_great := by
  obtain ⟨f, fd, D⟩ := T.d_greatest
  obtain ⟨f_first_below, fd_first_below, D_first_below, G_first_below⟩ := p_first_below (P := P) (w := w) (base := base) T; obtain ⟨f__undo, fd__undo, D__undo, G__undo⟩ := p__undo (P := P) (w := w) (base := base) T; obtain ⟨f__places_by_payer, fd__places_by_payer, D__places_by_payer, G__places_by_payer⟩ := p__places_by_payer (P := P) (w := w) (base := base) T; obtain ⟨f_have_by_all, fd_have_by_all, D_have_by_all, G_have_by_all⟩ := p_have_by_all (P := P) (w := w) (base := base) T; obtain ⟨f_look_at_round, fd_look_at_round, D_look_at_round, G_look_at_round⟩ := p_look_at_round (P := P) (w := w) (base := base) T; obtain ⟨t_MOST_ORDERS, g_MOST_ORDERS⟩ := T.g_MOST_ORDERS
  refine ⟨f, fd, D, D.F.ok sc_greatest (fun vs H Q E h => ?_) (fun cdv A outer s H vs Q E hr h => ?_)⟩
  · obtain ⟨a, b, c, d, rfl, _⟩ := h; rfl
  · obtain ⟨pf, po, fr, os, rfl, hf, hL, F, G, l60, q⟩ := h
    have hsl : sizeLine = 16777216 := sizeLine_eq
    have hu := hu_of hr
    obtain ⟨rs, ho, hO⟩ := id hL
    rcases ho with ho | ho
    · refine ⟨_, (pss_cons (ps_expr (pe_call G_look_at_round (hr.mono (by decide)) rfl D_look_at_round.m D_look_at_round.F.kp D_look_at_round.b .nil pass0 (pa_cons (pv 0) (pa_cons (pv 1) (pa_cons (pe_glob (v := .int 60) rfl g_MOST_ORDERS ⟨_, rfl⟩) pa_nil)))))
      (pss_cons (ps_set (i := 2) sc_greatest.nd rfl (Or.inl rfl) (pe_call G_have_by_all (hr.mono (by decide)) rfl D_have_by_all.m D_have_by_all.F.kp D_have_by_all.b .nil pass0 (pa_cons (pv 0) (pa_cons (pv 1) pa_nil))))
      (pss_cons (ps_set (i := 3) sc_greatest.nd rfl (Or.inl rfl) (pe_call G__places_by_payer (hr.mono (by decide)) rfl D__places_by_payer.m D__places_by_payer.F.kp D__places_by_payer.b .nil pass0 (pa_cons (pv 1) pa_nil)))
      (pss_cons (ps_set (i := 4) sc_greatest.nd rfl (Or.inr rfl) (pe_lst pa_nil))
      (pss_cons (ps_set (i := 5) sc_greatest.nd rfl (Or.inl rfl) (pe_call G_first_below (hr.mono (by decide)) rfl D_first_below.m D_first_below.F.kp D_first_below.b .nil pass0 (pa_cons (pv 2) pa_nil)))
      (pss_cons (ps_while PassesOwn.never (pt_cmpR op_notN (pv 5) pe_non (nomark _)) (pss_cons (ps_set (i := 6) sc_greatest.nd rfl (Or.inl rfl) (pe_bm0 PySem.F.plainAttrs_list PySem.F.slot_list_pop PySem.F.type_list_pop mt_pop (pe_dget hu (pv 3) (pv 5) (fun _ _ => rfl))))
      (pss_cons (ps_expr (pe_call G__undo (hr.mono (by decide)) rfl D__undo.m D__undo.F.kp D__undo.b .nil pass0 (pa_cons (pv 2) (pa_cons (pe_ix ix_list (pv 1) (pv 6) (fun _ _ => rfl)) pa_nil))))
      (pss_cons (ps_expr (pe_bm PySem.F.plainAttrs_list PySem.F.slot_list_append PySem.F.type_list_append mt_append (pv 4) (pa_cons (pv 6) pa_nil)))
      (pss_one (ps_set (i := 5) sc_greatest.nd rfl (Or.inl rfl) (pe_call G_first_below (hr.mono (by decide)) rfl D_first_below.m D_first_below.F.kp D_first_below.b .nil pass0 (pa_cons (pv 2) pa_nil))))))))
      (pss_cons (ps_setLc (i := 7) (own := [("place", 6)]) (g := gName 6) rfl sc_greatest.nd rfl rfl (sw_true rfl rfl rfl (by decide +kernel)) (pi_range1 rfl T.z_range (pa_cons (pe_callB call_len_seq (by rfl) T.z_len (by decide +kernel) (pa_cons (pv 1) pa_nil)) pa_nil)) (blkOk_by (own := [("place", 6)]) (N := N_greatest) (sc := defScope s_greatest) (by decide +kernel)) (fun _ _ _ _ _ => (pg_name (i := 6) sc_greatest.nd rfl (Or.inl rfl))) (fun _ _ _ _ _ => pts_one (pt_cmpR (op_notIn_seqK (K := K) rfl) (pv 6) (pv 4) (by rfl))) (fun _ _ _ _ _ => (pv 6)))
      (pss_one (ps_ret (pe_tup (pa_cons (pv 7) (pa_cons (pe_callTy call_tuple_of (by rfl) T.z_tuple (by decide +kernel) (pa_cons (pv 4) pa_nil)) pa_nil)))))))))))), ?_⟩
      refine ⟨_, rfl, _, rfl, pf, po, fr, os, rfl, hf, hL, F, G, l60, fun H1 K1 => ?_⟩
      have hf1 := K1 _ _ hf (by simp)
      have hL1 := hL.keep K1
      refine ⟨_, rfl, _, rfl, pf, po, fr, os, rfl, hf1, hL1, F, l60, fun ph H2 hph K2 h2 => ?_⟩
      have hL2 := hL1.keep K2
      have hph0 := K1.none_of hph (by simp)
      have K02 := K1.trans K2
      refine ⟨_, rfl, po, os, rfl, hL2, l60, fun pl ls H3 K3 L3 => ?_⟩
      have h3 := K3 _ _ h2 (by simp)
      refine ⟨Nat.zero_le _, fun pw hpw => ?_⟩
      have nhp : ph ≠ pl := ne_of_none h2 L3.na
      have pw3 : ∀ q ∈ ls, q.2 ≠ pw := fun q hq => ne_of_none (L3.lst q hq) hpw
      have L3 := (L3.weak K02).keep (Keep.upd_new (ds := []) hpw (o := .lst []))
      have K03 : Keep [] H (upd H3 pw (.lst [])) := (K02.trans K3).trans (Keep.upd_new hpw)
      have h3 : (upd H3 pw (.lst [])) ph = _ := Keep.upd_new (ds := []) hpw _ _ h3 (by simp)
      have hw3 : (upd H3 pw (.lst [])) pw = some (.lst (nats [])) := upd_same
      have hpw0 := (K02.trans K3).none_of hpw (by simp)
      generalize upd H3 pw (.lst []) = H4 at L3 K03 h3 hw3
      refine ⟨_, rfl, ph, _, rfl, h3, fun vb H5 K5 fst => ?_⟩
      have nhl : ∀ q ∈ ls, q.2 ≠ ph := fun q hq => ne_of (L3.lst q hq) h3 (by intro z; cases z)
      have hst := HaveOk.start F G l60
      have inv : ∀ {P h v}, HaveOk fr os P h → First h v → (v = .non ∧ ∀ n, 0 ≤ bal fr os P n) ∨ ∃ x, v = .str x ∧ bal fr os P x < 0 := fun k f => f.imp (fun ⟨a, b⟩ => ⟨a, k.nn b⟩) fun ⟨p, hp, a, b⟩ => ⟨p.1, a, k.neg hp b⟩
      refine ⟨fun m σ H6 => ∃ P w h vb v6 v7, σ = [some (.ref pf), some (.ref po), some (.ref ph), some (.ref pl), some (.ref pw), some vb, v6, v7] ∧ m = os.length - w.length ∧ Keep [] H H6 ∧ H6 ph = some (.dK (kvI h)) ∧ HaveOk fr os P h ∧ LeftAt H H6 pl ls (at_ os P os.length) ∧ H6 pw = some (.lst (nats w)) ∧ Walk fr os (fun _ => true) w P ∧ Closed os P ∧ Over fr os P ∧ ((vb = .non ∧ ∀ n, 0 ≤ bal fr os P n) ∨ ∃ x, vb = .str x ∧ bal fr os P x < 0), ⟨_, fun _ => true, [], _, vb, none, none, rfl, rfl, K03.trans K5, K5 _ _ h3 (by simp), hst, L3.keep K5, K5 _ _ hw3 (by simp), .nil, (all_over (fr := fr)).1, all_over.2, inv hst fst⟩, ?_⟩
      rintro m σ H6 ⟨P, w, h, vb, v6, v7, rfl, rfl, K6, h6, hv, L6, w6, wk, cl, ov, hb⟩
      refine ⟨_, rfl, rfl, ?_⟩
      rcases hb with ⟨rfl, nn⟩ | ⟨x, rfl, hx⟩
      · refine ⟨false, rfl, iteF ?_⟩
        have lr := hO.len
        refine ⟨_, rfl, po, _, rfl, .inl (SqL.of (K6 _ _ ho (by simp))), _, rfl, by rw [List.length_map]; omega, by rw [List.length_map]; omega, fun L hL => ?_⟩
        have en : (((rs.map V.ref).length : Nat) : Int).toNat = os.length := by rw [List.length_map, lr]; omega
        have w7 : (upd H6 L (.lst [])) pw = _ := Keep.upd_new (ds := []) hL _ _ w6 (by simp)
        have K7 : Keep [] H6 (upd H6 L (.lst [])) := Keep.upd_new hL
        refine lc_range (lo := 0) (n := (((rs.map V.ref).length : Nat) : Int).toNat) (fun i H8 => Keep [] H6 H8 ∧ H8 L = some (.lst (nats ((List.range i).filter fun j => !decide (j ∈ w))))) ⟨K7, upd_same⟩ ?_ ?_
        · rintro i H8 hi ⟨K8, h8⟩
          rw [en] at hi
          refine ⟨rfl, _, rfl, _, rfl, pw, _, rfl, .inl (SqL.of (K8 _ _ w6 (by simp))), rfl, all_flat_nat w, _, rfl, ?_⟩
          have ei : inV (V.int (0 + (i : Nat))) (nats w) = decide (i ∈ w) := by rw [Int.zero_add]; exact inV_nat i w
          rw [ei, List.range_succ, List.filter_append]
          cases hd : decide (i ∈ w) with
          | true => refine iteF ⟨K8, ?_⟩; simp only [List.filter_cons, hd]; simpa using h8
          | false =>
            refine iteT ⟨_, rfl, _, h8, ?_, K8.trans_new hL, ?_⟩
            · rw [List.length_map]
              refine Nat.lt_of_le_of_lt (List.length_filter_le _ _) ?_
              rw [List.length_range]; omega
            · rw [upd_same]; simp only [List.filter_cons, hd]; simp [nats]
        · rintro H8 ⟨K8, h8⟩
          rw [en] at h8
          have ef : (List.range os.length).filter (fun j => !decide (j ∈ w)) = (List.range os.length).filter P := List.filter_congr fun i _ => by rw [wk.mem i, Bool.true_and]
          rw [ef] at h8
          have K08 := K6.trans K8
          refine ⟨_, rfl, _, rfl, pw, _, rfl, .inl ⟨SqL.of (K8 _ _ w6 (by simp)), fun W hW => ⟨by show 2 ≤ sizeLine; omega, fun R hR => ?_⟩⟩⟩
          have K9 := K08.trans (Keep.upd_new hW (o := .tup (nats w)))
          have h9 := Keep.upd_new (ds := []) hW (o := .tup (nats w)) _ _ h8 (by simp)
          have K10 := K9.trans (Keep.upd_new hR (o := .tup [.ref L, .ref W]))
          have hWR : W ≠ R := ne_of_none upd_same hR
          exact q R L W P w _ K10 upd_same (Keep.upd_new (ds := []) hR _ _ h9 (by simp)) (K6.none_of hL (by simp)) (by rw [upd_ne hWR]; exact upd_same) wk (Great.of cl ov nn)
      · obtain ⟨ini, l, e1, gs, e2, e3⟩ := at_last F G hx
        have hne : at_ os P os.length x ≠ [] := by rw [e1]; simp
        obtain ⟨b, hb1, hb2, hb3⟩ := L6.get hne
        rw [e1] at hb3
        obtain ⟨o, hol⟩ : ∃ o, os[l]? = some o := ⟨_, List.getElem?_eq_getElem gs.lt⟩
        have om := List.mem_of_getElem? hol
        have hbp : b ≠ ph := nhl _ hb2
        have hbw : b ≠ pw := pw3 _ hb2
        refine ⟨true, rfl, iteT ⟨_, fun _ _ q => q, ?_⟩⟩
        have dg : DGet H6 pl (.str x) (some (.ref b)) := by
          have := get_kvA (n := x) L6.ha
          rw [hb1] at this; exact this
        refine ⟨_, rfl, _, rfl, pl, .ref b, rfl, dg, .inl ⟨rfl, _, SqL.of hb3⟩, b, _, _, rfl, rfl, hb3, nats_last.1, ?_⟩
        rw [nats_last.2]
        have L7 := L6.set hb2 e2 e3
        have K7 : Keep [] H (upd H6 b (.lst (nats ini))) := K6.trans_new (L6.nw _ hb2)
        have h7 : (upd H6 b (.lst (nats ini))) ph = some (.dK (kvI h)) := by rw [upd_ne hbp.symm]; exact h6
        have w7 : (upd H6 b (.lst (nats ini))) pw = some (.lst (nats w)) := by rw [upd_ne hbw.symm]; exact w6
        have L7 : LeftAt H (upd H6 b (.lst (nats ini))) pl ls (at_ os (rm P l) os.length) := L7
        generalize upd H6 b (.lst (nats ini)) = H7 at K7 h7 w7 L7
        obtain ⟨r, hr1, hr2⟩ := (hO.keep K7).at hol
        have hrr : (rs.map V.ref)[l]? = some (.ref r) := by rw [List.getElem?_map, hr1]; rfl
        refine ⟨_, rfl, _, rfl, _, rfl, po, _, l, _, rfl, rfl, SqL.of (K7 _ _ ho (by simp)), atI_nat hrr, ?_⟩
        refine ⟨ph, h, r, o, rfl, h7, hr2, (hv.ks o om).1, (hv.ks o om).2, by have := hv.len; omega, fun H8 K8 h8 => ?_⟩
        have L8 := L7.keepD K8 (by simpa using nhp.symm) fun q hq => by simpa using nhl q hq
        have npw : pw ≠ ph := ne_of w7 h7 (by intro z; cases z)
        have npl : pw ≠ pl := ne_of w7 L7.ha (by intro z; cases z)
        have w8 := K8 _ _ w7 (by simpa using npw)
        have K08 : Keep [] H H8 := Keep.base K7 K8 fun d hd => by simp at hd; subst hd; exact hph0
        have room := wk.room
        have wl : w.length < os.length := by
          have : 0 < ((List.range os.length).filter P).length := List.length_pos_of_mem (List.mem_filter.mpr ⟨List.mem_range.mpr gs.lt, gs.hp⟩)
          omega
        refine ⟨_, rfl, .inl ⟨rfl, _, SqL.of w8⟩, _, rfl, pw, _, _, rfl, rfl, w8, by rw [List.length_map]; omega, ?_⟩
        have ew : nats w ++ [V.int (l : Nat)] = nats (w ++ [l]) := by unfold nats; rw [List.map_append]; rfl
        rw [ew]
        have L9 := L8.keepD (Keep.upd_in (ds := [pw]) (p := pw) (o := .lst (nats (w ++ [l]))) (by simp)) (by simpa using npl.symm) fun q hq => by simpa using pw3 q hq
        have K09 : Keep [] H (upd H8 pw (.lst (nats (w ++ [l])))) := K08.trans_new hpw0
        have h9 : (upd H8 pw (.lst (nats (w ++ [l])))) ph = _ := Keep.upd_in (ds := [pw]) (by simp) _ _ h8 (by simpa using npw.symm)
        have w9 : (upd H8 pw (.lst (nats (w ++ [l])))) pw = _ := upd_same
        generalize upd H8 pw (.lst (nats (w ++ [l]))) = H9 at L9 K09 h9 w9
        refine ⟨_, rfl, ph, _, rfl, h9, fun vb2 H10 K10 fst2 => ?_⟩
        have hv' := hv.back hol (G o om).ne gs.hp
        have lr := less_rm G gs cl ov
        refine ⟨_, ?_, rm P l, w ++ [l], backI h o, vb2, _, _, rfl, rfl, K09.trans K10, K10 _ _ h9 (by simp), hv', L9.keep K10, K10 _ _ w9 (by simp), wk.snoc gs, lr.1, lr.2, inv hv' fst2⟩
        simp; omega
    · refine ⟨_, (pss_cons (ps_expr (pe_call G_look_at_round (hr.mono (by decide)) rfl D_look_at_round.m D_look_at_round.F.kp D_look_at_round.b .nil pass0 (pa_cons (pv 0) (pa_cons (pv 1) (pa_cons (pe_glob (v := .int 60) rfl g_MOST_ORDERS ⟨_, rfl⟩) pa_nil)))))
      (pss_cons (ps_set (i := 2) sc_greatest.nd rfl (Or.inl rfl) (pe_call G_have_by_all (hr.mono (by decide)) rfl D_have_by_all.m D_have_by_all.F.kp D_have_by_all.b .nil pass0 (pa_cons (pv 0) (pa_cons (pv 1) pa_nil))))
      (pss_cons (ps_set (i := 3) sc_greatest.nd rfl (Or.inl rfl) (pe_call G__places_by_payer (hr.mono (by decide)) rfl D__places_by_payer.m D__places_by_payer.F.kp D__places_by_payer.b .nil pass0 (pa_cons (pv 1) pa_nil)))
      (pss_cons (ps_set (i := 4) sc_greatest.nd rfl (Or.inr rfl) (pe_lst pa_nil))
      (pss_cons (ps_set (i := 5) sc_greatest.nd rfl (Or.inl rfl) (pe_call G_first_below (hr.mono (by decide)) rfl D_first_below.m D_first_below.F.kp D_first_below.b .nil pass0 (pa_cons (pv 2) pa_nil)))
      (pss_cons (ps_while PassesOwn.never (pt_cmpR op_notN (pv 5) pe_non (nomark _)) (pss_cons (ps_set (i := 6) sc_greatest.nd rfl (Or.inl rfl) (pe_bm0 PySem.F.plainAttrs_list PySem.F.slot_list_pop PySem.F.type_list_pop mt_pop (pe_dget hu (pv 3) (pv 5) (fun _ _ => rfl))))
      (pss_cons (ps_expr (pe_call G__undo (hr.mono (by decide)) rfl D__undo.m D__undo.F.kp D__undo.b .nil pass0 (pa_cons (pv 2) (pa_cons (pe_ix ix_tup (pv 1) (pv 6) (fun _ _ => rfl)) pa_nil))))
      (pss_cons (ps_expr (pe_bm PySem.F.plainAttrs_list PySem.F.slot_list_append PySem.F.type_list_append mt_append (pv 4) (pa_cons (pv 6) pa_nil)))
      (pss_one (ps_set (i := 5) sc_greatest.nd rfl (Or.inl rfl) (pe_call G_first_below (hr.mono (by decide)) rfl D_first_below.m D_first_below.F.kp D_first_below.b .nil pass0 (pa_cons (pv 2) pa_nil))))))))
      (pss_cons (ps_setLc (i := 7) (own := [("place", 6)]) (g := gName 6) rfl sc_greatest.nd rfl rfl (sw_true rfl rfl rfl (by decide +kernel)) (pi_range1 rfl T.z_range (pa_cons (pe_callB call_len_seq (by rfl) T.z_len (by decide +kernel) (pa_cons (pv 1) pa_nil)) pa_nil)) (blkOk_by (own := [("place", 6)]) (N := N_greatest) (sc := defScope s_greatest) (by decide +kernel)) (fun _ _ _ _ _ => (pg_name (i := 6) sc_greatest.nd rfl (Or.inl rfl))) (fun _ _ _ _ _ => pts_one (pt_cmpR (op_notIn_seqK (K := K) rfl) (pv 6) (pv 4) (by rfl))) (fun _ _ _ _ _ => (pv 6)))
      (pss_one (ps_ret (pe_tup (pa_cons (pv 7) (pa_cons (pe_callTy call_tuple_of (by rfl) T.z_tuple (by decide +kernel) (pa_cons (pv 4) pa_nil)) pa_nil)))))))))))), ?_⟩
      refine ⟨_, rfl, _, rfl, pf, po, fr, os, rfl, hf, hL, F, G, l60, fun H1 K1 => ?_⟩
      have hf1 := K1 _ _ hf (by simp)
      have hL1 := hL.keep K1
      refine ⟨_, rfl, _, rfl, pf, po, fr, os, rfl, hf1, hL1, F, l60, fun ph H2 hph K2 h2 => ?_⟩
      have hL2 := hL1.keep K2
      have hph0 := K1.none_of hph (by simp)
      have K02 := K1.trans K2
      refine ⟨_, rfl, po, os, rfl, hL2, l60, fun pl ls H3 K3 L3 => ?_⟩
      have h3 := K3 _ _ h2 (by simp)
      refine ⟨Nat.zero_le _, fun pw hpw => ?_⟩
      have nhp : ph ≠ pl := ne_of_none h2 L3.na
      have pw3 : ∀ q ∈ ls, q.2 ≠ pw := fun q hq => ne_of_none (L3.lst q hq) hpw
      have L3 := (L3.weak K02).keep (Keep.upd_new (ds := []) hpw (o := .lst []))
      have K03 : Keep [] H (upd H3 pw (.lst [])) := (K02.trans K3).trans (Keep.upd_new hpw)
      have h3 : (upd H3 pw (.lst [])) ph = _ := Keep.upd_new (ds := []) hpw _ _ h3 (by simp)
      have hw3 : (upd H3 pw (.lst [])) pw = some (.lst (nats [])) := upd_same
      have hpw0 := (K02.trans K3).none_of hpw (by simp)
      generalize upd H3 pw (.lst []) = H4 at L3 K03 h3 hw3
      refine ⟨_, rfl, ph, _, rfl, h3, fun vb H5 K5 fst => ?_⟩
      have nhl : ∀ q ∈ ls, q.2 ≠ ph := fun q hq => ne_of (L3.lst q hq) h3 (by intro z; cases z)
      have hst := HaveOk.start F G l60
      have inv : ∀ {P h v}, HaveOk fr os P h → First h v → (v = .non ∧ ∀ n, 0 ≤ bal fr os P n) ∨ ∃ x, v = .str x ∧ bal fr os P x < 0 := fun k f => f.imp (fun ⟨a, b⟩ => ⟨a, k.nn b⟩) fun ⟨p, hp, a, b⟩ => ⟨p.1, a, k.neg hp b⟩
      refine ⟨fun m σ H6 => ∃ P w h vb v6 v7, σ = [some (.ref pf), some (.ref po), some (.ref ph), some (.ref pl), some (.ref pw), some vb, v6, v7] ∧ m = os.length - w.length ∧ Keep [] H H6 ∧ H6 ph = some (.dK (kvI h)) ∧ HaveOk fr os P h ∧ LeftAt H H6 pl ls (at_ os P os.length) ∧ H6 pw = some (.lst (nats w)) ∧ Walk fr os (fun _ => true) w P ∧ Closed os P ∧ Over fr os P ∧ ((vb = .non ∧ ∀ n, 0 ≤ bal fr os P n) ∨ ∃ x, vb = .str x ∧ bal fr os P x < 0), ⟨_, fun _ => true, [], _, vb, none, none, rfl, rfl, K03.trans K5, K5 _ _ h3 (by simp), hst, L3.keep K5, K5 _ _ hw3 (by simp), .nil, (all_over (fr := fr)).1, all_over.2, inv hst fst⟩, ?_⟩
      rintro m σ H6 ⟨P, w, h, vb, v6, v7, rfl, rfl, K6, h6, hv, L6, w6, wk, cl, ov, hb⟩
      refine ⟨_, rfl, rfl, ?_⟩
      rcases hb with ⟨rfl, nn⟩ | ⟨x, rfl, hx⟩
      · refine ⟨false, rfl, iteF ?_⟩
        have lr := hO.len
        refine ⟨_, rfl, po, _, rfl, .inr (SqT.of (K6 _ _ ho (by simp))), _, rfl, by rw [List.length_map]; omega, by rw [List.length_map]; omega, fun L hL => ?_⟩
        have en : (((rs.map V.ref).length : Nat) : Int).toNat = os.length := by rw [List.length_map, lr]; omega
        have w7 : (upd H6 L (.lst [])) pw = _ := Keep.upd_new (ds := []) hL _ _ w6 (by simp)
        have K7 : Keep [] H6 (upd H6 L (.lst [])) := Keep.upd_new hL
        refine lc_range (lo := 0) (n := (((rs.map V.ref).length : Nat) : Int).toNat) (fun i H8 => Keep [] H6 H8 ∧ H8 L = some (.lst (nats ((List.range i).filter fun j => !decide (j ∈ w))))) ⟨K7, upd_same⟩ ?_ ?_
        · rintro i H8 hi ⟨K8, h8⟩
          rw [en] at hi
          refine ⟨rfl, _, rfl, _, rfl, pw, _, rfl, .inl (SqL.of (K8 _ _ w6 (by simp))), rfl, all_flat_nat w, _, rfl, ?_⟩
          have ei : inV (V.int (0 + (i : Nat))) (nats w) = decide (i ∈ w) := by rw [Int.zero_add]; exact inV_nat i w
          rw [ei, List.range_succ, List.filter_append]
          cases hd : decide (i ∈ w) with
          | true => refine iteF ⟨K8, ?_⟩; simp only [List.filter_cons, hd]; simpa using h8
          | false =>
            refine iteT ⟨_, rfl, _, h8, ?_, K8.trans_new hL, ?_⟩
            · rw [List.length_map]
              refine Nat.lt_of_le_of_lt (List.length_filter_le _ _) ?_
              rw [List.length_range]; omega
            · rw [upd_same]; simp only [List.filter_cons, hd]; simp [nats]
        · rintro H8 ⟨K8, h8⟩
          rw [en] at h8
          have ef : (List.range os.length).filter (fun j => !decide (j ∈ w)) = (List.range os.length).filter P := List.filter_congr fun i _ => by rw [wk.mem i, Bool.true_and]
          rw [ef] at h8
          have K08 := K6.trans K8
          refine ⟨_, rfl, _, rfl, pw, _, rfl, .inl ⟨SqL.of (K8 _ _ w6 (by simp)), fun W hW => ⟨by show 2 ≤ sizeLine; omega, fun R hR => ?_⟩⟩⟩
          have K9 := K08.trans (Keep.upd_new hW (o := .tup (nats w)))
          have h9 := Keep.upd_new (ds := []) hW (o := .tup (nats w)) _ _ h8 (by simp)
          have K10 := K9.trans (Keep.upd_new hR (o := .tup [.ref L, .ref W]))
          have hWR : W ≠ R := ne_of_none upd_same hR
          exact q R L W P w _ K10 upd_same (Keep.upd_new (ds := []) hR _ _ h9 (by simp)) (K6.none_of hL (by simp)) (by rw [upd_ne hWR]; exact upd_same) wk (Great.of cl ov nn)
      · obtain ⟨ini, l, e1, gs, e2, e3⟩ := at_last F G hx
        have hne : at_ os P os.length x ≠ [] := by rw [e1]; simp
        obtain ⟨b, hb1, hb2, hb3⟩ := L6.get hne
        rw [e1] at hb3
        obtain ⟨o, hol⟩ : ∃ o, os[l]? = some o := ⟨_, List.getElem?_eq_getElem gs.lt⟩
        have om := List.mem_of_getElem? hol
        have hbp : b ≠ ph := nhl _ hb2
        have hbw : b ≠ pw := pw3 _ hb2
        refine ⟨true, rfl, iteT ⟨_, fun _ _ q => q, ?_⟩⟩
        have dg : DGet H6 pl (.str x) (some (.ref b)) := by
          have := get_kvA (n := x) L6.ha
          rw [hb1] at this; exact this
        refine ⟨_, rfl, _, rfl, pl, .ref b, rfl, dg, .inl ⟨rfl, _, SqL.of hb3⟩, b, _, _, rfl, rfl, hb3, nats_last.1, ?_⟩
        rw [nats_last.2]
        have L7 := L6.set hb2 e2 e3
        have K7 : Keep [] H (upd H6 b (.lst (nats ini))) := K6.trans_new (L6.nw _ hb2)
        have h7 : (upd H6 b (.lst (nats ini))) ph = some (.dK (kvI h)) := by rw [upd_ne hbp.symm]; exact h6
        have w7 : (upd H6 b (.lst (nats ini))) pw = some (.lst (nats w)) := by rw [upd_ne hbw.symm]; exact w6
        have L7 : LeftAt H (upd H6 b (.lst (nats ini))) pl ls (at_ os (rm P l) os.length) := L7
        generalize upd H6 b (.lst (nats ini)) = H7 at K7 h7 w7 L7
        obtain ⟨r, hr1, hr2⟩ := (hO.keep K7).at hol
        have hrr : (rs.map V.ref)[l]? = some (.ref r) := by rw [List.getElem?_map, hr1]; rfl
        refine ⟨_, rfl, _, rfl, _, rfl, po, _, l, _, rfl, rfl, SqT.of (K7 _ _ ho (by simp)), atI_nat hrr, ?_⟩
        refine ⟨ph, h, r, o, rfl, h7, hr2, (hv.ks o om).1, (hv.ks o om).2, by have := hv.len; omega, fun H8 K8 h8 => ?_⟩
        have L8 := L7.keepD K8 (by simpa using nhp.symm) fun q hq => by simpa using nhl q hq
        have npw : pw ≠ ph := ne_of w7 h7 (by intro z; cases z)
        have npl : pw ≠ pl := ne_of w7 L7.ha (by intro z; cases z)
        have w8 := K8 _ _ w7 (by simpa using npw)
        have K08 : Keep [] H H8 := Keep.base K7 K8 fun d hd => by simp at hd; subst hd; exact hph0
        have room := wk.room
        have wl : w.length < os.length := by
          have : 0 < ((List.range os.length).filter P).length := List.length_pos_of_mem (List.mem_filter.mpr ⟨List.mem_range.mpr gs.lt, gs.hp⟩)
          omega
        refine ⟨_, rfl, .inl ⟨rfl, _, SqL.of w8⟩, _, rfl, pw, _, _, rfl, rfl, w8, by rw [List.length_map]; omega, ?_⟩
        have ew : nats w ++ [V.int (l : Nat)] = nats (w ++ [l]) := by unfold nats; rw [List.map_append]; rfl
        rw [ew]
        have L9 := L8.keepD (Keep.upd_in (ds := [pw]) (p := pw) (o := .lst (nats (w ++ [l]))) (by simp)) (by simpa using npl.symm) fun q hq => by simpa using pw3 q hq
        have K09 : Keep [] H (upd H8 pw (.lst (nats (w ++ [l])))) := K08.trans_new hpw0
        have h9 : (upd H8 pw (.lst (nats (w ++ [l])))) ph = _ := Keep.upd_in (ds := [pw]) (by simp) _ _ h8 (by simpa using npw.symm)
        have w9 : (upd H8 pw (.lst (nats (w ++ [l])))) pw = _ := upd_same
        generalize upd H8 pw (.lst (nats (w ++ [l]))) = H9 at L9 K09 h9 w9
        refine ⟨_, rfl, ph, _, rfl, h9, fun vb2 H10 K10 fst2 => ?_⟩
        have hv' := hv.back hol (G o om).ne gs.hp
        have lr := less_rm G gs cl ov
        refine ⟨_, ?_, rm P l, w ++ [l], backI h o, vb2, _, _, rfl, rfl, K09.trans K10, K10 _ _ h9 (by simp), hv', L9.keep K10, K10 _ _ w9 (by simp), wk.snoc gs, lr.1, lr.2, inv hv' fst2⟩
        simp; omega
end
end My
set_option Elab.async false
set_option maxRecDepth 100000
set_option maxHeartbeats 800000
namespace My
open PySem L2 TL StX
/-! numbers in lists -/
def dnat (l : List Nat) : List PyData := l.map fun i : Nat => PyData.int i
theorem dpAll_nat {K : PySem.W.Frag} {H : Hp} : ∀ l : List Nat, DpAll K H (nats l) (dnat l)
  | [] => .nil
  | _ :: r => .cons (.int _) (dpAll_nat r)
theorem eqvAll_nat : ∀ l m : List Nat, PyData.eqvAll (dnat l) (dnat m) = decide (l = m)
  | [], [] => by simp [dnat, PyData.eqvAll]
  | [], _ :: _ => by simp [dnat, PyData.eqvAll]
  | _ :: _, [] => by simp [dnat, PyData.eqvAll]
  | i :: l, j :: m => by
    have ih := eqvAll_nat l m
    unfold dnat at ih ⊢
    rw [List.map_cons, List.map_cons, PyData.eqvAll, ih, PyData.eqv]
    by_cases h : i = j
    · subst h; simp
    · have : ((i : Int) == (j : Int)) = false := beq_eq_false_iff_ne.mpr (by omega)
      rw [this]; simp [h]
theorem eqv_nat (l m : List Nat) : PyData.eqv (.list (dnat l)) (.list (dnat m)) = decide (l = m) := by rw [PyData.eqv]; exact eqvAll_nat l m
theorem can_nat : ∀ l : List Nat, PyData.canLayAll0 (dnat l) = true ∧ PyData.depthAll (dnat l) = 0
  | [] => by simp [dnat, PyData.canLayAll0, PyData.depthAll]
  | i :: r => by
    have ih := can_nat r
    unfold dnat at ih ⊢
    rw [List.map_cons, PyData.canLayAll0, PyData.depthAll, ih.1, ih.2]
    simp [PyData.canLay0, PyData.depth]
theorem shaped_nat (l : List Nat) : SeqAt.shaped (.list (dnat l)) = true := by
  unfold SeqAt.shaped
  rw [PyData.canLay0, PyData.depth, (can_nat l).1, (can_nat l).2]; rfl
theorem Dp_nat {K : PySem.W.Frag} {H : Hp} {a : Addr} {l : List Nat} (h : SqL K H a (nats l)) : Dp K H (.ref a) (.list (dnat l)) := .lst h (dpAll_nat l)
theorem rgV_nat (n : Nat) : rgV 0 (n : Nat) = nats (List.range n) := by
  unfold rgV nats
  have : ((n : Int) - 0).toNat = n := by omega
  rw [this]
  exact List.map_congr_left fun i _ => by rw [Int.zero_add]
theorem ints_nats {ns : List Int} : ∀ {l : List Nat}, ns.Perm (l.map fun i : Nat => (i : Int)) → ∃ m : List Nat, ns = m.map (fun i : Nat => (i : Int)) ∧ m.Perm l := fun {l} h => by
  refine ⟨ns.map Int.toNat, ?_, ?_⟩
  · rw [List.map_map]
    refine Eq.symm ((List.map_congr_left fun i hi => ?_).trans (List.map_id _))
    obtain ⟨j, _, rfl⟩ := List.mem_map.mp (h.subset hi)
    show ((Int.toNat (j : Int) : Nat) : Int) = _
    rw [Int.toNat_natCast]; rfl
  · have := h.map Int.toNat
    rw [List.map_map] at this
    have e : l.map (Int.toNat ∘ fun i : Nat => (i : Int)) = l := by
      refine (List.map_congr_left fun i _ => ?_).trans (List.map_id _)
      show Int.toNat (i : Int) = _
      rw [Int.toNat_natCast]; rfl
    rw [e] at this; exact this
/-- sorted of places -/
theorem sorted_nat {K : PySem.W.Frag} {H : Hp} {a : Addr} {l s : List Nat} {Q : VK} (h : SqL K H a (nats l)) (hl : l.length < 64) (hp : l.Perm s) (hs : s.Pairwise (· ≤ ·)) (q : ∀ p, H p = none → Q (.ref p) (upd H p (.lst (nats s)))) : rSorted K [.ref a] H Q := by
  have e : nats l = (l.map fun i : Nat => (i : Int)).map V.int := by rw [List.map_map]; rfl
  refine ⟨a, l.map fun i : Nat => (i : Int), rfl, e ▸ h, by rw [List.length_map]; exact hl, fun ns p pm so hp0 => ?_⟩
  obtain ⟨m, rfl, pm2⟩ := ints_nats pm
  have : m = s := by
    refine List.Perm.eq_of_pairwise (le := (· ≤ ·)) (fun a b _ _ h1 h2 => Nat.le_antisymm h1 h2) ?_ hs (pm2.trans hp)
    refine (List.pairwise_map.mp so).imp fun h => by omega
  subst this
  rw [List.map_map]
  exact q p hp0
theorem range_sorted (n : Nat) : (List.range n).Pairwise (· ≤ ·) := List.pairwise_le_range
section
variable {P : Program} {w : World} {K : PySem.W.Frag} {mg : Str → Option Value} {base : Heap}
theorem noArg {σ : L2.St} {H : Hp} {F : List V → Hp → Prop} (h : F [] H) : tNil σ H F := h
def sp_pair : Sp := fun vs H Q _ => ∃ R a b, vs = [.ref R] ∧ H R = some (.tup [a, b]) ∧ Q (.bl true) H
theorem p_is_pair (T : Txt K mg) : Pr P w K mg base "is_pair" s_is_pair ["thing"] 1 sp_pair := by
  obtain ⟨f, fd, D⟩ := T.d_is_pair
  
  refine ⟨f, fd, D, D.F.ok sc_is_pair (fun vs H Q E h => ?_) (fun cdv A outer s H vs Q E hr h => ?_)⟩
  · obtain ⟨a, b, c, rfl, _⟩ := h; rfl
  · obtain ⟨R, a, b, rfl, hR, q⟩ := h
    refine ⟨_, (pss_one (ps_ret (pe_and (pe_callB call_isi (by rfl) T.z_isinstance (by decide +kernel) (pa_cons (pv 0) (pa_cons (pe_bltn (by rfl) T.z_tuple (by decide +kernel) (v := .ty "tuple") rfl) pa_nil))) (pe_one (pe_cmpR op_eq (pe_callB call_len_seq (by rfl) T.z_len (by decide +kernel) (pa_cons (pv 0) pa_nil)) pe_int (nomark _)))))), ?_⟩
    refine ⟨_, rfl, _, _, _, _, true, rfl, .ty _, .base (.tup hR), kit_ty (by decide +kernel), ?_⟩
    refine ⟨_, rfl, ?_⟩
    show ite (true = true) _ _
    exact iteT ⟨_, rfl, R, _, rfl, .inr (SqT.of hR), rfl, q⟩
def sp_parts : Sp := fun vs H Q _ => ∃ R pL pW l w n, vs = [.ref R, .int (n : Nat)] ∧ H R = some (.tup [.ref pL, .ref pW]) ∧ H pL = some (.lst (nats l)) ∧ H pW = some (.tup (nats w)) ∧ l.Pairwise (· ≤ ·) ∧ (l ++ w).Perm (List.range n) ∧ n ≤ 60 ∧ ∀ H', Keep [] H H' → Q (.bl true) H'
theorem p__parts_places (T : Txt K mg) : Pr P w K mg base "_parts_places" s__parts_places ["told", "many"] 2 sp_parts := by
  obtain ⟨f, fd, D⟩ := T.d__parts_places
  obtain ⟨f_is_number, fd_is_number, D_is_number, G_is_number⟩ := p_is_number (P := P) (w := w) (base := base) T; obtain ⟨f_is_pair, fd_is_pair, D_is_pair, G_is_pair⟩ := p_is_pair (P := P) (w := w) (base := base) T
  refine ⟨f, fd, D, D.F.ok sc__parts_places (fun vs H Q E h => ?_) (fun cdv A outer s H vs Q E hr h => ?_)⟩
  · obtain ⟨a, b, c, d, e, n, rfl, _⟩ := h; rfl
  · obtain ⟨R, pL, pW, l, pw, n, rfl, hR, hL, hW, so, pm, n60, q⟩ := h
    have hsl : sizeLine = 16777216 := sizeLine_eq
    refine ⟨_, (pss_cons (ps_if (PW.pt (pw_or (pt_not (pt_val (pe_call G_is_pair (hr.mono (by decide)) rfl D_is_pair.m D_is_pair.F.kp D_is_pair.b .nil pass0 (pa_cons (pv 0) pa_nil)))) (pw_or (pt_not (pt_val (pe_callB call_isi (by rfl) T.z_isinstance (by decide +kernel) (pa_cons (pe_ix ix_tup (pv 0) pe_int (fun _ _ => rfl)) (pa_cons (pe_bltn (by rfl) T.z_list (by decide +kernel) (v := .ty "list") rfl) pa_nil))))) (pw_or1 (pt_not (pt_val (pe_callB call_isi (by rfl) T.z_isinstance (by decide +kernel) (pa_cons (pe_ix ix_tup (pv 0) pe_int (fun _ _ => rfl)) (pa_cons (pe_bltn (by rfl) T.z_tuple (by decide +kernel) (v := .ty "tuple") rfl) pa_nil))))))))) (pss_one (ps_ret pe_bl)) pss_nil)
      (pss_cons (ps_asg (pv 0) (pg_tup rfl (pgs_cons (pg_name (i := 2) sc__parts_places.nd rfl (Or.inl rfl)) (pgs_cons (pg_name (i := 3) sc__parts_places.nd rfl (Or.inl rfl)) pgs_nil))))
      (pss_cons (ps_if (pt_not (pt_val (pe_callB (cr_all rfl) (by rfl) T.z_all (by decide +kernel) (pa_cons (pe_lc (own := [("place", 4)]) (g := gName 4) (tt := tYes) rfl sc__parts_places.nd (pi_tup (pe_tup (pa_star (pv 2) (pa_star (pv 3) pa_nil)))) (blkOk_by (own := [("place", 4)]) (N := N__parts_places) (sc := defScope s__parts_places) (by decide +kernel)) (fun _ _ _ _ _ => (pg_name (i := 4) sc__parts_places.nd rfl (Or.inl rfl))) (fun _ _ _ _ _ => pts_nil) (fun _ _ _ _ _ => (pe_call G_is_number (hr.mono (by decide)) rfl D_is_number.m D_is_number.F.kp D_is_number.b .nil pass0 (pa_cons (pv 4) pa_nil)))) pa_nil)))) (pss_one (ps_ret pe_bl)) pss_nil)
      (pss_one (ps_ret (pe_and (pe_cmpR (op_eqD hr.units) (pv 2) (pe_callB cr_sorted (by rfl) T.z_sorted (by decide +kernel) (pa_cons (pv 2) pa_nil)) (nomark _)) (pe_one (pe_cmpR (op_eqD hr.units) (pe_callB cr_sorted (by rfl) T.z_sorted (by decide +kernel) (pa_cons (pe_lst (pa_star (pv 2) (pa_star (pv 3) pa_nil))) pa_nil)) (pe_listRg rfl (by rfl) T.z_list (prg_1 (by rfl) T.z_range (pv 1))) (nomark _))))))))), ?_⟩
    refine ⟨_, rfl, _, _, _, rfl, hR, ?_⟩
    refine ⟨true, rfl, iteF ?_⟩
    refine ⟨_, rfl, R, _, 0, V.ref pL, rfl, rfl, SqT.of hR, rfl, _, _, _, _, true, rfl, .ty _, .base (.lst hL), kit_ty (by decide +kernel), _, rfl, iteF ?_⟩
    refine ⟨_, rfl, R, _, 1, V.ref pW, rfl, rfl, SqT.of hR, rfl, _, _, _, _, true, rfl, .ty _, .base (.tup hW), kit_ty (by decide +kernel), _, rfl, iteF ?_⟩
    refine ⟨_, rfl, R, _, rfl, SqT.of hR, rfl, _, _, rfl, _, _, rfl, rfl, ?_⟩
    have pl := pm.length_eq
    rw [List.length_append, List.length_range] at pl
    have hlen : (nats l ++ (nats pw ++ [])).length = n := by rw [List.append_nil, List.length_append, List.length_map, List.length_map]; exact pl
    refine ⟨_, rfl, pL, _, rfl, .inr (SqL.of hL), _, rfl, pW, _, rfl, .inl (SqT.of hW), by rw [hlen]; omega, fun T hT => ?_⟩
    refine ⟨T, rfl, ⟨_, SqT.of upd_same⟩, fun L hL2 => ?_⟩
    have KT : Keep [] H (upd H T (.tup (nats l ++ (nats pw ++ [])))) := Keep.upd_new hT
    have hT1 : (upd H T (.tup (nats l ++ (nats pw ++ [])))) T = _ := upd_same
    generalize upd H T (.tup (nats l ++ (nats pw ++ []))) = H1 at KT hT1 hL2
    refine lc_tup (K := K) (a := T) (xs := nats l ++ (nats pw ++ [])) (fun i H6 => Keep [] H1 H6 ∧ H6 L = some (.lst ((List.replicate i true).map V.bl))) ⟨Keep.upd_new hL2, upd_same⟩ (fun i H6 _ ⟨k, _⟩ => SqT.of (k _ _ hT1 (by simp))) ?_ ?_
    · rintro i x H6 hx ⟨K6, h6⟩
      have il := (List.getElem?_eq_some_iff.mp hx).1
      rw [hlen] at il
      have : ∃ j : Nat, x = V.int j := by
        have := List.mem_of_getElem? hx
        rw [List.append_nil] at this
        rcases List.mem_append.mp this with h | h <;> (obtain ⟨j, _, rfl⟩ := List.mem_map.mp h; exact ⟨j, rfl⟩)
      obtain ⟨j, rfl⟩ := this
      refine ⟨rfl, tYes_go (yes ?_)⟩
      refine ⟨_, rfl, _, _, rfl, .int _, fun H7 K7 => ?_⟩
      refine ⟨_, K7 _ _ h6 (by simp), ?_, (K6.trans K7).trans_new hL2, ?_⟩
      · rw [List.length_map, List.length_replicate]; omega
      · rw [upd_same, List.replicate_succ', List.map_append]; rfl
    · rintro H6 ⟨K6, h6⟩
      refine ⟨L, _, rfl, SqL.of h6, _, rfl, ?_⟩
      rw [all_rep]
      refine iteF ?_
      have KA := KT.trans K6
      have hL6 := KA _ _ hL (by simp)
      have hW6 := KA _ _ hW (by simp)
      refine ⟨_, rfl, _, rfl, ?_⟩
      refine noArg ?_
      refine sorted_nat (SqL.of hL6) (by omega) (List.Perm.refl _) so fun p1 hp1 => ?_
      have K1 := KA.trans (Keep.upd_new hp1 (o := .lst (nats l)))
      have hL1 := K1 _ _ hL (by simp)
      have hW1 := K1 _ _ hW (by simp)
      have h1 : (upd H6 p1 (.lst (nats l))) p1 = _ := upd_same
      generalize upd H6 p1 (.lst (nats l)) = H7 at K1 hL1 hW1 h1
      refine ⟨_, _, Dp_nat (SqL.of hL1), Dp_nat (SqL.of h1), shaped_nat _, shaped_nat _, ?_⟩
      rw [eqv_nat, decide_eq_true rfl]
      refine ⟨true, rfl, iteT ?_⟩
      refine ⟨_, rfl, pL, _, rfl, .inr (SqL.of hL1), _, rfl, pW, _, rfl, .inl (SqT.of hW1), by rw [hlen]; omega, fun p2 hp2 => ?_⟩
      refine noArg ?_
      have e2 : nats l ++ (nats pw ++ []) = nats (l ++ pw) := by rw [List.append_nil]; unfold nats; rw [List.map_append]
      rw [e2]
      refine sorted_nat (SqL.of upd_same) (by rw [List.length_append]; omega) pm (range_sorted n) fun p3 hp3 => ?_
      have K2 := (K1.trans (Keep.upd_new hp2 (o := .lst (nats (l ++ pw))))).trans (Keep.upd_new hp3 (o := .lst (nats (List.range n))))
      have h3 : (upd (upd H7 p2 (.lst (nats (l ++ pw)))) p3 (.lst (nats (List.range n)))) p3 = _ := upd_same
      generalize upd (upd H7 p2 (.lst (nats (l ++ pw)))) p3 (.lst (nats (List.range n))) = H8 at K2 h3
      refine ⟨_, rfl, _, rfl, RgOk.of_le (by omega) (by omega) (by omega) (by omega), fun p4 hp4 => ?_⟩
      rw [rgV_nat]
      refine ⟨_, _, Dp_nat (SqL.of (Keep.upd_new (ds := []) hp4 _ _ h3 (by simp))), Dp_nat (SqL.of upd_same), shaped_nat _, shaped_nat _, ?_⟩
      rw [eqv_nat, decide_eq_true rfl]
      exact q _ (K2.trans (Keep.upd_new hp4))
end
end My
set_option Elab.async false
set_option maxRecDepth 100000
set_option maxHeartbeats 800000
namespace My
open PySem L2 TL StX
section
variable {P : Program} {w : World} {K : PySem.W.Frag} {mg : Str → Option Value} {base : Heap}
def sp_shows : Sp := fun vs H Q _ => ∃ pf po R pL pW fr os E w, vs = [.ref pf, .ref po, .ref R] ∧ H pf = some (.dK (kvI fr)) ∧ LotAt H po os ∧ OkF fr ∧ (∀ o ∈ os, OkO o) ∧ os.length ≤ 60 ∧
  H R = some (.tup [.ref pL, .ref pW]) ∧ H pL = some (.lst (nats ((List.range os.length).filter E))) ∧ H pW = some (.tup (nats w)) ∧ Walk fr os (fun _ => true) w E ∧ Great fr os E ∧ ∀ H', Keep [] H H' → Q (.bl true) H'
theorem Walk.head {fr : DI} {os : List O} {P E : Nat → Bool} {l : Nat} {w : List Nat} (h : Walk fr os P (l :: w) E) : (∃ x, Goes fr os P l x) ∧ Walk fr os (rm P l) w E := by
  cases h with
  | cons g t => exact ⟨⟨_, g⟩, t⟩
theorem Walk.done {fr : DI} {os : List O} {P E : Nat → Bool} (h : Walk fr os P [] E) : P = E := by
  cases h; rfl
theorem p_shows_greatest (T : Txt K mg) : Pr P w K mg base "shows_greatest" s_shows_greatest ["free", "orders", "told"] 6 sp_shows := by
  obtain ⟨f, fd, D⟩ := T.d_shows_greatest
  obtain ⟨f_first_below, fd_first_below, D_first_below, G_first_below⟩ := p_first_below (P := P) (w := w) (base := base) T; obtain ⟨f__undo, fd__undo, D__undo, G__undo⟩ := p__undo (P := P) (w := w) (base := base) T; obtain ⟨f__places_by_payer, fd__places_by_payer, D__places_by_payer, G__places_by_payer⟩ := p__places_by_payer (P := P) (w := w) (base := base) T; obtain ⟨f_have_by_all, fd_have_by_all, D_have_by_all, G_have_by_all⟩ := p_have_by_all (P := P) (w := w) (base := base) T; obtain ⟨f__parts_places, fd__parts_places, D__parts_places, G__parts_places⟩ := p__parts_places (P := P) (w := w) (base := base) T; obtain ⟨f_look_at_round, fd_look_at_round, D_look_at_round, G_look_at_round⟩ := p_look_at_round (P := P) (w := w) (base := base) T; obtain ⟨t_MOST_ORDERS, g_MOST_ORDERS⟩ := T.g_MOST_ORDERS
  refine ⟨f, fd, D, D.F.ok sc_shows_greatest (fun vs H Q E h => ?_) (fun cdv A outer s H vs Q E hr h => ?_)⟩
  · obtain ⟨a, b, c, d, e, g, h, i, j, rfl, _⟩ := h; rfl
  · obtain ⟨pf, po, R, pL, pW, fr, os, E, w, rfl, hf, hL, F, G, l60, hR, hpL, hpW, wk, gr, q⟩ := h
    have hsl : sizeLine = 16777216 := sizeLine_eq
    have hu := hu_of hr
    obtain ⟨rs, ho, hO⟩ := id hL
    have so : ((List.range os.length).filter E).Pairwise (· ≤ ·) := List.Pairwise.filter _ List.pairwise_le_range
    have pm : ((List.range os.length).filter E ++ w).Perm (List.range os.length) := by
      have := wk.perm
      rw [List.filter_eq_self.mpr (fun _ _ => rfl)] at this
      exact List.perm_append_comm.trans this.symm
    rcases ho with ho | ho
    · refine ⟨_, (pss_cons (ps_expr (pe_call G_look_at_round (hr.mono (by decide)) rfl D_look_at_round.m D_look_at_round.F.kp D_look_at_round.b .nil pass0 (pa_cons (pv 0) (pa_cons (pv 1) (pa_cons (pe_glob (v := .int 60) rfl g_MOST_ORDERS ⟨_, rfl⟩) pa_nil)))))
      (pss_cons (ps_if (pt_not (pt_val (pe_call G__parts_places (hr.mono (by decide)) rfl D__parts_places.m D__parts_places.F.kp D__parts_places.b .nil pass0 (pa_cons (pv 2) (pa_cons (pe_callB call_len_seq (by rfl) T.z_len (by decide +kernel) (pa_cons (pv 1) pa_nil)) pa_nil))))) (pss_one (ps_ret pe_bl)) pss_nil)
      (pss_cons (ps_set (i := 3) sc_shows_greatest.nd rfl (Or.inl rfl) (pe_call G_have_by_all (hr.mono (by decide)) rfl D_have_by_all.m D_have_by_all.F.kp D_have_by_all.b .nil pass0 (pa_cons (pv 0) (pa_cons (pv 1) pa_nil))))
      (pss_cons (ps_set (i := 4) sc_shows_greatest.nd rfl (Or.inl rfl) (pe_call G__places_by_payer (hr.mono (by decide)) rfl D__places_by_payer.m D__places_by_payer.F.kp D__places_by_payer.b .nil pass0 (pa_cons (pv 1) pa_nil)))
      (pss_cons (ps_for PassesOwn.never rfl (pi_tup (pe_ix ix_tup (pv 2) pe_int (fun _ _ => rfl))) (pg_name (i := 5) sc_shows_greatest.nd rfl (Or.inl rfl)) (pss_cons (ps_set (i := 6) sc_shows_greatest.nd rfl (Or.inl rfl) (pe_ix ix_tup (pe_ix ix_list (pv 1) (pv 5) (fun _ _ => rfl)) pe_int (fun _ _ => rfl)))
      (pss_cons (ps_if (PW.pt (pw_or (pt_cmpR op_ne (pe_bm0 PySem.F.plainAttrs_list PySem.F.slot_list_pop PySem.F.type_list_pop mt_pop (pe_dget hu (pv 4) (pv 6) (fun _ _ => rfl))) (pv 5) (nomark _)) (pw_or1 (pt_cmpR op_ge (pe_dget hu (pv 3) (pv 6) (fun _ _ => rfl)) pe_int (nomark _))))) (pss_one (ps_ret pe_bl)) pss_nil)
      (pss_one (ps_expr (pe_call G__undo (hr.mono (by decide)) rfl D__undo.m D__undo.F.kp D__undo.b .nil pass0 (pa_cons (pv 3) (pa_cons (pe_ix ix_list (pv 1) (pv 5) (fun _ _ => rfl)) pa_nil))))))))
      (pss_one (ps_ret (pe_cmpR op_isN (pe_call G_first_below (hr.mono (by decide)) rfl D_first_below.m D_first_below.F.kp D_first_below.b .nil pass0 (pa_cons (pv 3) pa_nil)) pe_non (nomark _))))))))), ?_⟩
      refine ⟨_, rfl, _, rfl, pf, po, fr, os, rfl, hf, hL, F, G, l60, fun H1 K1 => ?_⟩
      refine ⟨_, rfl, _, rfl, po, _, rfl, .inl (SqL.of (K1 _ _ ho (by simp))), ?_⟩
      have lr : (rs.map V.ref).length = os.length := by rw [List.length_map]; exact hO.len
      rw [lr]
      refine ⟨R, pL, pW, _, w, os.length, rfl, K1 _ _ hR (by simp), K1 _ _ hpL (by simp), K1 _ _ hpW (by simp), so, pm, l60, fun H2 K2 => ?_⟩
      refine ⟨_, rfl, iteF ?_⟩
      have K02 := K1.trans K2
      refine ⟨_, rfl, _, rfl, pf, po, fr, os, rfl, K02 _ _ hf (by simp), hL.keep K02, F, l60, fun ph H3 hph K3 h3 => ?_⟩
      have hph0 := K02.none_of hph (by simp)
      have K03 := K02.trans K3
      refine ⟨_, rfl, po, os, rfl, hL.keep K03, l60, fun pl ls H4 K4 L4 => ?_⟩
      have nhp : ph ≠ pl := ne_of_none h3 L4.na
      have h4 := K4 _ _ h3 (by simp)
      have nhl : ∀ q ∈ ls, q.2 ≠ ph := fun q hq => ne_of (L4.lst q hq) h4 (by intro z; cases z)
      have L4 := L4.weak K03
      have K04 := K03.trans K4
      have hst := HaveOk.start F G l60
      refine ⟨_, rfl, R, _, 1, .ref pW, rfl, rfl, SqT.of (K04 _ _ hR (by simp)), rfl, pW, rfl, ⟨_, SqT.of (K04 _ _ hpW (by simp))⟩, ?_⟩
      refine for_tup (K := K) (a := pW) (xs := nats w) (fun i σ H5 => Keep [] H H5 ∧ ∃ P h v5 v6, σ = [some (.ref pf), some (.ref po), some (.ref R), some (.ref ph), some (.ref pl), v5, v6] ∧ H5 ph = some (.dK (kvI h)) ∧ HaveOk fr os P h ∧ LeftAt H H5 pl ls (at_ os P os.length) ∧ Walk fr os P (w.drop i) E) ⟨K04, _, _, none, none, rfl, h4, hst, L4, wk⟩ (fun i σ H5 _ ⟨k, _⟩ => SqT.of (k _ _ hpW (by simp))) ?_ ?_
      · rintro i x σ H6 hx ⟨K6, P, h, v5, v6, rfl, h6, hv, L6, wk6⟩
        have il := (List.getElem?_eq_some_iff.mp hx).1
        rw [List.length_map] at il
        obtain ⟨l, hl⟩ : ∃ l, w[i]? = some l := ⟨_, List.getElem?_eq_getElem il⟩
        rw [List.getElem?_map, hl] at hx
        obtain rfl : V.int (l : Nat) = x := Option.some.inj hx
        rw [show w.drop i = l :: w.drop (i + 1) by rw [List.drop_eq_getElem_cons il]; rw [List.getElem?_eq_getElem il] at hl; rw [Option.some.inj hl]] at wk6
        obtain ⟨⟨x, gs⟩, wk7⟩ := wk6.head
        obtain ⟨ini, l', e1, gs', e2, e3⟩ := at_last F G gs.be
        have ell : l' = l := Nat.le_antisymm (gs.la _ gs'.lt gs'.hp gs'.py) (gs'.la _ gs.lt gs.hp gs.py)
        subst ell
        have hne : at_ os P os.length x ≠ [] := by rw [e1]; simp
        obtain ⟨b, hb1, hb2, hb3⟩ := L6.get hne
        rw [e1] at hb3
        obtain ⟨o, hol⟩ : ∃ o, os[l']? = some o := ⟨_, List.getElem?_eq_getElem gs.lt⟩
        have om := List.mem_of_getElem? hol
        obtain rfl : o.py = x := by have := gs.py; unfold payer at this; rw [hol] at this; exact Option.some.inj this
        have hbp : b ≠ ph := nhl _ hb2
        obtain ⟨r, hr1, hr2⟩ := (hO.keep K6).at hol
        have hrr : (rs.map V.ref)[l']? = some (.ref r) := by rw [List.getElem?_map, hr1]; rfl
        refine ⟨_, rfl, _, rfl, po, _, l', _, rfl, rfl, SqL.of (K6 _ _ ho (by simp)), atI_nat hrr, r, _, 1, _, rfl, rfl, SqT.of hr2, rfl, ?_⟩
        have dg : DGet H6 pl (.str o.py) (some (.ref b)) := by
          have := get_kvA (n := o.py) L6.ha
          rw [hb1] at this; exact this
        refine ⟨_, rfl, _, rfl, pl, .ref b, rfl, dg, .inl ⟨rfl, _, SqL.of hb3⟩, b, _, _, rfl, rfl, hb3, nats_last.1, ?_⟩
        rw [nats_last.2]
        have L7 := L6.set hb2 e2 e3
        have K7 : Keep [] H (upd H6 b (.lst (nats ini))) := K6.trans_new (L6.nw _ hb2)
        have h7 : (upd H6 b (.lst (nats ini))) ph = some (.dK (kvI h)) := by rw [upd_ne hbp.symm]; exact h6
        have hr7 : (upd H6 b (.lst (nats ini))) r = some (.tup (vals o)) := by rw [upd_ne (ne_of hr2 hb3 (by intro z; cases z))]; exact hr2
        have L7 : LeftAt H (upd H6 b (.lst (nats ini))) pl ls (at_ os (rm P l') os.length) := L7
        generalize upd H6 b (.lst (nats ini)) = H7 at K7 h7 hr7 L7
        obtain ⟨g, hg⟩ := Option.isSome_iff_exists.mp (hv.ks o om).1
        have gneg : g < 0 := by
          have := hv.eq o.py
          unfold getI at this
          rw [hg] at this
          have := gs.be
          simp at *; omega
        refine ⟨_, rfl, rfl, ?_⟩
        refine ⟨false, by simp, iteF ?_⟩
        have dg2 : DGet H7 ph (.str o.py) (some (.int g)) := by
          have := get_kvI (n := o.py) h7
          rw [hg] at this; exact this
        refine ⟨_, rfl, _, rfl, ph, .int g, rfl, dg2, _, _, rfl, rfl, false, by show V.bl (decide (0 ≤ g)) = V.bl false; rw [decide_eq_false]; omega, iteF ?_⟩
        refine ⟨_, rfl, _, rfl, _, rfl, po, _, l', _, rfl, rfl, SqL.of (K7 _ _ ho (by simp)), atI_nat hrr, ?_⟩
        refine ⟨ph, h, r, o, rfl, h7, hr7, (hv.ks o om).1, (hv.ks o om).2, by have := hv.len; omega, fun H8 K8 h8 => ?_⟩
        have L8 := L7.keepD K8 (by simpa using nhp.symm) fun q hq => by simpa using nhl q hq
        have K08 : Keep [] H H8 := Keep.base K7 K8 fun d hd => by simp at hd; subst hd; exact hph0
        exact ⟨K08, _, _, _, _, rfl, h8, hv.back hol (G o om).ne gs.hp, L8, wk7⟩
      · rintro σ H5 ⟨K5, P, h, v5, v6, rfl, h5, hv, L5, wk5⟩
        rw [List.length_map, List.drop_length] at wk5
        obtain rfl := wk5.done
        refine ⟨_, rfl, ph, _, rfl, h5, fun vb H6 K6 fst => ?_⟩
        have : vb = .non := by
          rcases fst with ⟨h, _⟩ | ⟨p, hp, _, hn⟩
          · exact h
          · have := hv.neg hp hn
            have := gr.st.nn p.1
            omega
        subst this
        exact ⟨rfl, q _ (K5.trans K6)⟩
    · refine ⟨_, (pss_cons (ps_expr (pe_call G_look_at_round (hr.mono (by decide)) rfl D_look_at_round.m D_look_at_round.F.kp D_look_at_round.b .nil pass0 (pa_cons (pv 0) (pa_cons (pv 1) (pa_cons (pe_glob (v := .int 60) rfl g_MOST_ORDERS ⟨_, rfl⟩) pa_nil)))))
      (pss_cons (ps_if (pt_not (pt_val (pe_call G__parts_places (hr.mono (by decide)) rfl D__parts_places.m D__parts_places.F.kp D__parts_places.b .nil pass0 (pa_cons (pv 2) (pa_cons (pe_callB call_len_seq (by rfl) T.z_len (by decide +kernel) (pa_cons (pv 1) pa_nil)) pa_nil))))) (pss_one (ps_ret pe_bl)) pss_nil)
      (pss_cons (ps_set (i := 3) sc_shows_greatest.nd rfl (Or.inl rfl) (pe_call G_have_by_all (hr.mono (by decide)) rfl D_have_by_all.m D_have_by_all.F.kp D_have_by_all.b .nil pass0 (pa_cons (pv 0) (pa_cons (pv 1) pa_nil))))
      (pss_cons (ps_set (i := 4) sc_shows_greatest.nd rfl (Or.inl rfl) (pe_call G__places_by_payer (hr.mono (by decide)) rfl D__places_by_payer.m D__places_by_payer.F.kp D__places_by_payer.b .nil pass0 (pa_cons (pv 1) pa_nil)))
      (pss_cons (ps_for PassesOwn.never rfl (pi_tup (pe_ix ix_tup (pv 2) pe_int (fun _ _ => rfl))) (pg_name (i := 5) sc_shows_greatest.nd rfl (Or.inl rfl)) (pss_cons (ps_set (i := 6) sc_shows_greatest.nd rfl (Or.inl rfl) (pe_ix ix_tup (pe_ix ix_tup (pv 1) (pv 5) (fun _ _ => rfl)) pe_int (fun _ _ => rfl)))
      (pss_cons (ps_if (PW.pt (pw_or (pt_cmpR op_ne (pe_bm0 PySem.F.plainAttrs_list PySem.F.slot_list_pop PySem.F.type_list_pop mt_pop (pe_dget hu (pv 4) (pv 6) (fun _ _ => rfl))) (pv 5) (nomark _)) (pw_or1 (pt_cmpR op_ge (pe_dget hu (pv 3) (pv 6) (fun _ _ => rfl)) pe_int (nomark _))))) (pss_one (ps_ret pe_bl)) pss_nil)
      (pss_one (ps_expr (pe_call G__undo (hr.mono (by decide)) rfl D__undo.m D__undo.F.kp D__undo.b .nil pass0 (pa_cons (pv 3) (pa_cons (pe_ix ix_tup (pv 1) (pv 5) (fun _ _ => rfl)) pa_nil))))))))
      (pss_one (ps_ret (pe_cmpR op_isN (pe_call G_first_below (hr.mono (by decide)) rfl D_first_below.m D_first_below.F.kp D_first_below.b .nil pass0 (pa_cons (pv 3) pa_nil)) pe_non (nomark _))))))))), ?_⟩
      refine ⟨_, rfl, _, rfl, pf, po, fr, os, rfl, hf, hL, F, G, l60, fun H1 K1 => ?_⟩
      refine ⟨_, rfl, _, rfl, po, _, rfl, .inr (SqT.of (K1 _ _ ho (by simp))), ?_⟩
      have lr : (rs.map V.ref).length = os.length := by rw [List.length_map]; exact hO.len
      rw [lr]
      refine ⟨R, pL, pW, _, w, os.length, rfl, K1 _ _ hR (by simp), K1 _ _ hpL (by simp), K1 _ _ hpW (by simp), so, pm, l60, fun H2 K2 => ?_⟩
      refine ⟨_, rfl, iteF ?_⟩
      have K02 := K1.trans K2
      refine ⟨_, rfl, _, rfl, pf, po, fr, os, rfl, K02 _ _ hf (by simp), hL.keep K02, F, l60, fun ph H3 hph K3 h3 => ?_⟩
      have hph0 := K02.none_of hph (by simp)
      have K03 := K02.trans K3
      refine ⟨_, rfl, po, os, rfl, hL.keep K03, l60, fun pl ls H4 K4 L4 => ?_⟩
      have nhp : ph ≠ pl := ne_of_none h3 L4.na
      have h4 := K4 _ _ h3 (by simp)
      have nhl : ∀ q ∈ ls, q.2 ≠ ph := fun q hq => ne_of (L4.lst q hq) h4 (by intro z; cases z)
      have L4 := L4.weak K03
      have K04 := K03.trans K4
      have hst := HaveOk.start F G l60
      refine ⟨_, rfl, R, _, 1, .ref pW, rfl, rfl, SqT.of (K04 _ _ hR (by simp)), rfl, pW, rfl, ⟨_, SqT.of (K04 _ _ hpW (by simp))⟩, ?_⟩
      refine for_tup (K := K) (a := pW) (xs := nats w) (fun i σ H5 => Keep [] H H5 ∧ ∃ P h v5 v6, σ = [some (.ref pf), some (.ref po), some (.ref R), some (.ref ph), some (.ref pl), v5, v6] ∧ H5 ph = some (.dK (kvI h)) ∧ HaveOk fr os P h ∧ LeftAt H H5 pl ls (at_ os P os.length) ∧ Walk fr os P (w.drop i) E) ⟨K04, _, _, none, none, rfl, h4, hst, L4, wk⟩ (fun i σ H5 _ ⟨k, _⟩ => SqT.of (k _ _ hpW (by simp))) ?_ ?_
      · rintro i x σ H6 hx ⟨K6, P, h, v5, v6, rfl, h6, hv, L6, wk6⟩
        have il := (List.getElem?_eq_some_iff.mp hx).1
        rw [List.length_map] at il
        obtain ⟨l, hl⟩ : ∃ l, w[i]? = some l := ⟨_, List.getElem?_eq_getElem il⟩
        rw [List.getElem?_map, hl] at hx
        obtain rfl : V.int (l : Nat) = x := Option.some.inj hx
        rw [show w.drop i = l :: w.drop (i + 1) by rw [List.drop_eq_getElem_cons il]; rw [List.getElem?_eq_getElem il] at hl; rw [Option.some.inj hl]] at wk6
        obtain ⟨⟨x, gs⟩, wk7⟩ := wk6.head
        obtain ⟨ini, l', e1, gs', e2, e3⟩ := at_last F G gs.be
        have ell : l' = l := Nat.le_antisymm (gs.la _ gs'.lt gs'.hp gs'.py) (gs'.la _ gs.lt gs.hp gs.py)
        subst ell
        have hne : at_ os P os.length x ≠ [] := by rw [e1]; simp
        obtain ⟨b, hb1, hb2, hb3⟩ := L6.get hne
        rw [e1] at hb3
        obtain ⟨o, hol⟩ : ∃ o, os[l']? = some o := ⟨_, List.getElem?_eq_getElem gs.lt⟩
        have om := List.mem_of_getElem? hol
        obtain rfl : o.py = x := by have := gs.py; unfold payer at this; rw [hol] at this; exact Option.some.inj this
        have hbp : b ≠ ph := nhl _ hb2
        obtain ⟨r, hr1, hr2⟩ := (hO.keep K6).at hol
        have hrr : (rs.map V.ref)[l']? = some (.ref r) := by rw [List.getElem?_map, hr1]; rfl
        refine ⟨_, rfl, _, rfl, po, _, l', _, rfl, rfl, SqT.of (K6 _ _ ho (by simp)), atI_nat hrr, r, _, 1, _, rfl, rfl, SqT.of hr2, rfl, ?_⟩
        have dg : DGet H6 pl (.str o.py) (some (.ref b)) := by
          have := get_kvA (n := o.py) L6.ha
          rw [hb1] at this; exact this
        refine ⟨_, rfl, _, rfl, pl, .ref b, rfl, dg, .inl ⟨rfl, _, SqL.of hb3⟩, b, _, _, rfl, rfl, hb3, nats_last.1, ?_⟩
        rw [nats_last.2]
        have L7 := L6.set hb2 e2 e3
        have K7 : Keep [] H (upd H6 b (.lst (nats ini))) := K6.trans_new (L6.nw _ hb2)
        have h7 : (upd H6 b (.lst (nats ini))) ph = some (.dK (kvI h)) := by rw [upd_ne hbp.symm]; exact h6
        have hr7 : (upd H6 b (.lst (nats ini))) r = some (.tup (vals o)) := by rw [upd_ne (ne_of hr2 hb3 (by intro z; cases z))]; exact hr2
        have L7 : LeftAt H (upd H6 b (.lst (nats ini))) pl ls (at_ os (rm P l') os.length) := L7
        generalize upd H6 b (.lst (nats ini)) = H7 at K7 h7 hr7 L7
        obtain ⟨g, hg⟩ := Option.isSome_iff_exists.mp (hv.ks o om).1
        have gneg : g < 0 := by
          have := hv.eq o.py
          unfold getI at this
          rw [hg] at this
          have := gs.be
          simp at *; omega
        refine ⟨_, rfl, rfl, ?_⟩
        refine ⟨false, by simp, iteF ?_⟩
        have dg2 : DGet H7 ph (.str o.py) (some (.int g)) := by
          have := get_kvI (n := o.py) h7
          rw [hg] at this; exact this
        refine ⟨_, rfl, _, rfl, ph, .int g, rfl, dg2, _, _, rfl, rfl, false, by show V.bl (decide (0 ≤ g)) = V.bl false; rw [decide_eq_false]; omega, iteF ?_⟩
        refine ⟨_, rfl, _, rfl, _, rfl, po, _, l', _, rfl, rfl, SqT.of (K7 _ _ ho (by simp)), atI_nat hrr, ?_⟩
        refine ⟨ph, h, r, o, rfl, h7, hr7, (hv.ks o om).1, (hv.ks o om).2, by have := hv.len; omega, fun H8 K8 h8 => ?_⟩
        have L8 := L7.keepD K8 (by simpa using nhp.symm) fun q hq => by simpa using nhl q hq
        have K08 : Keep [] H H8 := Keep.base K7 K8 fun d hd => by simp at hd; subst hd; exact hph0
        exact ⟨K08, _, _, _, _, rfl, h8, hv.back hol (G o om).ne gs.hp, L8, wk7⟩
      · rintro σ H5 ⟨K5, P, h, v5, v6, rfl, h5, hv, L5, wk5⟩
        rw [List.length_map, List.drop_length] at wk5
        obtain rfl := wk5.done
        refine ⟨_, rfl, ph, _, rfl, h5, fun vb H6 K6 fst => ?_⟩
        have : vb = .non := by
          rcases fst with ⟨h, _⟩ | ⟨p, hp, _, hn⟩
          · exact h
          · have := hv.neg hp hn
            have := gr.st.nn p.1
            omega
        subst this
        exact ⟨rfl, q _ (K5.trans K6)⟩
end
end My
set_option Elab.async false
set_option maxRecDepth 100000
set_option maxHeartbeats 800000
namespace My
open PySem L2 TL StX
section
variable {P : Program} {w : World} {K : PySem.W.Frag} {mg : Str → Option Value} {base : Heap}
theorem catA_all {H : Hp} {a b : Addr} {xs ys : List V} {Q : VK} (ha : H a = some (.tup xs)) (hb : H b = some (.tup ys)) (hl : xs.length + ys.length ≤ 1000)
    (q : ∀ p H', Keep [] H H' → H' p = some (.tup (xs ++ ys)) → Q (.ref p) H') : rCatA K (.ref a) (.ref b) H Q := by
  refine ⟨a, b, xs, ys, rfl, rfl, SqT.of ha, SqT.of hb, by have : sizeLine = 16777216 := sizeLine_eq; omega, fun e => ?_, fun _ e => ?_, fun _ _ p hp => q p _ (Keep.upd_new hp) upd_same⟩
  · subst e; exact q b H Keep.refl hb
  · subst e; exact q a H Keep.refl (by rw [List.append_nil]; exact ha)
theorem noPart {σ : L2.St} {H : Hp} {F : Option Int → Hp → Prop} (h : F none H) : tNoPart σ H F := h
theorem Ords.keepD {H H' : Hp} {ds : List Addr} {rs : List Addr} {os : List O} (h : Ords H rs os) (k : Keep ds H H') (hd : ∀ b ∈ ds, ∀ xs, H b ≠ some (.tup xs)) : Ords H' rs os :=
  Paired.mapP h fun r o x => k _ _ x fun z => hd r z _ x
theorem Ords.snoc {H : Hp} {r : Addr} {o : O} (hr : H r = some (.tup (vals o))) : ∀ {rs : List Addr} {os : List O}, Ords H rs os → Ords H (rs ++ [r]) (os ++ [o])
  | _, _, .nil => .cons hr .nil
  | _, _, .cons a t => .cons a (Ords.snoc hr t)
theorem lst_notup {H : Hp} {p : Addr} {ys : List V} (h : H p = some (.lst ys)) : ∀ b ∈ [p], ∀ xs, H b ≠ some (.tup xs) := by
  intro b hb xs e
  obtain rfl : b = p := by simpa using hb
  rw [h] at e; cases e
theorem DrawAt.notup {H : Hp} {d c : Addr} (D : DrawAt H d c) : ∀ b ∈ [d], ∀ xs, H b ≠ some (.tup xs) := by
  obtain ⟨ns, k, l, m, h1, _⟩ := D
  intro b hb xs e
  obtain rfl : b = d := by simpa using hb
  rw [h1] at e; cases e
theorem DrawAt.ntup {H : Hp} {d c p : Addr} {xs : List V} (D : DrawAt H d c) (h : H p = some (.tup xs)) : p ∉ [d] := fun z => D.notup p z xs h
def sp_lot : Sp := fun vs H Q _ => ∃ d c a zs m, vs = [.ref d, .ref a, .int m] ∧ DrawAt H d c ∧ H a = some (.lst (zs.map V.str)) ∧ CrewL zs ∧ 2 ≤ zs.length ∧ zs.length ≤ 1000 ∧ 0 ≤ m ∧ m ≤ 60 ∧
  ∀ p rs os H', H p = none → H' p = some (.lst (rs.map V.ref)) → Ords H' rs os → (∀ o ∈ os, OkO o) → (os.length : Int) = m → DrawAt H' d c → Keep [d] H H' → Q (.ref p) H'
theorem p__law_lot (T : Txt K mg) : Pr P w K mg base "_law_lot" s__law_lot ["state", "crew", "many"] 5 sp_lot := by
  obtain ⟨f, fd, D⟩ := T.d__law_lot
  obtain ⟨f__law_next, fd__law_next, D__law_next, G__law_next⟩ := p__law_next (P := P) (w := w) (base := base) T; obtain ⟨f__law_one, fd__law_one, D__law_one, G__law_one⟩ := p__law_one (P := P) (w := w) (base := base) T
  refine ⟨f, fd, D, D.F.ok sc__law_lot (fun vs H Q E h => ?_) (fun cdv A outer s H vs Q E hr h => ?_)⟩
  · obtain ⟨d, c, a, zs, m, rfl, _⟩ := h; rfl
  · obtain ⟨d, c, a, zs, m, rfl, D0, ha, C0, z0, z1, m0, m1, q⟩ := h
    have hsl : sizeLine = 16777216 := sizeLine_eq
    have nad : a ∉ [d] := by
      obtain ⟨ns, k, l, m, h1, _⟩ := D0
      simp only [List.mem_singleton]; exact ne_of ha h1 (by intro z; cases z)
    refine ⟨_, (pss_cons (ps_par (i := 3) (j := 4) (by rfl) sc__law_lot.nd rfl rfl (by decide) rfl rfl (pa_cons (pe_call G__law_next (hr.mono (by decide)) rfl D__law_next.m D__law_next.F.kp D__law_next.b .nil pass0 (pa_cons (pv 0) (pa_cons pe_int pa_nil))) (pa_cons (pe_lst pa_nil) pa_nil)) (by rfl))
      (pss_cons (ps_for PassesOwn.never rfl (pi_range1 rfl T.z_range (pa_cons (pv 2) pa_nil)) (pg_name (i := 5) sc__law_lot.nd rfl (Or.inl rfl)) (pss_cons (ps_set (i := 6) sc__law_lot.nd rfl (Or.inl rfl) (pe_call G__law_one (hr.mono (by decide)) rfl D__law_one.m D__law_one.F.kp D__law_one.b .nil pass0 (pa_cons (pv 0) (pa_cons (pv 1) pa_nil))))
      (pss_one (ps_expr (pe_bm PySem.F.plainAttrs_list PySem.F.slot_list_append PySem.F.type_list_append mt_append (pv 4) (pa_cons (pe_ifExp (pt_cmpR op_eq (pv 3) pe_int (nomark _)) (pe_op op_catA (pe_op op_catA (pe_slice sl_tupA (pv 6) po_none (po_some pe_int)) (pe_tup (pa_cons (pe_op op_add pe_int (pe_call G__law_next (hr.mono (by decide)) rfl D__law_next.m D__law_next.F.kp D__law_next.b .nil pass0 (pa_cons (pv 0) (pa_cons pe_int pa_nil)))) pa_nil))) (pe_slice sl_tupA (pv 6) (po_some pe_int) po_none)) (pv 6)) pa_nil))))))
      (pss_one (ps_ret (pv 4))))), ?_⟩
    refine ⟨_, rfl, d, c, _, rfl, D0, by decide, by decide, fun sm H1 s0 s1 D1 K1 => ?_⟩
    refine ⟨Nat.zero_le _, fun p hp => ?_⟩
    refine ⟨_, _, rfl, _, rfl, m, rfl, by omega, by omega, ?_⟩
    have hp0 := K1.none_of hp (by simpa using (D1.new hp).1.symm)
    have npd : p ∉ [d] := by simpa using (D1.new hp).1.symm
    have npc : c ≠ p := (D1.new hp).2
    refine for_range (lo := 0) (n := m.toNat) (fun i σ H2 => DrawAt H2 d c ∧ Keep [d] H H2 ∧ ∃ rs os v5 v6, σ = [some (.ref d), some (.ref a), some (.int m), some (.int sm), some (.ref p), v5, v6] ∧ H2 p = some (.lst (rs.map V.ref)) ∧ Ords H2 rs os ∧ (∀ o ∈ os, OkO o) ∧ os.length = i) ⟨D1.keep (Keep.upd_new hp), K1.trans (Keep.upd_new hp), [], [], none, none, rfl, upd_same, .nil, by simp, rfl⟩ ?_ ?_
    · rintro i σ H2 hi ⟨D2, K2, rs, os, v5, v6, rfl, h2, O2, G2, il⟩
      refine ⟨_, rfl, _, rfl, d, c, a, zs, rfl, D2, K2 _ _ ha nad, C0, z0, z1, fun T' x y k r s e H3 hT hT3 hx hy hxy k0 k1 r0 r1 s0 s1 e0 e1 D3 K3 => ?_⟩
      have h3 := K3 _ _ h2 npd
      have O3 := O2.keepD K3 D2.notup
      have K03 := K2.trans K3
      have fin : ∀ {H4 : Hp} {t : Addr} {o : O}, DrawAt H4 d c → Keep [d] H3 H4 → H4 t = some (.tup (vals o)) → OkO o → DrawAt (upd H4 p (.lst (rs.map V.ref ++ [.ref t]))) d c ∧ Keep [d] H (upd H4 p (.lst (rs.map V.ref ++ [.ref t]))) ∧ ∃ rs' os' v5 v6, [some (V.ref d), some (.ref a), some (.int m), some (.int sm), some (.ref p), some (.int (0 + (i : Nat))), some (.ref T')] = [some (V.ref d), some (.ref a), some (.int m), some (.int sm), some (.ref p), v5, v6] ∧ (upd H4 p (.lst (rs.map V.ref ++ [.ref t]))) p = some (.lst (rs'.map V.ref)) ∧ Ords (upd H4 p (.lst (rs.map V.ref ++ [.ref t]))) rs' os' ∧ (∀ o ∈ os', OkO o) ∧ os'.length = i + 1 := by
        intro H4 t o D4 K4 ht ok
        have h4 := K4 _ _ h3 npd
        have O4 := (O3.keepD K4 D3.notup).snoc ht
        refine ⟨D4.keep (Keep.upd_in (ds := [p]) (by simp)) (by simpa using (D1.new hp).1) (by simpa using npc), fun b o e hb => ?_, rs ++ [t], os ++ [o], _, _, rfl, by rw [upd_same, List.map_append]; rfl, O4.keepD (Keep.upd_in (ds := [p]) (by simp)) (lst_notup h4), fun o ho => ?_, by simp [il]⟩
        · rw [upd_ne (ne_of_none e hp0)]; exact (K03.trans K4) b o e hb
        · rcases List.mem_append.mp ho with ho | ho
          · exact G2 o ho
          · rw [List.mem_singleton] at ho; subst ho; exact ok
      have ok : ∀ k, 1 ≤ k → k ≤ 1000000000 → OkO ⟨x, y, k, r, s, e⟩ := fun k a b => ⟨C0.ok x hx, C0.ok y hy, hxy, a, b, r0, r1, s0, e0⟩
      refine ⟨_, rfl, .inl ⟨rfl, _, SqL.of h3⟩, ?_⟩
      have rl : (rs.map V.ref).length < sizeLine := by
        have e := O2.len
        rw [List.length_map]; omega
      refine ⟨_, rfl, rfl, _, rfl, ite2 (fun _ => ?_) (fun _ => ?_)⟩
      · refine ⟨_, rfl, ?_⟩
        refine noPart ?_
        refine ⟨_, rfl, slA_all hT3 fun p1 H4 K4 h4 => ?_⟩
        have D4 := D3.keep K4
        refine ⟨_, rfl, d, c, _, rfl, D4, by decide, by decide, fun g H5 g0 g1 D5 K5 => ?_⟩
        refine ⟨_, _, rfl, rfl, by show 1 ≤ sizeLine; omega, fun p2 hp2 => ?_⟩
        have h5 := K5 _ _ h4 (D4.ntup h4)
        have hT5 := K5 _ _ (K4 _ _ hT3 (by simp)) (D4.ntup (K4 _ _ hT3 (by simp)))
        have K6 : Keep [] H5 (upd H5 p2 (.tup [V.int (1 + g)])) := Keep.upd_new hp2
        refine catA_all (K6 _ _ h5 (by simp)) upd_same (by show 3 + 1 ≤ 1000; decide) fun p3 H7 K7 h7 => ?_
        have K57 := K6.trans K7
        refine ⟨_, rfl, _, rfl, ?_⟩
        refine noPart ?_
        refine slA_all (K57 _ _ hT5 (by simp)) fun p4 H8 K8 h8 => ?_
        refine catA_all (K8 _ _ h7 (by simp)) h8 (by show 4 + 3 ≤ 1000; decide) fun p5 H9 K9 h9 => ?_
        have K59 := (K57.trans K8).trans K9
        have K39 : Keep [d] H3 H9 := ((K4.mono (by simp)).trans K5).trans (K59.mono (by simp))
        exact ⟨p, _, _, rfl, rfl, K39 _ _ h3 npd, rl, fin (o := ⟨x, y, 1 + g, r, s, e⟩) (D5.keep K59) K39 h9 (ok (1 + g) (by omega) (by omega))⟩
      · refine ⟨_, rfl, p, _, _, rfl, rfl, h3, rl, fin (o := ⟨x, y, k, r, s, e⟩) D3 Keep.refl hT3 (ok k k0 k1)⟩
    · rintro σ H2 ⟨D2, K2, rs, os, v5, v6, rfl, h2, O2, G2, il⟩
      exact ⟨_, rfl, q p rs os H2 hp0 h2 O2 G2 (by omega) D2 K2⟩
theorem mem_put {h : DI} {n : Str} {v : Int} {p : Str × Int} (m : p ∈ putI h n v) : p = (n, v) ∨ p ∈ h := by
  unfold putI at m
  split at m
  · obtain ⟨q, hq, rfl⟩ := List.mem_map.mp m
    split
    · exact .inl rfl
    · exact .inr hq
  · rcases List.mem_append.mp m with m | m
    · exact .inr m
    · exact .inl (by simpa using m)
def sp_means : Sp := fun vs H Q _ => ∃ d c a zs, vs = [.ref d, .ref a] ∧ DrawAt H d c ∧ H a = some (.lst (zs.map V.str)) ∧ CrewL zs ∧ zs.length ≤ 1000 ∧
  ∀ p fr H', H p = none → H' p = some (.dK (kvI fr)) → OkF fr → DrawAt H' d c → Keep [d] H H' → Q (.ref p) H'
theorem p__law_means (T : Txt K mg) : Pr P w K mg base "_law_means" s__law_means ["state", "crew"] 4 sp_means := by
  obtain ⟨f, fd, D⟩ := T.d__law_means
  obtain ⟨f__law_next, fd__law_next, D__law_next, G__law_next⟩ := p__law_next (P := P) (w := w) (base := base) T
  refine ⟨f, fd, D, D.F.ok sc__law_means (fun vs H Q E h => ?_) (fun cdv A outer s H vs Q E hr h => ?_)⟩
  · obtain ⟨d, c, a, zs, rfl, _⟩ := h; rfl
  · obtain ⟨d, c, a, zs, rfl, D0, ha, C0, z1, q⟩ := h
    have hsl : sizeLine = 16777216 := sizeLine_eq
    have hu := hu_of hr
    have nad : a ∉ [d] := by
      obtain ⟨ns, k, l, m, h1, _⟩ := D0
      simp only [List.mem_singleton]; exact ne_of ha h1 (by intro z; cases z)
    refine ⟨_, (pss_cons (ps_set (i := 2) sc__law_means.nd rfl (Or.inl rfl) pe_dnewK)
      (pss_cons (ps_for PassesOwn.never rfl (pi_list (pv 1)) (pg_name (i := 3) sc__law_means.nd rfl (Or.inl rfl)) (pss_cons (ps_set (i := 4) sc__law_means.nd rfl (Or.inl rfl) (pe_call G__law_next (hr.mono (by decide)) rfl D__law_next.m D__law_next.F.kp D__law_next.b .nil pass0 (pa_cons (pv 0) (pa_cons pe_int pa_nil))))
      (pss_one (ps_if (pt_cmpR op_lt (pv 4) pe_int (nomark _)) (pss_one (ps_dput hu (pv 2) (pv 3) (pe_ix ix_list (pe_lst (pa_cons pe_int (pa_cons (pe_call G__law_next (hr.mono (by decide)) rfl D__law_next.m D__law_next.F.kp D__law_next.b .nil pass0 (pa_cons (pv 0) (pa_cons pe_int pa_nil))) (pa_cons (pe_call G__law_next (hr.mono (by decide)) rfl D__law_next.m D__law_next.F.kp D__law_next.b .nil pass0 (pa_cons (pv 0) (pa_cons pe_int pa_nil))) (pa_cons (pe_call G__law_next (hr.mono (by decide)) rfl D__law_next.m D__law_next.F.kp D__law_next.b .nil pass0 (pa_cons (pv 0) (pa_cons (pe_op op_mul pe_int (pe_op op_pow pe_int pe_int)) pa_nil))) pa_nil))))) (pv 4) (fun _ _ => rfl)) rfl)) pss_nil))))
      (pss_one (ps_ret (pv 2))))), ?_⟩
    refine fun p hp => ?_
    refine ⟨_, rfl, a, rfl, ⟨_, SqL.of (Keep.upd_new (ds := []) hp _ _ ha (by simp))⟩, for_list (K := K) (a := a) (xs := zs.map V.str) (fun i σ H2 => DrawAt H2 d c ∧ Keep [d] H H2 ∧ ∃ fr v3 v4, σ = [some (.ref d), some (.ref a), some (.ref p), v3, v4] ∧ H2 p = some (.dK (kvI fr)) ∧ OkF fr ∧ fr.length ≤ i) ⟨D0.keep (Keep.upd_new hp), Keep.upd_new hp, [], none, none, rfl, upd_same, ⟨by simp, by simp, by simp, by simp⟩, Nat.le_refl _⟩ (fun i σ H2 _ ⟨_, k, _⟩ => SqL.of (k _ _ ha nad)) ?_ ?_⟩
    · rintro i x σ H2 hx ⟨D2, K2, fr, v3, v4, rfl, h2, F, fl⟩
      have il := (List.getElem?_eq_some_iff.mp hx).1
      rw [List.length_map] at il
      obtain ⟨z, hz, rfl⟩ := List.mem_map.mp (List.mem_of_getElem? hx)
      refine ⟨_, rfl, d, c, _, rfl, D2, by decide, by decide, fun way H3 w0 w1 D3 K3 => ?_⟩
      have npd : p ∉ [d] := by simpa using (D0.new hp).1.symm
      have h3 := K3 _ _ h2 npd
      refine ⟨_, rfl, _, _, rfl, rfl, _, rfl, ?_⟩
      refine ite2 (fun cw => ?_) fun cw => ⟨D3, K2.trans K3, fr, _, _, rfl, h3, F, by omega⟩
      have cw : way < 4 := of_decide_eq_true cw
      refine ⟨_, rfl, d, c, _, rfl, D3, by decide, by decide, fun r1 H4 r10 r11 D4 K4 => ?_⟩
      refine ⟨_, rfl, d, c, _, rfl, D4, by decide, by decide, fun r2 H5 r20 r21 D5 K5 => ?_⟩
      refine ⟨_, rfl, _, _, rfl, rfl, ⟨by decide, by decide, by decide⟩, _, _, rfl, rfl, Or.inl ⟨by decide, by decide⟩, d, c, _, rfl, D5, by decide, by decide, fun r3 H6 r30 r31 D6 K6 => ?_⟩
      refine ⟨by show 4 ≤ sizeLine; omega, fun l hl => ?_⟩
      have KA : Keep [d] H2 (upd H6 l (.lst [.int 0, .int r1, .int r2, .int r3])) := (((K3.trans K4).trans K5).trans K6).trans (Keep.upd_new hl)
      have D7 := D6.keep (Keep.upd_new (ds := []) hl (o := .lst [.int 0, .int r1, .int r2, .int r3]))
      have hl7 : (upd H6 l (.lst [.int 0, .int r1, .int r2, .int r3])) l = _ := upd_same
      generalize upd H6 l (.lst [.int 0, .int r1, .int r2, .int r3]) = H7 at KA D7 hl7
      have h7 := KA _ _ h2 npd
      obtain ⟨v, e1, e2⟩ := atI_of (xs := [V.int 0, .int r1, .int r2, .int r3]) (i := way) w0 (by simpa using cw)
      obtain ⟨n, rfl, n0⟩ : ∃ n : Int, v = .int n ∧ 0 ≤ n := by
        have hm := List.mem_of_getElem? e1
        simp only [List.mem_cons, List.not_mem_nil, or_false] at hm
        rcases hm with rfl | rfl | rfl | rfl
        · exact ⟨_, rfl, by decide⟩
        · exact ⟨_, rfl, r10⟩
        · exact ⟨_, rfl, r20⟩
        · exact ⟨_, rfl, r30⟩
      refine ⟨_, rfl, l, _, way, _, rfl, rfl, SqL.of hl7, e2, ?_⟩
      refine ⟨_, rfl, _, rfl, p, _, rfl, DPutS h7 (by unfold kvI; rw [List.length_map]; omega), ?_⟩
      have e3 : putK (kvI fr) (Sum.inr z) (.int n) = kvI (putI fr z n) := putK_kvI
      rw [e3]
      have lp := len_put (h := fr) (n := z) (v := n)
      refine ⟨D7.keep (Keep.upd_in (ds := [p]) (by simp)) (by simpa using (D0.new hp).1) (by simpa using (D0.new hp).2), fun b o e hb => ?_, putI fr z n, _, _, rfl, upd_same, ⟨nodup_put F.nd, fun q hq => ?_, fun q hq => ?_, by omega⟩, by omega⟩
      · rw [upd_ne (ne_of_none e hp)]; exact (K2.trans KA) b o e hb
      · rcases mem_put hq with rfl | hq
        · exact C0.ok z hz
        · exact F.nm q hq
      · rcases mem_put hq with rfl | hq
        · exact n0
        · exact F.nn q hq
    · rintro σ H2 ⟨D2, K2, fr, v3, v4, rfl, h2, F, fl⟩
      exact ⟨_, rfl, q p fr H2 hp h2 F D2 K2⟩
end
end My
set_option Elab.async false
set_option maxRecDepth 100000
set_option maxHeartbeats 800000
namespace My
open PySem L2 TL StX
section
variable {P : Program} {w : World} {K : PySem.W.Frag} {mg : Str → Option Value} {base : Heap}
/-- a list == [] -/
def rEqNil : R2 := fun x y H Q => ∃ a b xs, x = .ref a ∧ y = .ref b ∧ H a = some (.lst xs) ∧ H b = some (.lst []) ∧ Q (.bl xs.isEmpty) H
theorem op_eqNil {X : Cx} (hu : X.A.units + 64 < cLine) : OpR X (compareOp .Eq) rEqNil := by
  intro pins s σ H x y v u Q I rx ry h
  obtain ⟨a, b, xs, rfl, rfl, ha, hb, q⟩ := h
  cases (show v = Value.ref a from rx)
  cases (show u = Value.ref b from ry)
  obtain ⟨_, its, k, rv, h1⟩ := (show ObjOk X.prog X.w H s.heap a (.lst xs) from I.hok a _ ha)
  obtain ⟨_, its2, k2, rv2, h2⟩ := (show ObjOk X.prog X.w H s.heap b (.lst []) from I.hok b _ hb)
  cases rv2
  cases xs with
  | nil =>
    cases rv
    exact SeqAt.RcAt.lists (e := fun _ => true) ⟨_, h1, rfl, _, rfl⟩ ⟨_, h2, rfl, _, rfl⟩ rfl (by omega) (fun j h => absurd h (by simp)) _ _ _ _ ⟨.bl true, H, I, rfl, q⟩
  | cons z r =>
    cases rv with
    | cons r1 r2 =>
      exact SeqAt.RcAt.lists_lengths ⟨_, h1, rfl, _, rfl⟩ ⟨_, h2, rfl, _, rfl⟩ (by simp) (by omega) _ _ _ _ ⟨.bl false, H, I, rfl, q⟩
def picks (os : List O) (l : List Nat) : List O := l.filterMap (os[·]?)
theorem picks_snoc {os : List O} {l : List Nat} {i j : Nat} {o : O} (h : l[i]? = some j) (ho : os[j]? = some o) : picks os (l.take (i + 1)) = picks os (l.take i) ++ [o] := by
  unfold picks
  rw [take_succ_of h, List.filterMap_append]
  simp [ho]
theorem picks_len {os : List O} (l : List Nat) : (picks os l).length ≤ l.length := List.length_filterMap_le _ _
theorem picks_mem {os : List O} {l : List Nat} : ∀ o ∈ picks os l, o ∈ os := fun o h => by
  obtain ⟨i, _, e⟩ := List.mem_filterMap.mp h
  exact List.mem_of_getElem? e
theorem picks_get {fr : DI} {os : List O} (ok : ∀ o ∈ os, OkO o) (n : Str) : ∀ l : List Nat, getI ((picks os l).foldl stepI fr) n = getI fr n + (l.map (flowAt os · n)).sum := by
  intro l
  induction l generalizing fr with
  | nil => simp [picks]
  | cons i r ih =>
    unfold picks at ih ⊢
    rw [List.map_cons, List.sum_cons, List.filterMap_cons]
    cases e : os[i]? with
    | none =>
      have : flowAt os i n = 0 := by unfold flowAt; rw [e]
      simp only []
      rw [ih, this]; omega
    | some o =>
      have : flowAt os i n = flow o n := by unfold flowAt; rw [e]
      simp only [List.foldl_cons]
      rw [ih, getI_step (ok _ (List.mem_of_getElem? e)).ne, this]; omega
theorem picks_bal {fr : DI} {os : List O} {P : Nat → Bool} (ok : ∀ o ∈ os, OkO o) (n : Str) : getI ((picks os ((List.range os.length).filter P)).foldl stepI fr) n = bal fr os P n := by
  rw [picks_get ok, sum_filter]; rfl
theorem fold_step {fr : DI} {os : List O} {o : O} : (os ++ [o]).foldl stepI fr = stepI (os.foldl stepI fr) o := by rw [List.foldl_append]; rfl
def sp_behind : Sp := fun vs H Q _ => ∃ pf pl pp fr os rs l, vs = [.ref pf, .ref pl, .ref pp] ∧ H pf = some (.dK (kvI fr)) ∧ H pl = some (.lst (rs.map V.ref)) ∧ Ords H rs os ∧ fr.length ≤ 1000 ∧ H pp = some (.lst (nats l)) ∧ (∀ i ∈ l, i < os.length) ∧ l.length ≤ 60 ∧
  ∀ p H', H p = none → Keep [] H H' → H' p = some (.dK (kvI ((picks os l).foldl stepI fr))) → Q (.ref p) H'
theorem p__law_behind (T : Txt K mg) : Pr P w K mg base "_law_behind" s__law_behind ["means", "lot", "places"] 1 sp_behind := by
  obtain ⟨f, fd, D⟩ := T.d__law_behind
  
  refine ⟨f, fd, D, D.F.ok sc__law_behind (fun vs H Q E h => ?_) (fun cdv A outer s H vs Q E hr h => ?_)⟩
  · obtain ⟨a, b, c, d, e, g, h, rfl, _⟩ := h; rfl
  · obtain ⟨pf, po, pp, fr, os, rs, l, rfl, hf, ho, hO, size, hp, hlt, l60, q⟩ := h
    have hsl : sizeLine = 16777216 := sizeLine_eq
    have hu := hu_of hr
    refine ⟨_, (pss_cons (ps_set (i := 3) sc__law_behind.nd rfl (Or.inl rfl) (pe_callTy call_dictD (by rfl) T.z_dict (by decide +kernel) (pa_cons (pv 0) pa_nil)))
      (pss_cons (ps_for PassesOwn.never rfl (pi_list (pv 2)) (pg_name (i := 4) sc__law_behind.nd rfl (Or.inl rfl)) (pss_cons (ps_dput hu (pv 3) (pe_ix ix_tup (pe_ix ix_list (pv 1) (pv 4) (fun _ _ => rfl)) pe_int (fun _ _ => rfl)) (pe_op op_sub (pe_dget2 hu (pv 3) (pe_ix ix_tup (pe_ix ix_list (pv 1) (pv 4) (fun _ _ => rfl)) pe_int (fun _ _ => rfl)) pe_int ⟨rfl, rfl, rfl, rfl⟩) (pe_ix ix_tup (pe_ix ix_list (pv 1) (pv 4) (fun _ _ => rfl)) pe_int (fun _ _ => rfl))) rfl)
      (pss_one (ps_dput hu (pv 3) (pe_ix ix_tup (pe_ix ix_list (pv 1) (pv 4) (fun _ _ => rfl)) pe_int (fun _ _ => rfl)) (pe_op op_add (pe_dget2 hu (pv 3) (pe_ix ix_tup (pe_ix ix_list (pv 1) (pv 4) (fun _ _ => rfl)) pe_int (fun _ _ => rfl)) pe_int ⟨rfl, rfl, rfl, rfl⟩) (pe_ix ix_tup (pe_ix ix_list (pv 1) (pv 4) (fun _ _ => rfl)) pe_int (fun _ _ => rfl))) rfl))))
      (pss_one (ps_ret (pv 3))))), ?_⟩
    refine ⟨_, rfl, pf, _, rfl, .inl hf, fun p hpn => ?_⟩
    refine ⟨_, rfl, pp, rfl, ⟨_, SqL.of (Keep.upd_new (ds := []) hpn _ _ hp (by simp))⟩, for_list (K := K) (a := pp) (xs := nats l) (fun i σ H2 => Keep [] H H2 ∧ H2 p = some (.dK (kvI ((picks os (l.take i)).foldl stepI fr))) ∧ ∃ v4, σ = [some (.ref pf), some (.ref po), some (.ref pp), some (.ref p), v4]) ⟨Keep.upd_new hpn, upd_same, none, rfl⟩ (fun i σ H2 _ ⟨k, _⟩ => SqL.of (k _ _ hp (by simp))) ?_ ?_⟩
    · rintro i x σ H2 hx ⟨K2, h2, v4, rfl⟩
      have il := (List.getElem?_eq_some_iff.mp hx).1
      rw [List.length_map] at il
      obtain ⟨j, hj⟩ : ∃ j, l[i]? = some j := ⟨_, List.getElem?_eq_getElem il⟩
      rw [List.getElem?_map, hj] at hx
      obtain rfl : V.int (j : Nat) = x := Option.some.inj hx
      have jl := hlt j (List.mem_of_getElem? hj)
      obtain ⟨o, hoj⟩ : ∃ o, os[j]? = some o := ⟨_, List.getElem?_eq_getElem jl⟩
      obtain ⟨r, hr1, hr2⟩ := (hO.keep K2).at hoj
      have hrr : (rs.map V.ref)[j]? = some (.ref r) := by rw [List.getElem?_map, hr1]; rfl
      have hr2 : H2 r = some (.tup [.str "order", .str o.py, .str o.pe, .int o.m, .int o.r, .int o.s, .int o.e]) := hr2
      have ho2 := K2 _ _ ho (by simp)
      rw [picks_snoc hj hoj, fold_step]
      have L := fold_len (fr := fr) (picks os (l.take i))
      have Lt := picks_len (os := os) (l.take i)
      rw [List.length_take] at Lt
      generalize (picks os (l.take i)).foldl stepI fr = g at h2 L
      refine ⟨_, rfl, p, rfl, IsD_kvI h2, _, rfl, _, rfl, po, _, j, _, rfl, rfl, SqL.of ho2, atI_nat hrr, r, _, 1, _, rfl, rfl, SqT.of hr2, rfl, _, get_kvI h2, ?_⟩
      rw [getD_kvI]
      refine ⟨_, rfl, _, rfl, po, _, j, _, rfl, rfl, SqL.of ho2, atI_nat hrr, r, _, 3, _, rfl, rfl, SqT.of hr2, rfl, _, _, rfl, rfl, ?_⟩
      refine ⟨_, rfl, _, rfl, _, rfl, po, _, j, _, rfl, rfl, SqL.of ho2, atI_nat hrr, r, _, 1, _, rfl, rfl, SqT.of hr2, rfl, p, _, rfl, DPutS h2 (by unfold kvI; rw [List.length_map]; omega), ?_⟩
      have e1 : putK (kvI g) (Sum.inr o.py) (.int (getI g o.py - o.m)) = kvI (putI g o.py (getI g o.py - o.m)) := putK_kvI
      rw [e1]
      have l1 := len_put (h := g) (n := o.py) (v := getI g o.py - o.m)
      have K4 : Keep [] H (upd H2 p (.dK (kvI (putI g o.py (getI g o.py - o.m))))) := K2.trans_new hpn
      have h4 : (upd H2 p (.dK (kvI (putI g o.py (getI g o.py - o.m))))) p = _ := upd_same
      have e2 : stepI g o = putI (putI g o.py (getI g o.py - o.m)) o.pe (getI (putI g o.py (getI g o.py - o.m)) o.pe + o.m) := rfl
      rw [e2]
      have hr4 : (upd H2 p (.dK (kvI (putI g o.py (getI g o.py - o.m))))) r = some (.tup [.str "order", .str o.py, .str o.pe, .int o.m, .int o.r, .int o.s, .int o.e]) := by rw [upd_ne (ne_of hr2 h2 (by intro z; cases z))]; exact hr2
      generalize putI g o.py (getI g o.py - o.m) = g1 at K4 h4 l1 hr4
      generalize upd H2 p (.dK (kvI g1)) = H4 at K4 h4 hr4
      have ho4 := K4 _ _ ho (by simp)
      refine ⟨_, rfl, p, rfl, IsD_kvI h4, _, rfl, _, rfl, po, _, j, _, rfl, rfl, SqL.of ho4, atI_nat hrr, r, _, 2, _, rfl, rfl, SqT.of hr4, rfl, _, get_kvI h4, ?_⟩
      rw [getD_kvI]
      refine ⟨_, rfl, _, rfl, po, _, j, _, rfl, rfl, SqL.of ho4, atI_nat hrr, r, _, 3, _, rfl, rfl, SqT.of hr4, rfl, _, _, rfl, rfl, ?_⟩
      refine ⟨_, rfl, _, rfl, _, rfl, po, _, j, _, rfl, rfl, SqL.of ho4, atI_nat hrr, r, _, 2, _, rfl, rfl, SqT.of hr4, rfl, p, _, rfl, DPutS h4 (by unfold kvI; rw [List.length_map]; omega), ?_⟩
      have e3 : putK (kvI g1) (Sum.inr o.pe) (.int (getI g1 o.pe + o.m)) = kvI (putI g1 o.pe (getI g1 o.pe + o.m)) := putK_kvI
      rw [e3]
      exact ⟨K4.trans_new hpn, upd_same, _, rfl⟩
    · rintro σ H2 ⟨K2, h2, v4, rfl⟩
      have : (nats l).length = l.length := List.length_map ..
      rw [this, List.take_length] at h2
      exact ⟨_, rfl, q p H2 hpn K2 h2⟩
theorem cr_maxK {X : Cx} (e : X.K = K) (hc : X.calm = true) : CallR X (.builtin "max") (rMax K) := e ▸ cr_max hc
theorem pi_listK {X : Cx} {tg e : Expr} {ta : TE} (ek : X.K = K) (h : PE X e ta) : PI X tg e (iList K ta) := ek ▸ pi_list h
def sp_most : Sp := fun vs H Q _ => ∃ pf pl fr os rs, vs = [.ref pf, .ref pl] ∧ H pf = some (.dK (kvI fr)) ∧ H pl = some (.lst (rs.map V.ref)) ∧ Ords H rs os ∧ OkF fr ∧ (∀ o ∈ os, OkO o) ∧ os.length ≤ 60 ∧
  ∀ p P H', H p = none → Keep [] H H' → H' p = some (.lst (nats ((List.range os.length).filter P))) → Great fr os P → Q (.ref p) H'
theorem p__law_most (T : Txt K mg) : Pr P w K mg base "_law_most" s__law_most ["means", "lot"] 2 sp_most := by
  obtain ⟨f, fd, D⟩ := T.d__law_most
  obtain ⟨f__law_behind, fd__law_behind, D__law_behind, G__law_behind⟩ := p__law_behind (P := P) (w := w) (base := base) T
  refine ⟨f, fd, D, D.F.ok sc__law_most (fun vs H Q E h => ?_) (fun cdv A outer s H vs Q E hr h => ?_)⟩
  · obtain ⟨a, b, c, d, e, rfl, _⟩ := h; rfl
  · obtain ⟨pf, po, fr, os, rs, rfl, hf, ho, hO, F, G, l60, q⟩ := h
    have hsl : sizeLine = 16777216 := sizeLine_eq
    have hu := hu_of hr
    have lr := hO.len
    refine ⟨_, (pss_cons (ps_set (i := 2) sc__law_most.nd rfl (Or.inr rfl) (pe_listRg rfl (by rfl) T.z_list (prg_1 (by rfl) T.z_range (pe_callB call_len_seq (by rfl) T.z_len (by decide +kernel) (pa_cons (pv 1) pa_nil)))))
      (pss_cons (ps_for PassesOwn.never rfl (pi_range1 rfl T.z_range (pa_cons (pe_op op_add (pe_callB call_len_seq (by rfl) T.z_len (by decide +kernel) (pa_cons (pv 1) pa_nil)) pe_int) pa_nil)) (pg_name (i := 3) sc__law_most.nd rfl (Or.inl rfl)) (pss_cons (ps_set (i := 4) sc__law_most.nd rfl (Or.inr rfl) (pe_call G__law_behind (hr.mono (by decide)) rfl D__law_behind.m D__law_behind.F.kp D__law_behind.b .nil pass0 (pa_cons (pv 0) (pa_cons (pv 1) (pa_cons (pv 2) pa_nil)))))
      (pss_cons (ps_lock (ps_setLc (i := 5) (own := [("name", 7)]) (g := gName 7) rfl sc__law_most.nd rfl rfl (sw_true rfl rfl rfl (by decide +kernel)) (pi_keys (pv 4)) (blkOk_by (own := [("name", 7)]) (N := N__law_most) (sc := defScope s__law_most) (by decide +kernel)) (fun _ _ _ _ _ => (pg_name (i := 7) sc__law_most.nd rfl (Or.inl rfl))) (fun _ _ _ _ _ => pts_one (pt_cmpR op_lt (pe_dget hu (pv 4) (pv 7) (fun _ _ => rfl)) pe_int (nomark _))) (fun _ _ _ _ _ => (pv 7))))
      (pss_cons (ps_if (pt_cmpR (op_eqNil hr.units) (pv 5) (pe_lst pa_nil) (nomark _)) (pss_one (ps_ret (pv 2))) pss_nil)
      (pss_cons (ps_set (i := 6) sc__law_most.nd rfl (Or.inr rfl) (pe_lc (own := [("name", 7)]) (g := gName 7) (tt := tYes) rfl sc__law_most.nd (pi_list (pv 5)) (blkOk_by (own := [("name", 7)]) (N := N__law_most) (sc := defScope s__law_most) (by decide +kernel)) (fun _ _ _ _ _ => (pg_name (i := 7) sc__law_most.nd rfl (Or.inr rfl))) (fun _ _ _ _ _ => pts_nil) (fun _ _ _ _ _ => (pe_callB (cr_maxK (K := K) rfl rfl) (by rfl) T.z_max (by decide +kernel) (pa_cons (pe_lc (own := [("place", 8)]) (g := gName 8) rfl sc__law_most.nd (pi_listK (K := K) rfl (pv 2)) (blkOk_by (own := [("place", 8)]) (N := N__law_most) (sc := ⟨.function, [(Str.ofString ".0", .local), (Str.ofString "name", .cell), (Str.ofString "max", .globalImplicit), (Str.ofString "left", .cell), (Str.ofString "lot", .cell)], false, false, []⟩) (by decide +kernel)) (fun _ _ _ _ _ => (pg_name (i := 8) sc__law_most.nd rfl (Or.inl rfl))) (fun _ _ _ _ _ => pts_one (pt_cmpR op_eq (pe_ix (ix_tupK (K := K) rfl) (pe_ix (ix_listK (K := K) rfl) (pv 1) (pv 8) (fun _ _ => rfl)) pe_int (fun _ _ => rfl)) (pv 7) (nomark _))) (fun _ _ _ _ _ => (pv 8))) pa_nil)))))
      (pss_one (ps_set (i := 2) sc__law_most.nd rfl (Or.inr rfl) (pe_lc (own := [("place", 8)]) (g := gName 8) rfl sc__law_most.nd (pi_list (pv 2)) (blkOk_by (own := [("place", 8)]) (N := N__law_most) (sc := defScope s__law_most) (by decide +kernel)) (fun _ _ _ _ _ => (pg_name (i := 8) sc__law_most.nd rfl (Or.inl rfl))) (fun _ _ _ _ _ => pts_one (pt_cmpR (op_notIn_seqK (K := K) rfl) (pv 8) (pv 6) (by rfl))) (fun _ _ _ _ _ => (pv 8))))))))))
      (pss_one (ps_ret (pv 2))))), ?_⟩
    refine ⟨_, rfl, po, _, rfl, .inl (SqL.of ho), _, rfl, RgOk.of_le (by omega) (by rw [List.length_map]; omega) (by omega) (by omega), fun p0 hp0 => ?_⟩
    have er : (rs.map V.ref).length = os.length := by rw [List.length_map, lr]
    rw [er, rgV_nat]
    have K0 := Keep.upd_new (ds := []) hp0 (o := .lst (nats (List.range os.length)))
    refine ⟨_, rfl, po, _, rfl, .inl (SqL.of (K0 _ _ ho (by simp))), _, _, rfl, rfl, _, rfl, by omega, by omega, ?_⟩
    rw [er]
    have en : ((os.length : Int) + 1).toNat = os.length + 1 := by omega
    refine for_range (lo := 0) (n := ((os.length : Int) + 1).toNat) (fun i σ H2 => Keep [] H H2 ∧ ∃ P p v3 v4 v5 v6 v7 v8, σ = [some (.ref pf), some (.ref po), some (.ref p), v3, v4, v5, v6, v7, v8] ∧ H p = none ∧ H2 p = some (.lst (nats ((List.range os.length).filter P))) ∧ Closed os P ∧ Over fr os P ∧ ((List.range os.length).filter P).length + i ≤ os.length) ⟨K0, fun _ => true, p0, none, none, none, none, none, none, rfl, hp0, by rw [upd_same, List.filter_eq_self.mpr (fun _ _ => rfl)], (all_over (fr := fr)).1, all_over.2, by rw [List.filter_eq_self.mpr (fun _ _ => rfl), List.length_range]; omega⟩ ?_ ?_
    · rintro i σ H2 hi ⟨K2, P, p, v3, v4, v5, v6, v7, v8, rfl, hpn, h2, cl, ov, room⟩
      have fl : ((List.range os.length).filter P).length ≤ os.length := by omega
      refine ⟨_, rfl, _, rfl, _, rfl, pf, po, p, fr, os, rs, _, rfl, K2 _ _ hf (by simp), K2 _ _ ho (by simp), hO.keep K2, F.size, h2, fun i hi => List.mem_range.mp (List.mem_filter.mp hi).1, by omega, fun pb H3 hpb K3 h3 => ?_⟩
      have K03 := K2.trans K3
      have hp3 := K3 _ _ h2 (by simp)
      have bnd : ((picks os ((List.range os.length).filter P)).foldl stepI fr).length ≤ 1120 := by
        have a := fold_len (fr := fr) (picks os ((List.range os.length).filter P))
        have b := picks_len (os := os) ((List.range os.length).filter P)
        have := F.size
        omega
      have hbal : ∀ n, getI ((picks os ((List.range os.length).filter P)).foldl stepI fr) n = bal fr os P n := fun n => picks_bal G n
      have hnd : (((picks os ((List.range os.length).filter P)).foldl stepI fr).map (·.1)).Nodup := fold_nd F.nd _
      generalize (picks os ((List.range os.length).filter P)).foldl stepI fr = h at h3 bnd hbal hnd
      have hneg : ∀ p ∈ h, p.2 < 0 → bal fr os P p.1 < 0 := fun p hp hn => by
        rw [← hbal]; unfold getI; rw [lookI_mem hnd (show (p.1, p.2) ∈ h from hp)]; exact hn
      have hnn : (∀ p ∈ h, 0 ≤ p.2) → ∀ n, 0 ≤ bal fr os P n := fun a n => by
        rw [← hbal]; unfold getI
        cases e : lookI h n with
        | none => exact Int.le_refl 0
        | some v => exact a _ (mem_lookI e)
      refine ⟨pb, _, h3, trivial, fun od => ?_⟩
      refine ⟨_, rfl, pb, od, rfl, .inl ⟨_, upd_same, fun L hL => lc_it walk_keys (fun i H4 => Keep [] (upd H3 pb (.frz od (.dK (kvI h)))) H4 ∧ H4 L = some (.lst ((((h.take i).filter fun p => decide (p.2 < 0)).map (·.1)).map V.str))) ⟨Keep.upd_new hL, upd_same⟩ (fun i H4 _ ⟨k, _⟩ => k _ _ upd_same (by simp)) ?_ ?_⟩⟩
      · rintro j x H4 H5 hj ⟨K4, h4⟩ ⟨rfl, k, v, ekv, rfl⟩
        have hj' : j < h.length := by unfold kvI at hj; rw [List.length_map] at hj; exact hj
        obtain ⟨q, hq⟩ : ∃ q, h[j]? = some q := ⟨h[j], List.getElem?_eq_getElem hj'⟩
        have qm := List.mem_of_getElem? hq
        have ek : (kvI h)[j]? = some (Sum.inr q.1, V.int q.2) := by unfold kvI; rw [List.getElem?_map, hq]; rfl
        rw [ek] at ekv
        obtain ⟨rfl, rfl⟩ : Sum.inr q.1 = k ∧ V.int q.2 = v := by injection Option.some.inj ekv with a b; exact ⟨a, b⟩
        have dg : DGet H5 pb (.str q.1) (some (.int q.2)) := by
          have e1 : valV (kvI h) (Sum.inr q.1) = some (.int q.2) := by rw [valV_kvI, lookI_mem hnd (show (q.1, q.2) ∈ h from qm)]; rfl
          exact .inl ⟨kvI h, Sum.inr q.1, .inr ⟨od, K4 _ _ upd_same (by simp)⟩, rfl, e1.symm⟩
        refine ⟨rfl, ?_⟩
        refine ⟨_, rfl, _, rfl, pb, .int q.2, rfl, dg, ?_⟩
        refine ⟨_, _, rfl, rfl, _, rfl, ?_⟩
        rw [take_succ_of hq, List.filter_append]
        by_cases hn : q.2 < 0
        · rw [decide_eq_true hn]
          refine iteT ⟨_, rfl, _, h4, ?_, K4.trans_new hL, ?_⟩
          · rw [List.length_map, List.length_map]
            refine Nat.lt_of_le_of_lt (List.length_filter_le _ _) ?_
            rw [List.length_take]; omega
          · rw [upd_same]; simp [hn]; rfl
        · rw [decide_eq_false hn]
          refine iteF ⟨K4, ?_⟩
          rw [h4]; simp [hn]
      · rintro H4 ⟨K4, h4⟩
        have hl : (kvI h).length = h.length := by unfold kvI; rw [List.length_map]
        rw [hl, List.take_length] at h4
        have K3b : Keep [] H (upd H4 pb (.dK (kvI h))) := K03.trans (Keep.unlock h3 K4)
        have nLb : L ≠ pb := (ne_of_none (upd_same (H := H3)) hL).symm
        refine ⟨K4 _ _ upd_same (by simp), ?_⟩
        have hL5 : (upd H4 pb (.dK (kvI h))) L = H4 L := upd_ne nLb
        rw [h4] at hL5
        have hL0 : H L = none := by
          have := K03.none_of (p := L) (by rw [upd_ne nLb] at hL; exact hL) (by simp)
          exact this
        have hp5 : (upd H4 pb (.dK (kvI h))) p = some (.lst (nats ((List.range os.length).filter P))) := (Keep.unlock h3 K4) _ _ hp3 (by simp)
        generalize upd H4 pb (.dK (kvI h)) = H5 at K3b hL5 hp5
        refine ⟨_, rfl, Nat.zero_le _, fun M hM => ⟨L, M, _, rfl, rfl, Keep.upd_new (ds := []) hM _ _ hL5 (by simp), upd_same, _, rfl, ?_⟩⟩
        have K6 : Keep [] H (upd H5 M (.lst [])) := K3b.trans (Keep.upd_new hM)
        have hL6 := Keep.upd_new (ds := []) hM (o := .lst []) _ _ hL5 (by simp)
        have hp6 := Keep.upd_new (ds := []) hM (o := .lst []) _ _ hp5 (by simp)
        generalize upd H5 M (.lst []) = H6 at K6 hL6 hp6
        cases hz : (h.filter fun p => decide (p.2 < 0)) with
        | nil =>
          refine iteT ?_
          have nn : ∀ p ∈ h, 0 ≤ p.2 := fun p hp => by
            have := List.filter_eq_nil_iff.mp hz p hp
            simp at this; omega
          exact ⟨_, rfl, q p P H6 hpn K6 hp6 (Great.of cl ov (hnn nn))⟩
        | cons z zr =>
          have hm : ∀ y ∈ z :: zr, bal fr os P y.1 < 0 := fun y hy => by
            rw [← hz] at hy
            obtain ⟨a, b⟩ := List.mem_filter.mp hy
            exact hneg y a (of_decide_eq_true b)
          rw [hz] at hL6
          have lz : (z :: zr).length ≤ 1120 := by
            rw [← hz]
            exact Nat.le_trans (List.length_filter_le _ _) bnd
          refine iteF ?_
          have ez : (List.map V.str ((z :: zr).map (·.1))).length = (z :: zr).length := by rw [List.length_map, List.length_map]
          refine ⟨_, rfl, L, rfl, ⟨_, SqL.of hL6⟩, fun A1 hA => ?_⟩
          have hA0 := K6.none_of hA (by simp)
          refine lc_list (K := K) (a := L) (xs := List.map V.str ((z :: zr).map (·.1))) (fun j H7 => Keep [] H6 H7 ∧ ∃ ks : List Nat, H7 A1 = some (.lst (nats ks)) ∧ ks.length = j ∧ ∀ k ∈ ks, ∃ x, Goes fr os P k x) ⟨Keep.upd_new hA, [], upd_same, rfl, by simp⟩ (fun j H7 _ ⟨k, _⟩ => SqL.of (k _ _ hL6 (by simp))) ?_ ?_
          · rintro j x H7 hx ⟨K7, ks, h7, jl, gk⟩
            have jz := (List.getElem?_eq_some_iff.mp hx).1
            rw [ez] at jz
            obtain ⟨x, hx2, rfl⟩ := List.mem_map.mp (List.mem_of_getElem? hx)
            obtain ⟨y, hy, rfl⟩ := List.mem_map.mp hx2
            have hb := hm y hy
            refine ⟨rfl, tYes_go (yes ?_)⟩
            have hp7 := K7 _ _ hp6 (by simp)
            refine ⟨_, rfl, p, rfl, ⟨_, SqL.of hp7⟩, fun B hB => ?_⟩
            have K67 := K6.trans K7
            refine lc_list (K := K) (a := p) (xs := nats ((List.range os.length).filter P)) (fun j H8 => Keep [] H7 H8 ∧ H8 B = some (.lst (nats ((((List.range os.length).filter P).take j).filter fun k => decide (payer os k = some y.1))))) ⟨Keep.upd_new hB, upd_same⟩ (fun j H8 _ ⟨k, _⟩ => SqL.of (k _ _ hp7 (by simp))) ?_ ?_
            · rintro t x H8 hx ⟨K8, h8⟩
              have tl := (List.getElem?_eq_some_iff.mp hx).1
              rw [List.length_map] at tl
              obtain ⟨k, hk⟩ : ∃ k, ((List.range os.length).filter P)[t]? = some k := ⟨_, List.getElem?_eq_getElem tl⟩
              rw [List.getElem?_map, hk] at hx
              obtain rfl : V.int (k : Nat) = x := Option.some.inj hx
              have kl := List.mem_range.mp (List.mem_filter.mp (List.mem_of_getElem? hk)).1
              obtain ⟨o, hok⟩ : ∃ o, os[k]? = some o := ⟨_, List.getElem?_eq_getElem kl⟩
              obtain ⟨r, hr1, hr2⟩ := (hO.keep (K67.trans K8)).at hok
              have hrr : (rs.map V.ref)[k]? = some (.ref r) := by rw [List.getElem?_map, hr1]; rfl
              have hr2 : H8 r = some (.tup [.str "order", .str o.py, .str o.pe, .int o.m, .int o.r, .int o.s, .int o.e]) := hr2
              refine ⟨rfl, ?_⟩
              refine ⟨_, rfl, _, rfl, po, _, k, _, rfl, rfl, SqL.of ((K67.trans K8) _ _ ho (by simp)), atI_nat hrr, r, _, 1, _, rfl, rfl, SqT.of hr2, rfl, _, rfl, rfl, _, rfl, ?_⟩
              have epy : payer os k = some o.py := by unfold payer; rw [hok]; rfl
              rw [take_succ_of hk, List.filter_append]
              by_cases hn : o.py = y.1
              · rw [decide_eq_true (show V.str o.py = V.str y.1 by rw [hn])]
                refine iteT ⟨_, rfl, _, h8, ?_, K8.trans_new hB, ?_⟩
                · rw [List.length_map]
                  refine Nat.lt_of_le_of_lt (List.length_filter_le _ _) ?_
                  rw [List.length_take]; omega
                · rw [upd_same]; simp [epy, hn, nats]
              · rw [decide_eq_false (show ¬ V.str o.py = V.str y.1 from fun z => hn (by injection z))]
                refine iteF ⟨K8, ?_⟩
                rw [h8]; simp [epy, hn]
            · rintro H8 ⟨K8, h8⟩
              have : (nats ((List.range os.length).filter P)).length = ((List.range os.length).filter P).length := List.length_map ..
              rw [this, List.take_length, List.filter_filter] at h8
              have eat : (List.range os.length).filter (fun a => decide (payer os a = some y.1) && P a) = at_ os P os.length y.1 := List.filter_congr fun a _ => by rw [Bool.and_comm]
              rw [eat] at h8
              have en2 : nats (at_ os P os.length y.1) = ((at_ os P os.length y.1).map fun i : Nat => (i : Int)).map V.int := by rw [List.map_map]; rfl
              obtain ⟨ini, l1, e1, _⟩ := at_last F G hb
              have h7A := K8 _ _ h7 (by simp)
              refine noArg ?_
              refine ⟨B, _, rfl, SqL.of (en2 ▸ h8), by rw [List.length_map, e1]; simp, fun mx hm1 hm2 => ?_⟩
              obtain ⟨k, hk, rfl⟩ := List.mem_map.mp hm1
              have gk1 : Goes fr os P k y.1 := by
                obtain ⟨a, b⟩ := List.mem_filter.mp hk
                simp only [Bool.and_eq_true, decide_eq_true_eq] at b
                refine ⟨List.mem_range.mp a, b.1, b.2, fun i hi hp hy => ?_, hb⟩
                have : i ∈ at_ os P os.length y.1 := List.mem_filter.mpr ⟨List.mem_range.mpr hi, by simp [hp, hy]⟩
                have := hm2 (i : Int) (List.mem_map.mpr ⟨i, this, rfl⟩)
                omega
              refine ⟨_, h7A, by rw [List.length_map]; omega, ((K7.trans K8).trans_new hA), ks ++ [k], by rw [upd_same]; unfold nats; rw [List.map_append]; rfl, by simp [jl], fun k' hk' => ?_⟩
              rcases List.mem_append.mp hk' with hk' | hk'
              · exact gk k' hk'
              · rw [List.mem_singleton] at hk'; subst hk'; exact ⟨_, gk1⟩
          · rintro H7 ⟨K7, ks, h7, jl, gk⟩
            rw [ez] at jl
            have hp7 := K7 _ _ hp6 (by simp)
            have K67 := K6.trans K7
            refine ⟨_, rfl, p, rfl, ⟨_, SqL.of hp7⟩, fun B hB => ?_⟩
            refine lc_list (K := K) (a := p) (xs := nats ((List.range os.length).filter P)) (fun j H8 => Keep [] H7 H8 ∧ H8 B = some (.lst (nats ((((List.range os.length).filter P).take j).filter fun k => !decide (k ∈ ks))))) ⟨Keep.upd_new hB, upd_same⟩ (fun j H8 _ ⟨k, _⟩ => SqL.of (k _ _ hp7 (by simp))) ?_ ?_
            · rintro t x H8 hx ⟨K8, h8⟩
              have tl := (List.getElem?_eq_some_iff.mp hx).1
              rw [List.length_map] at tl
              obtain ⟨k, hk⟩ : ∃ k, ((List.range os.length).filter P)[t]? = some k := ⟨_, List.getElem?_eq_getElem tl⟩
              rw [List.getElem?_map, hk] at hx
              obtain rfl : V.int (k : Nat) = x := Option.some.inj hx
              refine ⟨rfl, _, rfl, _, rfl, A1, _, rfl, .inl (SqL.of (K8 _ _ h7 (by simp))), rfl, all_flat_nat ks, _, rfl, ?_⟩
              rw [inV_nat, take_succ_of hk, List.filter_append]
              cases hd : decide (k ∈ ks) with
              | true => refine iteF ⟨K8, ?_⟩; simp only [List.filter_cons, hd]; simpa using h8
              | false =>
                refine iteT ⟨_, rfl, _, h8, ?_, K8.trans_new hB, ?_⟩
                · rw [List.length_map]
                  refine Nat.lt_of_le_of_lt (List.length_filter_le _ _) ?_
                  rw [List.length_take]; omega
                · rw [upd_same]; simp only [List.filter_cons, hd]; simp [nats]
            · rintro H8 ⟨K8, h8⟩
              have : (nats ((List.range os.length).filter P)).length = ((List.range os.length).filter P).length := List.length_map ..
              rw [this, List.take_length, List.filter_filter] at h8
              have e9 : (List.range os.length).filter (fun a => !decide (a ∈ ks) && P a) = (List.range os.length).filter (fun i => P i && !decide (i ∈ ks)) := List.filter_congr fun a _ => by rw [Bool.and_comm]
              rw [e9] at h8
              have gR : ∀ l, (fun i => decide (i ∈ ks)) l = true → ∃ x, Goes fr os P l x := fun l hl => gk l (of_decide_eq_true hl)
              refine ⟨K67.trans K8, fun i => P i && !decide (i ∈ ks), B, _, _, _, _, _, _, rfl, K67.none_of hB (by simp), h8, Closed.less (fr := fr) cl gR, Over.less G ov gR, ?_⟩
              obtain ⟨k0, hk0⟩ : ∃ k0, k0 ∈ ks := by
                cases ks with
                | nil => exact absurd jl (by simp)
                | cons a _ => exact ⟨a, by simp⟩
              obtain ⟨x0, g0⟩ := gk k0 hk0
              have hlt : ((List.range os.length).filter (fun i => P i && !decide (i ∈ ks))).length < ((List.range os.length).filter P).length := by
                have e10 : (List.range os.length).filter (fun i => P i && !decide (i ∈ ks)) = ((List.range os.length).filter P).filter (fun i => !decide (i ∈ ks)) := by rw [List.filter_filter]; exact List.filter_congr fun a _ => by rw [Bool.and_comm]
                rw [e10]
                exact List.length_filter_lt_length_iff_exists.mpr ⟨k0, List.mem_filter.mpr ⟨List.mem_range.mpr g0.lt, g0.hp⟩, by simp [hk0]⟩
              omega
    · rintro σ H2 ⟨K2, P, p, v3, v4, v5, v6, v7, v8, rfl, hpn, h2, cl, ov, room⟩
      rw [en] at room
      omega
end
end My
set_option Elab.async false
set_option maxRecDepth 100000
set_option maxHeartbeats 800000
namespace My
open PySem L2 TL StX
section
variable {P : Program} {w : World} {K : PySem.W.Frag} {mg : Str → Option Value} {base : Heap}
def sp_paper : Sp := fun vs H Q _ => ∃ pf pl pp pw fr os rs E w, vs = [.ref pf, .ref pl, .ref pp, .ref pw] ∧ H pf = some (.dK (kvI fr)) ∧ H pl = some (.lst (rs.map V.ref)) ∧ Ords H rs os ∧ OkF fr ∧ (∀ o ∈ os, OkO o) ∧ os.length ≤ 60 ∧
  H pp = some (.lst (nats ((List.range os.length).filter E))) ∧ H pw = some (.tup (nats w)) ∧ Walk fr os (fun _ => true) w E ∧ ∀ H', Keep [] H H' → Q (.bl true) H'
theorem p__law_paper_right (T : Txt K mg) : Pr P w K mg base "_law_paper_right" s__law_paper_right ["means", "lot", "places", "paper"] 2 sp_paper := by
  obtain ⟨f, fd, D⟩ := T.d__law_paper_right
  obtain ⟨f__law_behind, fd__law_behind, D__law_behind, G__law_behind⟩ := p__law_behind (P := P) (w := w) (base := base) T
  refine ⟨f, fd, D, D.F.ok sc__law_paper_right (fun vs H Q E h => ?_) (fun cdv A outer s H vs Q E hr h => ?_)⟩
  · obtain ⟨a, b, c, d, e, g, h, i, j, rfl, _⟩ := h; rfl
  · obtain ⟨pf, po, pp, pw, fr, os, rs, E, w, rfl, hf, ho, hO, F, G, l60, hpp, hpw, wk, q⟩ := h
    have hsl : sizeLine = 16777216 := sizeLine_eq
    have hu := hu_of hr
    have lr := hO.len
    have er : (rs.map V.ref).length = os.length := by rw [List.length_map, lr]
    have room := wk.room
    have pm : (w ++ (List.range os.length).filter E).Perm (List.range os.length) := by
      have := wk.perm
      rw [List.filter_eq_self.mpr (fun _ _ => rfl)] at this
      exact this.symm
    refine ⟨_, (pss_cons (ps_set (i := 4) sc__law_paper_right.nd rfl (Or.inl rfl) (pe_listRg rfl (by rfl) T.z_list (prg_1 (by rfl) T.z_range (pe_callB call_len_seq (by rfl) T.z_len (by decide +kernel) (pa_cons (pv 1) pa_nil)))))
      (pss_cons (ps_if (PW.pt (pw_or (pt_not (pt_val (pe_callB call_isi (by rfl) T.z_isinstance (by decide +kernel) (pa_cons (pv 3) (pa_cons (pe_bltn (by rfl) T.z_tuple (by decide +kernel) (v := .ty "tuple") rfl) pa_nil))))) (pw_or1 (pt_cmpR (op_neD hr.units) (pe_callB cr_sorted (by rfl) T.z_sorted (by decide +kernel) (pa_cons (pe_op op_cat (pe_callTy call_list_of (by rfl) T.z_list (by decide +kernel) (pa_cons (pv 3) pa_nil)) (pv 2)) pa_nil)) (pv 4) (nomark _))))) (pss_one (ps_ret pe_bl)) pss_nil)
      (pss_cons (ps_for PassesOwn.never rfl (pi_tup (pv 3)) (pg_name (i := 5) sc__law_paper_right.nd rfl (Or.inl rfl)) (pss_cons (ps_set (i := 6) sc__law_paper_right.nd rfl (Or.inr rfl) (pe_ix ix_tup (pe_ix ix_list (pv 1) (pv 5) (fun _ _ => rfl)) pe_int (fun _ _ => rfl)))
      (pss_cons (ps_if (PW.pt (pw_or (pt_cmpR op_ne (pv 5) (pe_callB (cr_max rfl) (by rfl) T.z_max (by decide +kernel) (pa_cons (pe_lc (own := [("k", 7)]) (g := gName 7) rfl sc__law_paper_right.nd (pi_list (pv 4)) (blkOk_by (own := [("k", 7)]) (N := N__law_paper_right) (sc := defScope s__law_paper_right) (by decide +kernel)) (fun _ _ _ _ _ => (pg_name (i := 7) sc__law_paper_right.nd rfl (Or.inl rfl))) (fun _ _ _ _ _ => pts_one (pt_cmpR op_eq (pe_ix (ix_tupK (K := K) rfl) (pe_ix (ix_listK (K := K) rfl) (pv 1) (pv 7) (fun _ _ => rfl)) pe_int (fun _ _ => rfl)) (pv 6) (nomark _))) (fun _ _ _ _ _ => (pv 7))) pa_nil)) (nomark _)) (pw_or1 (pt_cmpR op_ge (pe_dget hu (pe_call G__law_behind (hr.mono (by decide)) rfl D__law_behind.m D__law_behind.F.kp D__law_behind.b .nil pass0 (pa_cons (pv 0) (pa_cons (pv 1) (pa_cons (pv 4) pa_nil)))) (pv 6) (fun _ _ => rfl)) pe_int (nomark _))))) (pss_one (ps_ret pe_bl)) pss_nil)
      (pss_one (ps_expr (pe_bm PySem.F.plainAttrs_list PySem.F.slot_list_remove PySem.F.type_list_remove mt_remove (pv 4) (pa_cons (pv 5) pa_nil)))))))
      (pss_one (ps_ret (pe_cmpR (op_eqD hr.units) (pv 4) (pv 2) (nomark _))))))), ?_⟩
    refine ⟨_, rfl, po, _, rfl, .inl (SqL.of ho), _, rfl, RgOk.of_le (by omega) (by rw [List.length_map]; omega) (by omega) (by omega), fun p0 hp0 => ?_⟩
    rw [er, rgV_nat]
    have K0 := Keep.upd_new (ds := []) hp0 (o := .lst (nats (List.range os.length)))
    have h0 : (upd H p0 (.lst (nats (List.range os.length)))) p0 = some (.lst (nats (List.range os.length))) := upd_same
    generalize upd H p0 (.lst (nats (List.range os.length))) = H1 at K0 h0
    refine ⟨_, rfl, _, _, _, _, true, rfl, .ty _, .base (.tup (K0 _ _ hpw (by simp))), kit_ty (by decide +kernel), _, rfl, iteF ?_⟩
    refine ⟨_, rfl, pw, _, rfl, .inr (SqT.of (K0 _ _ hpw (by simp))), fun p1 hp1 => ?_⟩
    have K1 := K0.trans (Keep.upd_new hp1 (o := .lst (nats w)))
    have h1 : (upd H1 p1 (.lst (nats w))) p1 = some (.lst (nats w)) := upd_same
    have h01 := Keep.upd_new (ds := []) hp1 (o := .lst (nats w)) _ _ h0 (by simp)
    generalize upd H1 p1 (.lst (nats w)) = H2 at K1 h1 h01
    refine ⟨_, rfl, p1, pp, _, _, rfl, rfl, h1, K1 _ _ hpp (by simp), by rw [List.length_map, List.length_map]; omega, fun p2 hp2 => ?_⟩
    have e2 : nats w ++ nats ((List.range os.length).filter E) = nats (w ++ (List.range os.length).filter E) := by unfold nats; rw [List.map_append]
    rw [e2]
    refine noArg ?_
    refine sorted_nat (SqL.of upd_same) (by rw [List.length_append]; omega) pm (range_sorted _) fun p3 hp3 => ?_
    have K3 := (K1.trans (Keep.upd_new hp2 (o := .lst (nats (w ++ (List.range os.length).filter E))))).trans (Keep.upd_new hp3 (o := .lst (nats (List.range os.length))))
    have h03 := ((Keep.upd_new (ds := []) hp2 (o := .lst (nats (w ++ (List.range os.length).filter E)))).trans (Keep.upd_new hp3 (o := .lst (nats (List.range os.length))))) _ _ h01 (by simp)
    have h3 : (upd (upd H2 p2 (.lst (nats (w ++ (List.range os.length).filter E)))) p3 (.lst (nats (List.range os.length)))) p3 = some (.lst (nats (List.range os.length))) := upd_same
    generalize upd (upd H2 p2 (.lst (nats (w ++ (List.range os.length).filter E)))) p3 (.lst (nats (List.range os.length))) = H3 at K3 h03 h3
    refine ⟨_, rfl, _, _, Dp_nat (SqL.of h3), Dp_nat (SqL.of h03), shaped_nat _, shaped_nat _, ?_⟩
    rw [eqv_nat, decide_eq_true rfl]
    refine ⟨false, rfl, iteF ?_⟩
    refine ⟨_, rfl, pw, rfl, ⟨_, SqT.of (K3 _ _ hpw (by simp))⟩, ?_⟩
    have hst : H3 p0 = some (.lst (nats ((List.range os.length).filter fun _ => true))) := by rw [List.filter_eq_self.mpr (fun _ _ => rfl)]; exact h03
    refine for_tup (K := K) (a := pw) (xs := nats w) (fun i σ H5 => Keep [] H H5 ∧ ∃ P v5 v6 v7, σ = [some (.ref pf), some (.ref po), some (.ref pp), some (.ref pw), some (.ref p0), v5, v6, v7] ∧ H5 p0 = some (.lst (nats ((List.range os.length).filter P))) ∧ Walk fr os P (w.drop i) E) ⟨K3, _, none, none, none, rfl, hst, wk⟩ (fun i σ H5 _ ⟨k, _⟩ => SqT.of (k _ _ hpw (by simp))) ?_ ?_
    · rintro i x σ H6 hx ⟨K6, P, v5, v6, v7, rfl, h6, wk6⟩
      have il := (List.getElem?_eq_some_iff.mp hx).1
      rw [List.length_map] at il
      obtain ⟨l, hl⟩ : ∃ l, w[i]? = some l := ⟨_, List.getElem?_eq_getElem il⟩
      rw [List.getElem?_map, hl] at hx
      obtain rfl : V.int (l : Nat) = x := Option.some.inj hx
      rw [show w.drop i = l :: w.drop (i + 1) by rw [List.drop_eq_getElem_cons il]; rw [List.getElem?_eq_getElem il] at hl; rw [Option.some.inj hl]] at wk6
      obtain ⟨⟨x, gs⟩, wk7⟩ := wk6.head
      obtain ⟨o, hol⟩ : ∃ o, os[l]? = some o := ⟨_, List.getElem?_eq_getElem gs.lt⟩
      obtain rfl : o.py = x := by have := gs.py; unfold payer at this; rw [hol] at this; exact Option.some.inj this
      obtain ⟨r, hr1, hr2⟩ := (hO.keep K6).at hol
      have hrr : (rs.map V.ref)[l]? = some (.ref r) := by rw [List.getElem?_map, hr1]; rfl
      have hr2 : H6 r = some (.tup [.str "order", .str o.py, .str o.pe, .int o.m, .int o.r, .int o.s, .int o.e]) := hr2
      have fl : ((List.range os.length).filter P).length ≤ os.length := by
        have := List.length_filter_le P (List.range os.length)
        rw [List.length_range] at this; exact this
      refine ⟨_, rfl, _, rfl, po, _, l, _, rfl, rfl, SqL.of (K6 _ _ ho (by simp)), atI_nat hrr, r, _, 1, _, rfl, rfl, SqT.of hr2, rfl, ?_⟩
      refine ⟨_, rfl, _, rfl, p0, rfl, ⟨_, SqL.of h6⟩, fun B hB => ?_⟩
      refine lc_list (K := K) (a := p0) (xs := nats ((List.range os.length).filter P)) (fun j H8 => Keep [] H6 H8 ∧ H8 B = some (.lst (nats ((((List.range os.length).filter P).take j).filter fun k => decide (payer os k = some o.py))))) ⟨Keep.upd_new hB, upd_same⟩ (fun j H8 _ ⟨k, _⟩ => SqL.of (k _ _ h6 (by simp))) ?_ ?_
      · rintro t x H8 hx ⟨K8, h8⟩
        have tl := (List.getElem?_eq_some_iff.mp hx).1
        rw [List.length_map] at tl
        obtain ⟨k, hk⟩ : ∃ k, ((List.range os.length).filter P)[t]? = some k := ⟨_, List.getElem?_eq_getElem tl⟩
        rw [List.getElem?_map, hk] at hx
        obtain rfl : V.int (k : Nat) = x := Option.some.inj hx
        have kl := List.mem_range.mp (List.mem_filter.mp (List.mem_of_getElem? hk)).1
        obtain ⟨u, hok⟩ : ∃ o, os[k]? = some o := ⟨_, List.getElem?_eq_getElem kl⟩
        obtain ⟨r', hr1', hr2'⟩ := (hO.keep (K6.trans K8)).at hok
        have hrr' : (rs.map V.ref)[k]? = some (.ref r') := by rw [List.getElem?_map, hr1']; rfl
        have hr2' : H8 r' = some (.tup [.str "order", .str u.py, .str u.pe, .int u.m, .int u.r, .int u.s, .int u.e]) := hr2'
        refine ⟨rfl, ?_⟩
        refine ⟨_, rfl, _, rfl, po, _, k, _, rfl, rfl, SqL.of ((K6.trans K8) _ _ ho (by simp)), atI_nat hrr', r', _, 1, _, rfl, rfl, SqT.of hr2', rfl, _, rfl, rfl, _, rfl, ?_⟩
        have epy : payer os k = some u.py := by unfold payer; rw [hok]; rfl
        rw [take_succ_of hk, List.filter_append]
        by_cases hn : u.py = o.py
        · rw [decide_eq_true (show V.str u.py = V.str o.py by rw [hn])]
          refine iteT ⟨_, rfl, _, h8, ?_, K8.trans_new hB, ?_⟩
          · rw [List.length_map]
            refine Nat.lt_of_le_of_lt (List.length_filter_le _ _) ?_
            rw [List.length_take]; omega
          · rw [upd_same]; simp [epy, hn, nats]
        · rw [decide_eq_false (show ¬ V.str u.py = V.str o.py from fun z => hn (by injection z))]
          refine iteF ⟨K8, ?_⟩
          rw [h8]; simp [epy, hn]
      · rintro H8 ⟨K8, h8⟩
        have : (nats ((List.range os.length).filter P)).length = ((List.range os.length).filter P).length := List.length_map ..
        rw [this, List.take_length, List.filter_filter] at h8
        have eat : (List.range os.length).filter (fun a => decide (payer os a = some o.py) && P a) = at_ os P os.length o.py := List.filter_congr fun a _ => by rw [Bool.and_comm]
        rw [eat] at h8
        have en2 : nats (at_ os P os.length o.py) = ((at_ os P os.length o.py).map fun i : Nat => (i : Int)).map V.int := by rw [List.map_map]; rfl
        have lin : l ∈ at_ os P os.length o.py := List.mem_filter.mpr ⟨List.mem_range.mpr gs.lt, by simp [gs.hp, gs.py]⟩
        refine noArg ?_
        refine ⟨B, _, rfl, SqL.of (en2 ▸ h8), by rw [List.length_map]; exact List.length_pos_of_mem lin, fun mx hm1 hm2 => ?_⟩
        obtain rfl : mx = (l : Int) := by
          obtain ⟨k, hk, rfl⟩ := List.mem_map.mp hm1
          have h2 := hm2 (l : Int) (List.mem_map.mpr ⟨l, lin, rfl⟩)
          obtain ⟨a, b⟩ := List.mem_filter.mp hk
          simp only [Bool.and_eq_true, decide_eq_true_eq] at b
          have := gs.la k (List.mem_range.mp a) b.1 b.2
          omega
        have K68 := K6.trans K8
        refine ⟨rfl, false, by simp, iteF ?_⟩
        have h68 := K8 _ _ h6 (by simp)
        refine ⟨_, rfl, _, rfl, _, rfl, pf, po, p0, fr, os, rs, _, rfl, K68 _ _ hf (by simp), K68 _ _ ho (by simp), hO.keep K68, F.size, h68, fun i hi => List.mem_range.mp (List.mem_filter.mp hi).1, by omega, fun pb H9 hpb K9 h9 => ?_⟩
        have hb := picks_bal (fr := fr) (P := P) G o.py
        generalize (picks os ((List.range os.length).filter P)).foldl stepI fr = h at h9 hb
        obtain ⟨g, hg⟩ : ∃ g, lookI h o.py = some g := by
          cases e : lookI h o.py with
          | some g => exact ⟨g, rfl⟩
          | none =>
            unfold getI at hb
            rw [e] at hb
            have := gs.be
            simp at hb; omega
        have gneg : g < 0 := by
          unfold getI at hb
          rw [hg] at hb
          have := gs.be
          simp at hb; omega
        have dg : DGet H9 pb (.str o.py) (some (.int g)) := by
          have := get_kvI (n := o.py) h9
          rw [hg] at this; exact this
        refine ⟨_, rfl, pb, .int g, rfl, dg, _, _, rfl, rfl, false, by show V.bl (decide (0 ≤ g)) = V.bl false; rw [decide_eq_false]; omega, iteF ?_⟩
        have h69 := K9 _ _ h68 (by simp)
        have nd : ((List.range os.length).filter P).Nodup := List.Pairwise.filter _ List.nodup_range
        obtain ⟨ys, zs, ef⟩ := List.append_of_mem (List.mem_filter.mpr ⟨List.mem_range.mpr gs.lt, gs.hp⟩)
        have erm : (List.range os.length).filter (rm P l) = ys ++ zs := by
          have : (List.range os.length).filter (rm P l) = ((List.range os.length).filter P).filter fun i => !decide (i = l) := by
            rw [List.filter_filter]; exact List.filter_congr fun a _ => by unfold rm; rw [Bool.and_comm]
          rw [this, ef] 
          rw [ef] at nd
          have n1 := List.nodup_append.mp nd
          have n2 := List.nodup_cons.mp n1.2.1
          rw [List.filter_append, List.filter_cons]
          have y1 : ys.filter (fun i => !decide (i = l)) = ys := List.filter_eq_self.mpr fun a ha => by have := n1.2.2 a ha l (by simp); simp [this]
          have z1 : zs.filter (fun i => !decide (i = l)) = zs := List.filter_eq_self.mpr fun a ha => by have : a ≠ l := fun e => n2.1 (e ▸ ha); simp [this]
          rw [y1, z1]; simp
        have nys : l ∉ ys := by
          rw [ef] at nd
          exact fun hy => (List.nodup_append.mp nd).2.2 l hy l (by simp) rfl
        have en3 : nats ((List.range os.length).filter P) = ((ys ++ l :: zs).map fun i : Nat => (i : Int)).map V.int := by rw [ef, List.map_map]; rfl
        rw [en3] at h69
        refine ⟨_, rfl, .inl ⟨rfl, _, SqL.of h69⟩, _, rfl, p0, _, (l : Int), ys.length, rfl, rfl, h69, by simp, fun m hm => ?_, ?_⟩
        · intro e
          rw [List.getElem?_map, List.getElem?_append_left hm, List.getElem?_eq_getElem hm] at e
          have e : (ys[m] : Int) = l := Option.some.inj e
          have : ys[m] = l := by omega
          exact nys (this ▸ List.getElem_mem hm)
        · have ee : (((ys ++ l :: zs).map fun i : Nat => (i : Int)).eraseIdx ys.length).map V.int = nats ((List.range os.length).filter (rm P l)) := by
            rw [erm]
            have : ((ys ++ l :: zs).map fun i : Nat => (i : Int)).eraseIdx ys.length = (ys ++ zs).map fun i : Nat => (i : Int) := by
              rw [List.map_append, List.map_append, List.eraseIdx_append_of_length_le (by rw [List.length_map]; omega)]
              simp
            rw [this, List.map_map]; rfl
          rw [ee]
          exact ⟨(K68.trans K9).trans_new hp0, rm P l, _, _, _, rfl, upd_same, wk7⟩
    · rintro σ H5 ⟨K5, P, v5, v6, v7, rfl, h5, wk5⟩
      rw [List.length_map, List.drop_length] at wk5
      obtain rfl := wk5.done
      refine ⟨_, rfl, _, rfl, _, _, Dp_nat (SqL.of h5), Dp_nat (SqL.of (K5 _ _ hpp (by simp))), shaped_nat _, shaped_nat _, ?_⟩
      rw [eqv_nat, decide_eq_true rfl]
      exact q _ K5
end
end My
set_option Elab.async false
set_option maxRecDepth 100000
set_option maxHeartbeats 1600000
namespace My
open PySem PySem.Spec PyProof.Rows L2
section
open AutoSeq1 (wpAny_loadPart')
open PySem.SeqAt
open MeetsSeq MeetsSeq2 MeetsSeq3 SeqRoads2
variable {prog : Program} {w : World}
/-- two pairs, alike item by item -/
theorem two_ne (l b : Addr) (p q p2 q2 : Value) (n n2 : Nat) (dd dd2 : Option Addr) (sl sl2 : Array (Option Value)) :
    MeetsIn prog w (Builtin.«tuple.__ne__» ⟨[.ref l, .ref b], []⟩) fun A R s => s.heap.get? l = some ⟨.type "tuple", dd, .seq #[p, q] n, sl⟩ ∧ s.heap.get? b = some ⟨.type "tuple", dd2, .seq #[p2, q2] n2, sl2⟩ ∧ EqIn prog w A.in1 s p p2 true ∧ EqIn prog w A.in1 s q q2 true ∧ R (.ok (.ret (.bool false))) s := by
  intro A R s h
  obtain ⟨hp, g, d, tk, os⟩ := s
  obtain ⟨hl, hb, h1, h2, hR⟩ := h
  have sb := AutoSeq1.sub_tuple_tuple
  wp_walk using wpAny_loadPart' hl, wpAny_loadPart' hb, wpAny_forIn_list _ (fun rest c s' => c.1 = none ∧ s' = ⟨hp, g, d, tk, os⟩ ∧ (rest = [(p, p2), (q, q2)] ∨ rest = [(q, q2)] ∨ rest = [])) _
  case turn =>
    rintro ⟨y, x⟩ rest c s' ⟨hc, rfl, hr⟩
    rcases hr with hr | hr | hr
    · injection hr with e1 e2
      injection e1 with e1 e3
      subst e1 e3 e2
      refine wpAny_bind (h1 _ _ ?_)
      wp_walk
      exact ⟨rfl, rfl, .inr (.inl rfl)⟩
    · injection hr with e1 e2
      injection e1 with e1 e3
      subst e1 e3 e2
      refine wpAny_bind (h2 _ _ ?_)
      wp_walk
      exact ⟨rfl, rfl, .inr (.inr rfl)⟩
    · cases hr
  case fin =>
    rintro ⟨c1, c2⟩ s' ⟨hc, rfl, hr⟩
    simp only at hc
    subst hc
    wp_walk
    simpa [Builtin.Tuple.tupleCompareSizes] using hR
  case h => exact ⟨rfl, rfl, .inl rfl⟩
end
section
variable {X : Cx}
/-- a pair of a dict and a list, and a pair of what was made of them before -/
def rNeKept : R2 := fun x y H Q => ∃ (t t2 a a2 l l2 : Addr) (fr : DI) (xs : List Addr), x = .ref t ∧ y = .ref t2 ∧ H t = some (.tup [.ref a, .ref l]) ∧ H t2 = some (.tup [.ref a2, .ref l2]) ∧ H a = some (.dK (kvI fr)) ∧ H a2 = some (.dK (kvI fr)) ∧
  (fr.map (·.1)).Nodup ∧ a ≠ a2 ∧ H l = some (.lst (xs.map V.ref)) ∧ H l2 = some (.lst (xs.map V.ref)) ∧ l ≠ l2 ∧ Q (.bl false) H
theorem refs_vals : ∀ {xs : List Addr} {us : List Value}, Vals (xs.map V.ref) us → us = xs.map Value.ref
  | [], _, h => by cases h; rfl
  | x :: r, _, h => by
    cases h with
    | cons h1 h2 =>
      rw [refs_vals h2]
      obtain rfl := (show _ = Value.ref x from h1)
      rfl
open PySem.SeqAt in
theorem op_neKept (hu : X.A.units + 64 < cLine) : OpR X (compareOp .NotEq) rNeKept := by
  intro pins s σ H x y v u Q I rx ry h
  obtain ⟨t, t2, a, a2, l, l2, fr, xs, rfl, rfl, ht, ht2, ha, ha2, nd, na, hl, hl2, nl, q⟩ := h
  obtain rfl : v = Value.ref t := rx
  obtain rfl : u = Value.ref t2 := ry
  obtain ⟨_, ya, va, ra, da⟩ := (show ObjOk X.prog X.w H s.heap a (.dK (kvI fr)) from I.hok a _ ha)
  obtain ⟨_, yb, vb, rb, db⟩ := (show ObjOk X.prog X.w H s.heap a2 (.dK (kvI fr)) from I.hok a2 _ ha2)
  obtain ⟨_, us, k, rv, h1⟩ := (show ObjOk X.prog X.w H s.heap l (.lst (xs.map V.ref)) from I.hok l _ hl)
  obtain ⟨_, us2, k2, rv2, h2⟩ := (show ObjOk X.prog X.w H s.heap l2 (.lst (xs.map V.ref)) from I.hok l2 _ hl2)
  obtain rfl := refs_vals rv
  obtain rfl := refs_vals rv2
  have hlen : va.length = vb.length := by rw [← ra.length, ← rb.length]
  have hp : ∀ p ∈ kvI fr, valV (kvI fr) p.1 = some p.2 ∧ flatB p.2 = true := by
    intro p hp
    obtain ⟨z, hz, rfl⟩ := List.mem_map.mp hp
    refine ⟨?_, rfl⟩
    show valV (kvI fr) (Sum.inr z.1) = _
    rw [valV_kvI, lookI_mem nd (show (z.1, z.2) ∈ fr from hz)]; rfl
  have ed : ∀ A : Around, A.units < cLine → EqIn X.prog X.w A s (.ref a) (.ref a2) true := fun A hA => EqIn.of_refs na fun E Q hq => PySem.W.keq_eq (knd := mixKind X.prog X.w) (r := true) ya yb da db hA (fun _ => hits_all rb ra hp) (by simpa [hlen] using hq)
  have el : ∀ A : Around, A.units < cLine → EqIn X.prog X.w A s (.ref l) (.ref l2) true := fun A hA => EqIn.of_refs nl fun E Q hq => rcIn_lists (e := fun _ => true) ⟨_, h1, rfl, _, rfl⟩ ⟨_, h2, rfl, _, rfl⟩ rfl hA (fun j j1 j2 => (SeqAt.EqAt.same _).inModel _ _) (by rw [List.all_eq_true.mpr fun _ _ => rfl]; exact hq)
  obtain ⟨its, r1, p1, _⟩ := I.tuple (SqT.of ht)
  obtain ⟨its2, r2, p2, _⟩ := I.tuple (SqT.of ht2)
  obtain ⟨u1, u2, rfl, e1, e2⟩ := vals2 r1
  obtain ⟨w1, w2, rfl, f1, f2⟩ := vals2 r2
  obtain rfl : u1 = Value.ref a := e1
  obtain rfl : u2 = Value.ref l := e2
  obtain rfl : w1 = Value.ref a2 := f1
  obtain rfl : w2 = Value.ref l2 := f2
  obtain ⟨⟨c1, d1, da1, s1⟩, o1, hc1, n1, hd1⟩ := p1
  obtain ⟨⟨c2, d2, da2, s2⟩, o2, hc2, n2, hd2⟩ := p2
  simp only at hc1 hd1 hc2 hd2
  subst hc1 hd1 hc2 hd2
  have hu0 : X.A.units < cLine := by omega
  have hu1 : X.A.in1.units < cLine := by show X.A.units + 1 < cLine; omega
  exact wpAny_richCompare_same_room (T := "tuple") (op := .NotEq) ⟨_, o1, rfl⟩ ⟨_, o2, rfl⟩ F.slot_tuple_ne (call_meetsIn F.slot_tuple_ne ⟨_, o1, rfl⟩ F.entry_tuple_ne (F.args_tuple_ne_2 _ _) (two_ne t t2 _ _ _ _ n1 n2 d1 d2 s1 s2)
    ⟨o1, o2, ed _ hu1, el _ hu1, (fun z => nomatch z), ⟨.bl false, H, I, rfl, q⟩⟩) hu0
end
end My
set_option Elab.async false
set_option maxRecDepth 100000
set_option maxHeartbeats 800000
namespace My
open PySem L2 TL StX
theorem sq_keep {K : PySem.W.Frag} {H H' : Hp} {a : Addr} {xs : List V} {ds : List Addr} (h : SqL K H a xs) (k : Keep ds H H') (n : ∀ o, H a = some o → a ∉ ds) : SqL K H' a xs := by
  rcases h with (h | ⟨o, h⟩) | h
  · exact .inl (.inl (k _ _ h (n _ h)))
  · exact .inl (.inr ⟨o, k _ _ h (n _ h)⟩)
  · exact .inr h
/-- f(k = v, ..) alone -/
theorem pe_callK0 {X : Cx} {CX : CXT} {k : Nat} {f : Addr} {fd : FuncData} {ps ks : List Str} {sp : Sp} {E : XK} {x : Str} {p pos : Pos} {kws : List Keyword} {tk : TA} {g : List Value → List Value → List Value} {gV : List V → List V → List V}
    (F : FnOk X.prog X.w X.K X.mg X.base CX k f fd ps sp) (hr : Room k X.A) (hg : Gl X x) (hm : X.mg x = some (.ref f)) (hk : PySem.W.keepIn X.K (.ref f) = true) (hb : KBinds X.K fd ps ks g gV) (hx : Passes CX X E) (hkw : PK X kws tk)
    (hall : (backToKw pos (keywordEach kws X.env)).all (·.1.isSome) = true := by rfl) (hks : (backToKw pos (keywordEach kws X.env)).filterMap (·.1) = ks := by rfl) (hdb : (x == ("__debug__" : Str)) = false := by decide)
    (hpl : ((backTo pos (starEach [] X.env)).any (·.1) || (backToKw pos (keywordEach kws X.env)).any (·.1.isNone)) = false := by rfl) :
    PE X (.Call (.Name x p) [] kws pos) (fun σ H Q => tk σ H fun zs H1 => sp (gV [] zs) H1 Q E) := by
  refine ⟨fun pins s σ H Q I h => wpAny_Call_Name_kw (ld_glob I hg hm ?_ hdb)⟩
  refine PySem.W.callWith_KW0 (h₀ := X.base) I.ok.mod.kin hk hall ?_ hpl
  refine thn (hkw.run pos pins s σ H _ I h) fun ws s2 ⟨zs, H2, I2, rz, q2⟩ => ⟨I2.kIn, ?_⟩
  rw [hks]
  exact run_fnk F hr hb hx I2 (us := []) (vs := []) .nil rz q2
theorem vals_rev : ∀ {vs : List V} {us : List Value}, Vals vs us → Vals vs.reverse us.reverse
  | _, _, .nil => .nil
  | _, _, .cons a t => by rw [List.reverse_cons, List.reverse_cons]; exact (vals_rev t).append (.cons a .nil)
structure Fd where
  R : Addr
  L : Addr
  W : Addr
  E : Nat → Bool
  w : List Nat
structure FdOk (fr : DI) (os : List O) (H0 H : Hp) (f : Fd) : Prop where
  hR : H f.R = some (.tup [.ref f.L, .ref f.W])
  hL : H f.L = some (.lst (nats ((List.range os.length).filter f.E)))
  hW : H f.W = some (.tup (nats f.w))
  hn : H0 f.L = none
  wk : Walk fr os (fun _ => true) f.w f.E
  gr : Great fr os f.E
theorem FdOk.keep {fr : DI} {os : List O} {H0 H H' : Hp} {f : Fd} (o : FdOk fr os H0 H f) (k : Keep [] H H') : FdOk fr os H0 H' f :=
  { o with hR := k _ _ o.hR (by simp), hL := k _ _ o.hL (by simp), hW := k _ _ o.hW (by simp) }
theorem tup_notin {H : Hp} {Fs : List Fd} {os : List O} (h : ∀ f ∈ Fs, H f.L = some (.lst (nats ((List.range os.length).filter f.E)))) {t : Addr} {xs : List V} (ht : H t = some (.tup xs)) : t ∉ Fs.map (·.L) := fun z => by
  obtain ⟨f, hf, e⟩ := List.mem_map.mp z
  have := h f hf
  rw [e, ht] at this; cases this
section
variable {P : Program} {w : World} {K : PySem.W.Frag} {mg : Str → Option Value} {base : Heap}
theorem kb_gr {f : Addr} {fd : FuncData} (F : Fun K "greatest" "greatest" s_greatest f fd) : KBinds K fd ["free", "orders"] ["orders", "free"] (fun us ws => us ++ ws.reverse) (fun vs zs => vs ++ zs.reverse) := by
  obtain ⟨oc, od, kV, doc, pm, an, cdv, ct, osl, rfl, lk, hcd⟩ := F.ex
  refine ⟨fun s us ws _ hl => ?_, fun r rz => r.append (vals_rev rz)⟩
  have hl : us.length + ws.length = 2 := by simpa using hl
  rcases us with _ | ⟨v, _ | ⟨u, _ | ⟨t, us⟩⟩⟩ <;> rcases ws with _ | ⟨x, _ | ⟨y, _ | ⟨z, ws⟩⟩⟩ <;> first | (exfalso; simp only [List.length_cons, List.length_nil] at hl; omega) | exact .of_eq rfl
theorem kb_sh {f : Addr} {fd : FuncData} (F : Fun K "shows_greatest" "shows_greatest" s_shows_greatest f fd) : KBinds K fd ["free", "orders", "told"] ["told", "orders", "free"] (fun us ws => us ++ ws.reverse) (fun vs zs => vs ++ zs.reverse) := by
  obtain ⟨oc, od, kV, doc, pm, an, cdv, ct, osl, rfl, lk, hcd⟩ := F.ex
  refine ⟨fun s us ws _ hl => ?_, fun r rz => r.append (vals_rev rz)⟩
  have hl : us.length + ws.length = 3 := by simpa using hl
  rcases us with _ | ⟨v, _ | ⟨u, _ | ⟨t, _ | ⟨i, us⟩⟩⟩⟩ <;> rcases ws with _ | ⟨x, _ | ⟨y, _ | ⟨z, _ | ⟨j, ws⟩⟩⟩⟩ <;> first | (exfalso; simp only [List.length_cons, List.length_nil] at hl; omega) | exact .of_eq rfl
theorem DrawAt.nlst {H : Hp} {d c p : Addr} {xs : List V} (D : DrawAt H d c) (h : H p = some (.lst xs)) : p ∉ [d] := fun z => by
  obtain rfl : p = d := by simpa using z
  obtain ⟨ns, k, l, m, h1, _⟩ := D
  rw [h1] at h; cases h
def sp_law (K : PySem.W.Frag) : Sp := fun vs H Q _ => ∃ (a : Addr) (ns : List Int), vs = [.ref a] ∧ SqL K H a (ns.map V.int) ∧ ns.length ≤ 63 ∧ ∀ H', Q (.bl true) H'
theorem g_law (T : Txt K mg) {f : Addr} {fd : FuncData} (F : Fun K "law" "law" s_law f fd) : FnOk P w K mg base CX0 7 f fd ["script"] (sp_law K) := by
  obtain ⟨f_greatest, fd_greatest, D_greatest, G_greatest⟩ := p_greatest (P := P) (w := w) (base := base) T; obtain ⟨f_shows_greatest, fd_shows_greatest, D_shows_greatest, G_shows_greatest⟩ := p_shows_greatest (P := P) (w := w) (base := base) T; obtain ⟨f__law_paper_right, fd__law_paper_right, D__law_paper_right, G__law_paper_right⟩ := p__law_paper_right (P := P) (w := w) (base := base) T; obtain ⟨f__law_most, fd__law_most, D__law_most, G__law_most⟩ := p__law_most (P := P) (w := w) (base := base) T; obtain ⟨f__law_means, fd__law_means, D__law_means, G__law_means⟩ := p__law_means (P := P) (w := w) (base := base) T; obtain ⟨f__law_lot, fd__law_lot, D__law_lot, G__law_lot⟩ := p__law_lot (P := P) (w := w) (base := base) T; obtain ⟨f__law_next, fd__law_next, D__law_next, G__law_next⟩ := p__law_next (P := P) (w := w) (base := base) T; obtain ⟨f__law_crew, fd__law_crew, D__law_crew, G__law_crew⟩ := p__law_crew (P := P) (w := w) (base := base) T; obtain ⟨f__law_begin, fd__law_begin, D__law_begin, G__law_begin⟩ := p__law_begin (P := P) (w := w) (base := base) T
  have kb_greatest := kb_gr D_greatest.F
  have kb_shows_greatest := kb_sh D_shows_greatest.F
  refine F.ok sc_law (fun vs H Q E h => ?_) (fun cdv A outer s H vs Q E hr h => ?_)
  · obtain ⟨a, ns, rfl, _⟩ := h; rfl
  · obtain ⟨a, ns, rfl, hS, hl, q⟩ := h
    have hsl : sizeLine = 16777216 := sizeLine_eq
    refine ⟨_, (pss_cons (ps_set (i := 1) sc_law.nd rfl (Or.inl rfl) (pe_call G__law_begin (hr.mono (by decide)) rfl D__law_begin.m D__law_begin.F.kp D__law_begin.b .nil pass0 (pa_cons (pv 0) pa_nil)))
      (pss_cons (ps_set (i := 2) sc_law.nd rfl (Or.inl rfl) (pe_cmpR op_eq (pe_call G__law_next (hr.mono (by decide)) rfl D__law_next.m D__law_next.F.kp D__law_next.b .nil pass0 (pa_cons (pv 1) (pa_cons pe_int pa_nil))) pe_int (nomark _)))
      (pss_cons (ps_set (i := 3) sc_law.nd rfl (Or.inl rfl) (pe_call G__law_crew (hr.mono (by decide)) rfl D__law_crew.m D__law_crew.F.kp D__law_crew.b .nil pass0 (pa_cons (pv 1) (pa_cons (pe_op op_add pe_int (pe_call G__law_next (hr.mono (by decide)) rfl D__law_next.m D__law_next.F.kp D__law_next.b .nil pass0 (pa_cons (pv 1) (pa_cons pe_int pa_nil)))) pa_nil))))
      (pss_cons (ps_set (i := 4) sc_law.nd rfl (Or.inl rfl) (pe_call G__law_lot (hr.mono (by decide)) rfl D__law_lot.m D__law_lot.F.kp D__law_lot.b .nil pass0 (pa_cons (pv 1) (pa_cons (pv 3) (pa_cons (pe_ifExp (pt_val (pv 2)) (pe_op op_add pe_int (pe_call G__law_next (hr.mono (by decide)) rfl D__law_next.m D__law_next.F.kp D__law_next.b .nil pass0 (pa_cons (pv 1) (pa_cons pe_int pa_nil)))) (pe_call G__law_next (hr.mono (by decide)) rfl D__law_next.m D__law_next.F.kp D__law_next.b .nil pass0 (pa_cons (pv 1) (pa_cons pe_int pa_nil)))) pa_nil)))))
      (pss_cons (ps_set (i := 5) sc_law.nd rfl (Or.inl rfl) (pe_call G__law_means (hr.mono (by decide)) rfl D__law_means.m D__law_means.F.kp D__law_means.b .nil pass0 (pa_cons (pv 1) (pa_cons (pv 3) pa_nil))))
      (pss_cons (ps_set (i := 6) sc_law.nd rfl (Or.inl rfl) (pe_tup (pa_cons (pe_callTy call_dictD (by rfl) T.z_dict (by decide +kernel) (pa_cons (pv 5) pa_nil)) (pa_cons (pe_callTy call_list_of (by rfl) T.z_list (by decide +kernel) (pa_cons (pv 4) pa_nil)) pa_nil))))
      (pss_cons (ps_set (i := 7) sc_law.nd rfl (Or.inl rfl) (pe_call G__law_most (hr.mono (by decide)) rfl D__law_most.m D__law_most.F.kp D__law_most.b .nil pass0 (pa_cons (pv 5) (pa_cons (pv 4) pa_nil))))
      (pss_cons (ps_for PassesOwn.never rfl (pi_list (pe_lst (pa_cons (pe_call G_greatest (hr.mono (by decide)) rfl D_greatest.m D_greatest.F.kp D_greatest.b .nil pass0 (pa_cons (pv 5) (pa_cons (pv 4) pa_nil))) (pa_cons (pe_callK0 G_greatest (hr.mono (by decide)) rfl D_greatest.m D_greatest.F.kp kb_greatest pass0 (pk_cons (pe_callTy call_tuple_of (by rfl) T.z_tuple (by decide +kernel) (pa_cons (pv 4) pa_nil)) (pk_cons (pv 5) pk_nil))) (pa_cons (pe_call G_greatest (hr.mono (by decide)) rfl D_greatest.m D_greatest.F.kp D_greatest.b .nil pass0 (pa_cons (pv 5) (pa_cons (pv 4) pa_nil))) pa_nil))))) (pg_name (i := 8) sc_law.nd rfl (Or.inl rfl)) (pss_cons (ps_if (PW.pt (pw_or (pt_not (pt_val (pe_callB call_isi (by rfl) T.z_isinstance (by decide +kernel) (pa_cons (pv 8) (pa_cons (pe_bltn (by rfl) T.z_tuple (by decide +kernel) (v := .ty "tuple") rfl) pa_nil))))) (pw_or (pt_cmpR op_ne (pe_callB call_len_seq (by rfl) T.z_len (by decide +kernel) (pa_cons (pv 8) pa_nil)) pe_int (nomark _)) (pw_or (pt_not (pt_val (pe_callB call_isi (by rfl) T.z_isinstance (by decide +kernel) (pa_cons (pe_ix ix_tup (pv 8) pe_int (fun _ _ => rfl)) (pa_cons (pe_bltn (by rfl) T.z_list (by decide +kernel) (v := .ty "list") rfl) pa_nil))))) (pw_or1 (pt_cmpR (op_neD hr.units) (pe_ix ix_tup (pv 8) pe_int (fun _ _ => rfl)) (pv 7) (nomark _))))))) (pss_one (ps_ret pe_bl)) pss_nil)
      (pss_cons (ps_if (PW.pt (pw_or (pt_not (pt_val (pe_call G__law_paper_right (hr.mono (by decide)) rfl D__law_paper_right.m D__law_paper_right.F.kp D__law_paper_right.b .nil pass0 (pa_cons (pv 5) (pa_cons (pv 4) (pa_cons (pe_ix ix_tup (pv 8) pe_int (fun _ _ => rfl)) (pa_cons (pe_ix ix_tup (pv 8) pe_int (fun _ _ => rfl)) pa_nil))))))) (pw_or1 (pt_cmpR op_isnot_bl (pe_call G_shows_greatest (hr.mono (by decide)) rfl D_shows_greatest.m D_shows_greatest.F.kp D_shows_greatest.b .nil pass0 (pa_cons (pv 5) (pa_cons (pv 4) (pa_cons (pv 8) pa_nil)))) pe_bl (nomark _))))) (pss_one (ps_ret pe_bl)) pss_nil)
      (pss_cons (ps_if (PW.pt (pw_or (pt_cmpR op_isnot_bl (pe_callK0 G_shows_greatest (hr.mono (by decide)) rfl D_shows_greatest.m D_shows_greatest.F.kp kb_shows_greatest pass0 (pk_cons (pv 8) (pk_cons (pv 4) (pk_cons (pv 5) pk_nil)))) pe_bl (nomark _)) (pw_or1 (pt_cmpR (op_neKept hr.units) (pe_tup (pa_cons (pv 5) (pa_cons (pv 4) pa_nil))) (pv 6) (nomark _))))) (pss_one (ps_ret pe_bl)) pss_nil)
      (pss_one (ps_expr (pe_bm PySem.F.plainAttrs_list PySem.F.slot_list_append PySem.F.type_list_append mt_append (pe_ix ix_tup (pv 8) pe_int (fun _ _ => rfl)) (pa_cons pe_int pa_nil))))))))
      (pss_one (ps_ret pe_bl)))))))))), ?_⟩
    refine ⟨_, rfl, a, ns, rfl, hS, hl, fun d c H1 hd hc D1 K1 => ?_⟩
    refine ⟨_, rfl, d, c, _, rfl, D1, by decide, by decide, fun r H2 r0 r1 D2 K2 => ⟨rfl, ?_⟩⟩
    refine ⟨_, rfl, _, rfl, d, c, _, rfl, D2, by decide, by decide, fun r H3 r0 r1 D3 K3 => ⟨_, _, rfl, rfl, d, c, _, rfl, D3, by omega, by omega, fun p zs H4 hp hp4 C4 lz D4 K4 => ?_⟩⟩
    refine ⟨_, rfl, _, rfl, _, rfl, _, rfl, ite2 (fun _ => ?_) (fun _ => ?_)⟩
    · refine ⟨_, rfl, d, c, _, rfl, D4, by decide, by decide, fun g H5 g0 g1 D5 K5 => ⟨_, _, rfl, rfl, ?_⟩⟩
      have hp5 := K5 _ _ hp4 (D4.nlst hp4)
      refine ⟨d, c, p, zs, _, rfl, D5, hp5, C4, by omega, by omega, by omega, by omega, fun pl rs os H6 hpl h6 O6 G6 len6 D6 K6 => ?_⟩
      have l60 : os.length ≤ 60 := by omega
      clear len6
      refine ⟨_, rfl, _, rfl, d, c, p, zs, rfl, D6, K6 _ _ hp5 (D5.nlst hp5), C4, by omega, fun pf fr H7 hpf h7 F7 D7 K7 => ?_⟩
      have h67 := K7 _ _ h6 (D6.nlst h6)
      have O7 := O6.keepD K7 D6.notup
      clear D1 D2 D3 D4 D5 D6 D7 K1 K2 K3 K4 K5 K6 K7 hp4 hp5 h6 O6 hpl hpf hp hd hc
      refine ⟨_, rfl, pf, _, rfl, .inl h7, fun kd hkd => ?_⟩
      have hs7 := Keep.upd_new (ds := []) hkd (o := .dK (kvI fr)) _ _ h67 (by simp)
      refine ⟨_, rfl, pl, _, rfl, .inl (SqL.of hs7), fun kl hkl => ⟨by show 2 ≤ sizeLine; omega, fun pk hpk => ?_⟩⟩
      have K8 : Keep [] H7 (upd (upd (upd H7 kd (.dK (kvI fr))) kl (.lst (rs.map V.ref))) pk (.tup [.ref kd, .ref kl])) := ((Keep.upd_new hkd).trans (Keep.upd_new hkl)).trans (Keep.upd_new hpk)
      have hkd8 : (upd (upd (upd H7 kd (.dK (kvI fr))) kl (.lst (rs.map V.ref))) pk (.tup [.ref kd, .ref kl])) kd = some (.dK (kvI fr)) := ((Keep.upd_new (ds := []) hkl).trans (Keep.upd_new hpk)) _ _ upd_same (by simp)
      have hkl8 : (upd (upd (upd H7 kd (.dK (kvI fr))) kl (.lst (rs.map V.ref))) pk (.tup [.ref kd, .ref kl])) kl = some (.lst (rs.map V.ref)) := (Keep.upd_new (ds := []) hpk) _ _ upd_same (by simp)
      have hpk8 : (upd (upd (upd H7 kd (.dK (kvI fr))) kl (.lst (rs.map V.ref))) pk (.tup [.ref kd, .ref kl])) pk = some (.tup [.ref kd, .ref kl]) := upd_same
      have nd8 : pf ≠ kd := ne_of_none h7 hkd
      have nl8 : pl ≠ kl := ne_of_none hs7 hkl
      have h78 := K8 _ _ h7 (by simp)
      have h68 := K8 _ _ h67 (by simp)
      have O8 := O7.keep K8
      generalize upd (upd (upd H7 kd (.dK (kvI fr))) kl (.lst (rs.map V.ref))) pk (.tup [.ref kd, .ref kl]) = H8 at hkd8 hkl8 hpk8 h78 h68 O8
      clear K8 O7 hkl hkd hpk hs7 h67 h7
      refine ⟨_, rfl, _, rfl, pf, pl, fr, os, rs, rfl, h78, h68, O8, F7, G6, l60, fun pd E0 H9 hpd K9 hd9 gr0 => ?_⟩
      have h79 := K9 _ _ h78 (by simp)
      have h69 := K9 _ _ h68 (by simp)
      have O9 := O8.keep K9
      have hkd9 := K9 _ _ hkd8 (by simp)
      have hkl9 := K9 _ _ hkl8 (by simp)
      have hpk9 := K9 _ _ hpk8 (by simp)
      clear O8 hpk8 hkl8 hkd8 h68 h78 hpd K9
      refine ⟨_, rfl, _, rfl, pf, pl, fr, os, rfl, h79, ⟨rs, .inl h69, O9⟩, F7, G6, l60, fun R1 L1 W1 P1 w1 HA KA hRA hLA hnA hWA wk1 gr1 => ?_⟩
      refine ⟨_, rfl, pl, _, rfl, .inl ⟨SqL.of (KA _ _ h69 (by simp)), fun po hpo => ?_⟩⟩
      have KB := KA.trans (Keep.upd_new hpo (o := .tup (rs.map V.ref)))
      have hob : (upd HA po (.tup (rs.map V.ref))) po = some (.tup (rs.map V.ref)) := upd_same
      have KAB : Keep [] HA (upd HA po (.tup (rs.map V.ref))) := Keep.upd_new hpo
      generalize upd HA po (.tup (rs.map V.ref)) = HB at KB hob KAB
      refine ⟨_, rfl, pf, po, fr, os, rfl, KB _ _ h79 (by simp), ⟨rs, .inr hob, O9.keep KB⟩, F7, G6, l60, fun R2 L2 W2 P2 w2 HC KC hRC hLC hnC hWC wk2 gr2 => ?_⟩
      have K9C := KB.trans KC
      refine ⟨_, rfl, _, rfl, pf, pl, fr, os, rfl, K9C _ _ h79 (by simp), ⟨rs, .inl (K9C _ _ h69 (by simp)), O9.keep K9C⟩, F7, G6, l60, fun R3 L3 W3 P3 w3 HD KD hRD hLD hnD hWD wk3 gr3 => ?_⟩
      have KAD := (KAB.trans KC).trans KD
      have K9D := K9C.trans KD
      have n12 : L1 ≠ L2 := ne_of_none (KAB _ _ hLA (by simp)) hnC
      have n13 : L1 ≠ L3 := ne_of_none ((KAB.trans KC) _ _ hLA (by simp)) hnD
      have n23 : L2 ≠ L3 := ne_of_none hLC hnD
      obtain ⟨Fs, hFs⟩ : ∃ Fs : List Fd, Fs = [⟨R1, L1, W1, P1, w1⟩, ⟨R2, L2, W2, P2, w2⟩, ⟨R3, L3, W3, P3, w3⟩] := ⟨_, rfl⟩
      have okF : ∀ f ∈ Fs, FdOk fr os H9 HD f := by
        intro f hf
        rw [hFs] at hf
        simp only [List.mem_cons, List.not_mem_nil, or_false] at hf
        rcases hf with rfl | rfl | rfl
        · exact ⟨KAD _ _ hRA (by simp), KAD _ _ hLA (by simp), KAD _ _ hWA (by simp), hnA, wk1, gr1⟩
        · exact ⟨KD _ _ hRC (by simp), KD _ _ hLC (by simp), KD _ _ hWC (by simp), KB.none_of hnC (by simp), wk2, gr2⟩
        · exact ⟨hRD, hLD, hWD, K9C.none_of hnD (by simp), wk3, gr3⟩
      have ndF : (Fs.map (·.L)).Nodup := by rw [hFs]; simp [n12, n13, n23]
      have xF : [V.ref R1, V.ref R2, V.ref R3] = Fs.map fun f => V.ref f.R := by rw [hFs]; rfl
      clear KA KB KC KD KAB K9C hRA hLA hnA hWA wk1 gr1 hRC hLC hnC hWC wk2 gr2 hRD hLD hnD hWD wk3 gr3 hpo hob n12 n13 n23 hFs KAD
      refine noArg ?_
      refine ⟨by show 3 ≤ sizeLine; omega, fun LL hLL => ?_⟩
      rw [xF]
      have KE := K9D.trans (Keep.upd_new hLL (o := .lst (Fs.map fun f => V.ref f.R)))
      have nLL : LL ∉ Fs.map (·.L) := fun z => by
        obtain ⟨f, hf, e⟩ := List.mem_map.mp z
        exact ne_of_none (okF f hf).hL hLL e
      have okF : ∀ f ∈ Fs, FdOk fr os H9 (upd HD LL (.lst (Fs.map fun f => V.ref f.R))) f := fun f hf => (okF f hf).keep (Keep.upd_new hLL)
      have hLs : (upd HD LL (.lst (Fs.map fun f => V.ref f.R))) LL = some (.lst (Fs.map fun f => V.ref f.R)) := upd_same
      generalize upd HD LL (.lst (Fs.map fun f => V.ref f.R)) = HE at KE okF hLs
      clear K9D hLL xF
      refine ⟨LL, rfl, ⟨_, SqL.of hLs⟩, for_list (K := K) (a := LL) (xs := Fs.map fun f => V.ref f.R) (fun j σ H => ∃ v2 v8, σ = [some (.ref a), some (.ref d), v2, some (.ref p), some (.ref pl), some (.ref pf), some (.ref pk), some (.ref pd), v8] ∧ Keep [] H9 H ∧ Keep (Fs.map (·.L)) HE H ∧ ∀ m f, j ≤ m → Fs[m]? = some f → H f.L = some (.lst (nats ((List.range os.length).filter f.E)))) ⟨_, _, rfl, KE, Keep.refl, fun m f _ hf => (okF f (List.mem_of_getElem? hf)).hL⟩ (fun j σ H _ ⟨_, _, _, _, k, _⟩ => SqL.of (k _ _ hLs nLL)) ?_ ?_⟩
      · rintro j x σ Hj hx ⟨v2, v8, rfl, K9j, KEj, rest⟩
        rw [List.getElem?_map] at hx
        obtain ⟨f, hf, rfl⟩ := Option.map_eq_some_iff.mp hx
        have fm := List.mem_of_getElem? hf
        have ok := okF f fm
        have hR := KEj _ _ ok.hR (tup_notin (fun f hf => (okF f hf).hL) ok.hR)
        have hW := KEj _ _ ok.hW (tup_notin (fun f hf => (okF f hf).hL) ok.hW)
        have hLj := rest j f (Nat.le_refl _) hf
        have eE : (List.range os.length).filter f.E = (List.range os.length).filter E0 := Great.uniq ok.gr gr0
        have fl : ((List.range os.length).filter f.E).length ≤ 60 := by
          have := List.length_filter_le f.E (List.range os.length)
          rw [List.length_range] at this; omega
        refine ⟨_, rfl, _, _, _, _, true, rfl, .ty _, .base (.tup hR), kit_ty (by decide +kernel), _, rfl, iteF ?_⟩
        refine ⟨_, rfl, f.R, _, rfl, .inr (SqT.of hR), rfl, false, rfl, iteF ?_⟩
        refine ⟨_, rfl, f.R, _, 0, V.ref f.L, rfl, rfl, SqT.of hR, rfl, _, _, _, _, true, rfl, .ty _, .base (.lst hLj), kit_ty (by decide +kernel), _, rfl, iteF ?_⟩
        refine ⟨_, rfl, f.R, _, 0, V.ref f.L, rfl, rfl, SqT.of hR, rfl, _, rfl, _, _, Dp_nat (SqL.of hLj), Dp_nat (SqL.of (K9j _ _ hd9 (by simp))), shaped_nat _, shaped_nat _, ?_⟩
        rw [eqv_nat, decide_eq_true eE]
        refine ⟨false, rfl, iteF ?_⟩
        refine ⟨_, rfl, _, rfl, _, rfl, f.R, _, 0, V.ref f.L, rfl, rfl, SqT.of hR, rfl, _, rfl, f.R, _, 1, V.ref f.W, rfl, rfl, SqT.of hR, rfl, ?_⟩
        refine ⟨pf, pl, f.L, f.W, fr, os, rs, f.E, f.w, rfl, K9j _ _ h79 (by simp), K9j _ _ h69 (by simp), O9.keep K9j, F7, G6, l60, hLj, hW, ok.wk, fun Hk Kk => ?_⟩
        refine ⟨_, rfl, iteF ?_⟩
        have K9k := K9j.trans Kk
        refine ⟨_, rfl, _, rfl, _, rfl, pf, pl, f.R, f.L, f.W, fr, os, f.E, f.w, rfl, K9k _ _ h79 (by simp), ⟨rs, .inl (K9k _ _ h69 (by simp)), O9.keep K9k⟩, F7, G6, l60, Kk _ _ hR (by simp), Kk _ _ hLj (by simp), Kk _ _ hW (by simp), ok.wk, ok.gr, fun Hl Kl => ?_⟩
        refine ⟨_, _, rfl, rfl, false, rfl, iteF ?_⟩
        have Kjl := Kk.trans Kl
        have K9l := K9j.trans Kjl
        refine ⟨_, rfl, _, rfl, _, rfl, pf, pl, f.R, f.L, f.W, fr, os, f.E, f.w, rfl, K9l _ _ h79 (by simp), ⟨rs, .inl (K9l _ _ h69 (by simp)), O9.keep K9l⟩, F7, G6, l60, Kjl _ _ hR (by simp), Kjl _ _ hLj (by simp), Kjl _ _ hW (by simp), ok.wk, ok.gr, fun Hm Km => ?_⟩
        refine ⟨_, _, rfl, rfl, false, rfl, iteF ?_⟩
        have Kjm := Kjl.trans Km
        have K9m := K9j.trans Kjm
        refine ⟨_, rfl, _, rfl, by show 2 ≤ sizeLine; omega, fun t ht => ?_⟩
        have Kt := Keep.upd_new (ds := []) ht (o := .tup [V.ref pf, .ref pl])
        have htt : (upd Hm t (.tup [V.ref pf, .ref pl])) t = some (.tup [V.ref pf, .ref pl]) := upd_same
        have Kjt := Kjm.trans Kt
        have K9t := K9j.trans Kjt
        generalize upd Hm t (.tup [V.ref pf, .ref pl]) = Ht at Kjt K9t htt
        refine ⟨_, rfl, t, pk, pf, kd, pl, kl, fr, rs, rfl, rfl, htt, K9t _ _ hpk9 (by simp), K9t _ _ h79 (by simp), K9t _ _ hkd9 (by simp), F7.nd, nd8, K9t _ _ h69 (by simp), K9t _ _ hkl9 (by simp), nl8, false, rfl, iteF ?_⟩
        have hLt := Kjt _ _ hLj (by simp)
        refine ⟨_, rfl, f.R, _, 0, V.ref f.L, rfl, rfl, SqT.of (Kjt _ _ hR (by simp)), rfl, .inl ⟨rfl, _, SqL.of hLt⟩, f.L, _, _, rfl, rfl, hLt, by rw [List.length_map]; omega, ?_⟩
        refine ⟨_, _, rfl, K9t.trans_new ok.hn, (KEj.trans (Kjt.mono (by simp))).trans (Keep.upd_in (List.mem_map.mpr ⟨f, fm, rfl⟩)), fun m g hm hg => ?_⟩
        have ne : g.L ≠ f.L := fun e => by
          have jl : j < (Fs.map (·.L)).length := by rw [List.length_map]; exact (List.getElem?_eq_some_iff.mp hf).1
          have := (List.getElem?_inj (j := m) jl ndF).mp (by rw [List.getElem?_map, List.getElem?_map, hf, hg]; exact congrArg some e.symm)
          omega
        rw [upd_ne ne]
        exact Kjt _ _ (rest m g (by omega) hg) (by simp)
      · rintro σ Hj ⟨v2, v8, rfl, _⟩
        exact q Hj
    · refine ⟨_, rfl, d, c, _, rfl, D4, by decide, by decide, fun g H5 g0 g1 D5 K5 => ?_⟩
      have hp5 := K5 _ _ hp4 (D4.nlst hp4)
      refine ⟨d, c, p, zs, _, rfl, D5, hp5, C4, by omega, by omega, by omega, by omega, fun pl rs os H6 hpl h6 O6 G6 len6 D6 K6 => ?_⟩
      have l60 : os.length ≤ 60 := by omega
      clear len6
      refine ⟨_, rfl, _, rfl, d, c, p, zs, rfl, D6, K6 _ _ hp5 (D5.nlst hp5), C4, by omega, fun pf fr H7 hpf h7 F7 D7 K7 => ?_⟩
      have h67 := K7 _ _ h6 (D6.nlst h6)
      have O7 := O6.keepD K7 D6.notup
      clear D1 D2 D3 D4 D5 D6 D7 K1 K2 K3 K4 K5 K6 K7 hp4 hp5 h6 O6 hpl hpf hp hd hc
      refine ⟨_, rfl, pf, _, rfl, .inl h7, fun kd hkd => ?_⟩
      have hs7 := Keep.upd_new (ds := []) hkd (o := .dK (kvI fr)) _ _ h67 (by simp)
      refine ⟨_, rfl, pl, _, rfl, .inl (SqL.of hs7), fun kl hkl => ⟨by show 2 ≤ sizeLine; omega, fun pk hpk => ?_⟩⟩
      have K8 : Keep [] H7 (upd (upd (upd H7 kd (.dK (kvI fr))) kl (.lst (rs.map V.ref))) pk (.tup [.ref kd, .ref kl])) := ((Keep.upd_new hkd).trans (Keep.upd_new hkl)).trans (Keep.upd_new hpk)
      have hkd8 : (upd (upd (upd H7 kd (.dK (kvI fr))) kl (.lst (rs.map V.ref))) pk (.tup [.ref kd, .ref kl])) kd = some (.dK (kvI fr)) := ((Keep.upd_new (ds := []) hkl).trans (Keep.upd_new hpk)) _ _ upd_same (by simp)
      have hkl8 : (upd (upd (upd H7 kd (.dK (kvI fr))) kl (.lst (rs.map V.ref))) pk (.tup [.ref kd, .ref kl])) kl = some (.lst (rs.map V.ref)) := (Keep.upd_new (ds := []) hpk) _ _ upd_same (by simp)
      have hpk8 : (upd (upd (upd H7 kd (.dK (kvI fr))) kl (.lst (rs.map V.ref))) pk (.tup [.ref kd, .ref kl])) pk = some (.tup [.ref kd, .ref kl]) := upd_same
      have nd8 : pf ≠ kd := ne_of_none h7 hkd
      have nl8 : pl ≠ kl := ne_of_none hs7 hkl
      have h78 := K8 _ _ h7 (by simp)
      have h68 := K8 _ _ h67 (by simp)
      have O8 := O7.keep K8
      generalize upd (upd (upd H7 kd (.dK (kvI fr))) kl (.lst (rs.map V.ref))) pk (.tup [.ref kd, .ref kl]) = H8 at hkd8 hkl8 hpk8 h78 h68 O8
      clear K8 O7 hkl hkd hpk hs7 h67 h7
      refine ⟨_, rfl, _, rfl, pf, pl, fr, os, rs, rfl, h78, h68, O8, F7, G6, l60, fun pd E0 H9 hpd K9 hd9 gr0 => ?_⟩
      have h79 := K9 _ _ h78 (by simp)
      have h69 := K9 _ _ h68 (by simp)
      have O9 := O8.keep K9
      have hkd9 := K9 _ _ hkd8 (by simp)
      have hkl9 := K9 _ _ hkl8 (by simp)
      have hpk9 := K9 _ _ hpk8 (by simp)
      clear O8 hpk8 hkl8 hkd8 h68 h78 hpd K9
      refine ⟨_, rfl, _, rfl, pf, pl, fr, os, rfl, h79, ⟨rs, .inl h69, O9⟩, F7, G6, l60, fun R1 L1 W1 P1 w1 HA KA hRA hLA hnA hWA wk1 gr1 => ?_⟩
      refine ⟨_, rfl, pl, _, rfl, .inl ⟨SqL.of (KA _ _ h69 (by simp)), fun po hpo => ?_⟩⟩
      have KB := KA.trans (Keep.upd_new hpo (o := .tup (rs.map V.ref)))
      have hob : (upd HA po (.tup (rs.map V.ref))) po = some (.tup (rs.map V.ref)) := upd_same
      have KAB : Keep [] HA (upd HA po (.tup (rs.map V.ref))) := Keep.upd_new hpo
      generalize upd HA po (.tup (rs.map V.ref)) = HB at KB hob KAB
      refine ⟨_, rfl, pf, po, fr, os, rfl, KB _ _ h79 (by simp), ⟨rs, .inr hob, O9.keep KB⟩, F7, G6, l60, fun R2 L2 W2 P2 w2 HC KC hRC hLC hnC hWC wk2 gr2 => ?_⟩
      have K9C := KB.trans KC
      refine ⟨_, rfl, _, rfl, pf, pl, fr, os, rfl, K9C _ _ h79 (by simp), ⟨rs, .inl (K9C _ _ h69 (by simp)), O9.keep K9C⟩, F7, G6, l60, fun R3 L3 W3 P3 w3 HD KD hRD hLD hnD hWD wk3 gr3 => ?_⟩
      have KAD := (KAB.trans KC).trans KD
      have K9D := K9C.trans KD
      have n12 : L1 ≠ L2 := ne_of_none (KAB _ _ hLA (by simp)) hnC
      have n13 : L1 ≠ L3 := ne_of_none ((KAB.trans KC) _ _ hLA (by simp)) hnD
      have n23 : L2 ≠ L3 := ne_of_none hLC hnD
      obtain ⟨Fs, hFs⟩ : ∃ Fs : List Fd, Fs = [⟨R1, L1, W1, P1, w1⟩, ⟨R2, L2, W2, P2, w2⟩, ⟨R3, L3, W3, P3, w3⟩] := ⟨_, rfl⟩
      have okF : ∀ f ∈ Fs, FdOk fr os H9 HD f := by
        intro f hf
        rw [hFs] at hf
        simp only [List.mem_cons, List.not_mem_nil, or_false] at hf
        rcases hf with rfl | rfl | rfl
        · exact ⟨KAD _ _ hRA (by simp), KAD _ _ hLA (by simp), KAD _ _ hWA (by simp), hnA, wk1, gr1⟩
        · exact ⟨KD _ _ hRC (by simp), KD _ _ hLC (by simp), KD _ _ hWC (by simp), KB.none_of hnC (by simp), wk2, gr2⟩
        · exact ⟨hRD, hLD, hWD, K9C.none_of hnD (by simp), wk3, gr3⟩
      have ndF : (Fs.map (·.L)).Nodup := by rw [hFs]; simp [n12, n13, n23]
      have xF : [V.ref R1, V.ref R2, V.ref R3] = Fs.map fun f => V.ref f.R := by rw [hFs]; rfl
      clear KA KB KC KD KAB K9C hRA hLA hnA hWA wk1 gr1 hRC hLC hnC hWC wk2 gr2 hRD hLD hnD hWD wk3 gr3 hpo hob n12 n13 n23 hFs KAD
      refine noArg ?_
      refine ⟨by show 3 ≤ sizeLine; omega, fun LL hLL => ?_⟩
      rw [xF]
      have KE := K9D.trans (Keep.upd_new hLL (o := .lst (Fs.map fun f => V.ref f.R)))
      have nLL : LL ∉ Fs.map (·.L) := fun z => by
        obtain ⟨f, hf, e⟩ := List.mem_map.mp z
        exact ne_of_none (okF f hf).hL hLL e
      have okF : ∀ f ∈ Fs, FdOk fr os H9 (upd HD LL (.lst (Fs.map fun f => V.ref f.R))) f := fun f hf => (okF f hf).keep (Keep.upd_new hLL)
      have hLs : (upd HD LL (.lst (Fs.map fun f => V.ref f.R))) LL = some (.lst (Fs.map fun f => V.ref f.R)) := upd_same
      generalize upd HD LL (.lst (Fs.map fun f => V.ref f.R)) = HE at KE okF hLs
      clear K9D hLL xF
      refine ⟨LL, rfl, ⟨_, SqL.of hLs⟩, for_list (K := K) (a := LL) (xs := Fs.map fun f => V.ref f.R) (fun j σ H => ∃ v2 v8, σ = [some (.ref a), some (.ref d), v2, some (.ref p), some (.ref pl), some (.ref pf), some (.ref pk), some (.ref pd), v8] ∧ Keep [] H9 H ∧ Keep (Fs.map (·.L)) HE H ∧ ∀ m f, j ≤ m → Fs[m]? = some f → H f.L = some (.lst (nats ((List.range os.length).filter f.E)))) ⟨_, _, rfl, KE, Keep.refl, fun m f _ hf => (okF f (List.mem_of_getElem? hf)).hL⟩ (fun j σ H _ ⟨_, _, _, _, k, _⟩ => SqL.of (k _ _ hLs nLL)) ?_ ?_⟩
      · rintro j x σ Hj hx ⟨v2, v8, rfl, K9j, KEj, rest⟩
        rw [List.getElem?_map] at hx
        obtain ⟨f, hf, rfl⟩ := Option.map_eq_some_iff.mp hx
        have fm := List.mem_of_getElem? hf
        have ok := okF f fm
        have hR := KEj _ _ ok.hR (tup_notin (fun f hf => (okF f hf).hL) ok.hR)
        have hW := KEj _ _ ok.hW (tup_notin (fun f hf => (okF f hf).hL) ok.hW)
        have hLj := rest j f (Nat.le_refl _) hf
        have eE : (List.range os.length).filter f.E = (List.range os.length).filter E0 := Great.uniq ok.gr gr0
        have fl : ((List.range os.length).filter f.E).length ≤ 60 := by
          have := List.length_filter_le f.E (List.range os.length)
          rw [List.length_range] at this; omega
        refine ⟨_, rfl, _, _, _, _, true, rfl, .ty _, .base (.tup hR), kit_ty (by decide +kernel), _, rfl, iteF ?_⟩
        refine ⟨_, rfl, f.R, _, rfl, .inr (SqT.of hR), rfl, false, rfl, iteF ?_⟩
        refine ⟨_, rfl, f.R, _, 0, V.ref f.L, rfl, rfl, SqT.of hR, rfl, _, _, _, _, true, rfl, .ty _, .base (.lst hLj), kit_ty (by decide +kernel), _, rfl, iteF ?_⟩
        refine ⟨_, rfl, f.R, _, 0, V.ref f.L, rfl, rfl, SqT.of hR, rfl, _, rfl, _, _, Dp_nat (SqL.of hLj), Dp_nat (SqL.of (K9j _ _ hd9 (by simp))), shaped_nat _, shaped_nat _, ?_⟩
        rw [eqv_nat, decide_eq_true eE]
        refine ⟨false, rfl, iteF ?_⟩
        refine ⟨_, rfl, _, rfl, _, rfl, f.R, _, 0, V.ref f.L, rfl, rfl, SqT.of hR, rfl, _, rfl, f.R, _, 1, V.ref f.W, rfl, rfl, SqT.of hR, rfl, ?_⟩
        refine ⟨pf, pl, f.L, f.W, fr, os, rs, f.E, f.w, rfl, K9j _ _ h79 (by simp), K9j _ _ h69 (by simp), O9.keep K9j, F7, G6, l60, hLj, hW, ok.wk, fun Hk Kk => ?_⟩
        refine ⟨_, rfl, iteF ?_⟩
        have K9k := K9j.trans Kk
        refine ⟨_, rfl, _, rfl, _, rfl, pf, pl, f.R, f.L, f.W, fr, os, f.E, f.w, rfl, K9k _ _ h79 (by simp), ⟨rs, .inl (K9k _ _ h69 (by simp)), O9.keep K9k⟩, F7, G6, l60, Kk _ _ hR (by simp), Kk _ _ hLj (by simp), Kk _ _ hW (by simp), ok.wk, ok.gr, fun Hl Kl => ?_⟩
        refine ⟨_, _, rfl, rfl, false, rfl, iteF ?_⟩
        have Kjl := Kk.trans Kl
        have K9l := K9j.trans Kjl
        refine ⟨_, rfl, _, rfl, _, rfl, pf, pl, f.R, f.L, f.W, fr, os, f.E, f.w, rfl, K9l _ _ h79 (by simp), ⟨rs, .inl (K9l _ _ h69 (by simp)), O9.keep K9l⟩, F7, G6, l60, Kjl _ _ hR (by simp), Kjl _ _ hLj (by simp), Kjl _ _ hW (by simp), ok.wk, ok.gr, fun Hm Km => ?_⟩
        refine ⟨_, _, rfl, rfl, false, rfl, iteF ?_⟩
        have Kjm := Kjl.trans Km
        have K9m := K9j.trans Kjm
        refine ⟨_, rfl, _, rfl, by show 2 ≤ sizeLine; omega, fun t ht => ?_⟩
        have Kt := Keep.upd_new (ds := []) ht (o := .tup [V.ref pf, .ref pl])
        have htt : (upd Hm t (.tup [V.ref pf, .ref pl])) t = some (.tup [V.ref pf, .ref pl]) := upd_same
        have Kjt := Kjm.trans Kt
        have K9t := K9j.trans Kjt
        generalize upd Hm t (.tup [V.ref pf, .ref pl]) = Ht at Kjt K9t htt
        refine ⟨_, rfl, t, pk, pf, kd, pl, kl, fr, rs, rfl, rfl, htt, K9t _ _ hpk9 (by simp), K9t _ _ h79 (by simp), K9t _ _ hkd9 (by simp), F7.nd, nd8, K9t _ _ h69 (by simp), K9t _ _ hkl9 (by simp), nl8, false, rfl, iteF ?_⟩
        have hLt := Kjt _ _ hLj (by simp)
        refine ⟨_, rfl, f.R, _, 0, V.ref f.L, rfl, rfl, SqT.of (Kjt _ _ hR (by simp)), rfl, .inl ⟨rfl, _, SqL.of hLt⟩, f.L, _, _, rfl, rfl, hLt, by rw [List.length_map]; omega, ?_⟩
        refine ⟨_, _, rfl, K9t.trans_new ok.hn, (KEj.trans (Kjt.mono (by simp))).trans (Keep.upd_in (List.mem_map.mpr ⟨f, fm, rfl⟩)), fun m g hm hg => ?_⟩
        have ne : g.L ≠ f.L := fun e => by
          have jl : j < (Fs.map (·.L)).length := by rw [List.length_map]; exact (List.getElem?_eq_some_iff.mp hf).1
          have := (List.getElem?_inj (j := m) jl ndF).mp (by rw [List.getElem?_map, List.getElem?_map, hf, hg]; exact congrArg some e.symm)
          omega
        rw [upd_ne ne]
        exact Kjt _ _ (rest m g (by omega) hg) (by simp)
      · rintro σ Hj ⟨v2, v8, rfl, _⟩
        exact q Hj
end
end My
set_option Elab.async false
set_option maxRecDepth 100000
set_option maxHeartbeats 4000000
namespace My
open PySem L2
section
variable {P : Program} {w : World} {K : PySem.W.Frag} {mg : Str → Option Value}
theorem fin {fa : Addr} (T : Txt K mg) (hmg : mg "law" = some (.ref fa)) : ∃ fd : FuncData, (∀ (s : Shared) (u : Value), BindsTo s fd ⟨[u], []⟩ [("script", u)]) ∧
    ∀ base : Heap, K.In base → base.Ns mainGlobals mg → FnOk P w K mg base CX0 7 fa fd ["script"] (sp_law K) := by
  obtain ⟨f, fd, D⟩ := T.d_law
  have e := hmg.symm.trans D.m
  cases e
  refine ⟨fd, fun s u => ?_, fun base _ _ => g_law T D.F⟩
  obtain ⟨oc, od, kV, doc, pm, an, cdv, ct, osl, rfl, lk, hcd⟩ := D.F.ex
  exact .of_eq rfl
end
/-- the road from the law's function to the row -/
theorem to_row {r : PySem.W.OpenLaw} {pr : Program} {lo : List Str} {X1 : (Str → Option Value) → Heap → Prop} {Y1 : World → Heap → Prop} {dr : DefRec} {KK : Params → PySem.W.Frag}
    (m : r.most = some 63) (nd : dr.params.defaults = []) (inK : ∀ (u : World) (g : Heap), Y1 u g → (KK u.params).In g)
    (go : ∀ (u : World) (names : Str → Option Value) (at_ : Addr) (g : Heap), (KK u.params).In g → g.Ns mainGlobals names → names dr.name = some (.ref at_) →
      ∃ fd : FuncData, (∀ (s : Shared) (z : Value), BindsTo s fd ⟨[z], []⟩ [("script", z)]) ∧ ∀ b : Heap, (KK u.params).In b → b.Ns mainGlobals names → FnOk r.prog u (KK u.params) names b CX0 7 at_ fd ["script"] (sp_law (KK u.params))) :
    PySem.W.WalkO pr lo X1 Y1 r.row.toRowW dr [] fun h vs => PySem.call h vs := by
  refine L2.walk_of (sp := fun u => sp_law (KK u.params)) (CX := fun _ => CX0) (x := "script") (k := 7) (n := 63) m (by decide) nd ?_ inK go ?_ ?_
  · exact ⟨rfl, by decide, by decide⟩
  · intro _ _ a ns hl _ hS
    exact ⟨a, ns, rfl, hS, hl, fun _ => rfl⟩
  · intro _ _ _ _ _ z
    exact z
theorem all_mk {K : PySem.W.Frag} {h : Heap} {mg : Str → Option Value} (X : K.In h) (G : h.Ns mainGlobals mg)
{f0 f1 f2 f3 f4 f5 f6 f7 f8 f9 f10 f11 f12 f13 f14 f15 f16 f17 f18 f19 f20 f21 f22 f23 f24 f25 f26 f27 f28 f29 f30 f31 : Addr} {od0 od1 od2 od3 od4 od5 od6 od7 od8 od9 od10 od11 od12 od13 od14 od15 od16 od17 od18 od19 od20 od21 od22 od23 od24 od25 od26 od27 od28 od29 od30 od31 an0 an1 an2 an3 an4 an5 an6 an7 an8 an9 an10 an11 an12 an13 an14 an15 an16 an17 an18 an19 an20 an21 an22 an23 an24 an25 an26 an27 an28 an29 an30 an31 : Option Addr} {sl0 sl1 sl2 sl3 sl4 sl5 sl6 sl7 sl8 sl9 sl10 sl11 sl12 sl13 sl14 sl15 sl16 sl17 sl18 sl19 sl20 sl21 sl22 sl23 sl24 sl25 sl26 sl27 sl28 sl29 sl30 sl31 : Array (Option Value)} {oc0 oc1 oc2 oc3 oc4 oc5 oc6 oc7 oc8 oc9 oc10 oc11 oc12 oc13 oc14 oc15 oc16 oc17 oc18 oc19 oc20 oc21 oc22 oc23 oc24 oc25 oc26 oc27 oc28 oc29 oc30 oc31 kV0 kV1 kV2 kV3 kV4 kV5 kV6 kV7 kV8 kV9 kV10 kV11 kV12 kV13 kV14 kV15 kV16 kV17 kV18 kV19 kV20 kV21 kV22 kV23 kV24 kV25 kV26 kV27 kV28 kV29 kV30 kV31 dc0 dc1 dc2 dc3 dc4 dc5 dc6 dc7 dc8 dc9 dc10 dc11 dc12 dc13 dc14 dc15 dc16 dc17 dc18 dc19 dc20 dc21 dc22 dc23 dc24 dc25 dc26 dc27 dc28 dc29 dc30 dc31 pm0 pm1 pm2 pm3 pm4 pm5 pm6 pm7 pm8 pm9 pm10 pm11 pm12 pm13 pm14 pm15 pm16 pm17 pm18 pm19 pm20 pm21 pm22 pm23 pm24 pm25 pm26 pm27 pm28 pm29 pm30 pm31 cd0 cd1 cd2 cd3 cd4 cd5 cd6 cd7 cd8 cd9 cd10 cd11 cd12 cd13 cd14 cd15 cd16 cd17 cd18 cd19 cd20 cd21 cd22 cd23 cd24 cd25 cd26 cd27 cd28 cd29 cd30 cd31 ct0 ct1 ct2 ct3 ct4 ct5 ct6 ct7 ct8 ct9 ct10 ct11 ct12 ct13 ct14 ct15 ct16 ct17 ct18 ct19 ct20 ct21 ct22 ct23 ct24 ct25 ct26 ct27 ct28 ct29 ct30 ct31 : Value}
{t0 t1 t2 t3 t4 : Tok}
(a0 : PySem.W.nsIn K mainGlobals "is_number" = some (some (.ref f0))) (l0 : K.lookup f0 = some ⟨oc0, od0, .func (PySem.W.fnOf "is_number" "is_number" (defArgs s_is_number) (defBody s_is_number) (defScope s_is_number) .none kV0 dc0 pm0 an0 cd0 ct0), sl0⟩) (c0 : PySem.W.codeIn K cd0 "is_number" = true) (k0 : PySem.W.keepIn K (.ref f0) = true)
(a1 : PySem.W.nsIn K mainGlobals "is_count" = some (some (.ref f1))) (l1 : K.lookup f1 = some ⟨oc1, od1, .func (PySem.W.fnOf "is_count" "is_count" (defArgs s_is_count) (defBody s_is_count) (defScope s_is_count) .none kV1 dc1 pm1 an1 cd1 ct1), sl1⟩) (c1 : PySem.W.codeIn K cd1 "is_count" = true) (k1 : PySem.W.keepIn K (.ref f1) = true)
(a2 : PySem.W.nsIn K mainGlobals "is_amount" = some (some (.ref f2))) (l2 : K.lookup f2 = some ⟨oc2, od2, .func (PySem.W.fnOf "is_amount" "is_amount" (defArgs s_is_amount) (defBody s_is_amount) (defScope s_is_amount) .none kV2 dc2 pm2 an2 cd2 ct2), sl2⟩) (c2 : PySem.W.codeIn K cd2 "is_amount" = true) (k2 : PySem.W.keepIn K (.ref f2) = true)
(a3 : PySem.W.nsIn K mainGlobals "is_whole" = some (some (.ref f3))) (l3 : K.lookup f3 = some ⟨oc3, od3, .func (PySem.W.fnOf "is_whole" "is_whole" (defArgs s_is_whole) (defBody s_is_whole) (defScope s_is_whole) .none kV3 dc3 pm3 an3 cd3 ct3), sl3⟩) (c3 : PySem.W.codeIn K cd3 "is_whole" = true) (k3 : PySem.W.keepIn K (.ref f3) = true)
(a4 : PySem.W.nsIn K mainGlobals "is_time" = some (some (.ref f4))) (l4 : K.lookup f4 = some ⟨oc4, od4, .func (PySem.W.fnOf "is_time" "is_time" (defArgs s_is_time) (defBody s_is_time) (defScope s_is_time) .none kV4 dc4 pm4 an4 cd4 ct4), sl4⟩) (c4 : PySem.W.codeIn K cd4 "is_time" = true) (k4 : PySem.W.keepIn K (.ref f4) = true)
(a5 : PySem.W.nsIn K mainGlobals "is_letters" = some (some (.ref f5))) (l5 : K.lookup f5 = some ⟨oc5, od5, .func (PySem.W.fnOf "is_letters" "is_letters" (defArgs s_is_letters) (defBody s_is_letters) (defScope s_is_letters) .none kV5 dc5 pm5 an5 cd5 ct5), sl5⟩) (c5 : PySem.W.codeIn K cd5 "is_letters" = true) (k5 : PySem.W.keepIn K (.ref f5) = true)
(a6 : PySem.W.nsIn K mainGlobals "is_name" = some (some (.ref f6))) (l6 : K.lookup f6 = some ⟨oc6, od6, .func (PySem.W.fnOf "is_name" "is_name" (defArgs s_is_name) (defBody s_is_name) (defScope s_is_name) .none kV6 dc6 pm6 an6 cd6 ct6), sl6⟩) (c6 : PySem.W.codeIn K cd6 "is_name" = true) (k6 : PySem.W.keepIn K (.ref f6) = true)
(a7 : PySem.W.nsIn K mainGlobals "is_list" = some (some (.ref f7))) (l7 : K.lookup f7 = some ⟨oc7, od7, .func (PySem.W.fnOf "is_list" "is_list" (defArgs s_is_list) (defBody s_is_list) (defScope s_is_list) .none kV7 dc7 pm7 an7 cd7 ct7), sl7⟩) (c7 : PySem.W.codeIn K cd7 "is_list" = true) (k7 : PySem.W.keepIn K (.ref f7) = true)
(a8 : PySem.W.nsIn K mainGlobals "is_pair" = some (some (.ref f8))) (l8 : K.lookup f8 = some ⟨oc8, od8, .func (PySem.W.fnOf "is_pair" "is_pair" (defArgs s_is_pair) (defBody s_is_pair) (defScope s_is_pair) .none kV8 dc8 pm8 an8 cd8 ct8), sl8⟩) (c8 : PySem.W.codeIn K cd8 "is_pair" = true) (k8 : PySem.W.keepIn K (.ref f8) = true)
(a9 : PySem.W.nsIn K mainGlobals "is_order" = some (some (.ref f9))) (l9 : K.lookup f9 = some ⟨oc9, od9, .func (PySem.W.fnOf "is_order" "is_order" (defArgs s_is_order) (defBody s_is_order) (defScope s_is_order) .none kV9 dc9 pm9 an9 cd9 ct9), sl9⟩) (c9 : PySem.W.codeIn K cd9 "is_order" = true) (k9 : PySem.W.keepIn K (.ref f9) = true)
(a10 : PySem.W.nsIn K mainGlobals "look_at_round" = some (some (.ref f10))) (l10 : K.lookup f10 = some ⟨oc10, od10, .func (PySem.W.fnOf "look_at_round" "look_at_round" (defArgs s_look_at_round) (defBody s_look_at_round) (defScope s_look_at_round) .none kV10 dc10 pm10 an10 cd10 ct10), sl10⟩) (c10 : PySem.W.codeIn K cd10 "look_at_round" = true) (k10 : PySem.W.keepIn K (.ref f10) = true)
(a11 : PySem.W.nsIn K mainGlobals "greatest" = some (some (.ref f11))) (l11 : K.lookup f11 = some ⟨oc11, od11, .func (PySem.W.fnOf "greatest" "greatest" (defArgs s_greatest) (defBody s_greatest) (defScope s_greatest) .none kV11 dc11 pm11 an11 cd11 ct11), sl11⟩) (c11 : PySem.W.codeIn K cd11 "greatest" = true) (k11 : PySem.W.keepIn K (.ref f11) = true)
(a12 : PySem.W.nsIn K mainGlobals "shows_greatest" = some (some (.ref f12))) (l12 : K.lookup f12 = some ⟨oc12, od12, .func (PySem.W.fnOf "shows_greatest" "shows_greatest" (defArgs s_shows_greatest) (defBody s_shows_greatest) (defScope s_shows_greatest) .none kV12 dc12 pm12 an12 cd12 ct12), sl12⟩) (c12 : PySem.W.codeIn K cd12 "shows_greatest" = true) (k12 : PySem.W.keepIn K (.ref f12) = true)
(a13 : PySem.W.nsIn K mainGlobals "have_by_all" = some (some (.ref f13))) (l13 : K.lookup f13 = some ⟨oc13, od13, .func (PySem.W.fnOf "have_by_all" "have_by_all" (defArgs s_have_by_all) (defBody s_have_by_all) (defScope s_have_by_all) .none kV13 dc13 pm13 an13 cd13 ct13), sl13⟩) (c13 : PySem.W.codeIn K cd13 "have_by_all" = true) (k13 : PySem.W.keepIn K (.ref f13) = true)
(a14 : PySem.W.nsIn K mainGlobals "_places_by_payer" = some (some (.ref f14))) (l14 : K.lookup f14 = some ⟨oc14, od14, .func (PySem.W.fnOf "_places_by_payer" "_places_by_payer" (defArgs s__places_by_payer) (defBody s__places_by_payer) (defScope s__places_by_payer) .none kV14 dc14 pm14 an14 cd14 ct14), sl14⟩) (c14 : PySem.W.codeIn K cd14 "_places_by_payer" = true) (k14 : PySem.W.keepIn K (.ref f14) = true)
(a15 : PySem.W.nsIn K mainGlobals "first_below" = some (some (.ref f15))) (l15 : K.lookup f15 = some ⟨oc15, od15, .func (PySem.W.fnOf "first_below" "first_below" (defArgs s_first_below) (defBody s_first_below) (defScope s_first_below) .none kV15 dc15 pm15 an15 cd15 ct15), sl15⟩) (c15 : PySem.W.codeIn K cd15 "first_below" = true) (k15 : PySem.W.keepIn K (.ref f15) = true)
(a16 : PySem.W.nsIn K mainGlobals "_undo" = some (some (.ref f16))) (l16 : K.lookup f16 = some ⟨oc16, od16, .func (PySem.W.fnOf "_undo" "_undo" (defArgs s__undo) (defBody s__undo) (defScope s__undo) .none kV16 dc16 pm16 an16 cd16 ct16), sl16⟩) (c16 : PySem.W.codeIn K cd16 "_undo" = true) (k16 : PySem.W.keepIn K (.ref f16) = true)
(a17 : PySem.W.nsIn K mainGlobals "_parts_places" = some (some (.ref f17))) (l17 : K.lookup f17 = some ⟨oc17, od17, .func (PySem.W.fnOf "_parts_places" "_parts_places" (defArgs s__parts_places) (defBody s__parts_places) (defScope s__parts_places) .none kV17 dc17 pm17 an17 cd17 ct17), sl17⟩) (c17 : PySem.W.codeIn K cd17 "_parts_places" = true) (k17 : PySem.W.keepIn K (.ref f17) = true)
(a18 : PySem.W.nsIn K mainGlobals "_law_begin" = some (some (.ref f18))) (l18 : K.lookup f18 = some ⟨oc18, od18, .func (PySem.W.fnOf "_law_begin" "_law_begin" (defArgs s__law_begin) (defBody s__law_begin) (defScope s__law_begin) .none kV18 dc18 pm18 an18 cd18 ct18), sl18⟩) (c18 : PySem.W.codeIn K cd18 "_law_begin" = true) (k18 : PySem.W.keepIn K (.ref f18) = true)
(a19 : PySem.W.nsIn K mainGlobals "_law_more" = some (some (.ref f19))) (l19 : K.lookup f19 = some ⟨oc19, od19, .func (PySem.W.fnOf "_law_more" "_law_more" (defArgs s__law_more) (defBody s__law_more) (defScope s__law_more) .none kV19 dc19 pm19 an19 cd19 ct19), sl19⟩) (c19 : PySem.W.codeIn K cd19 "_law_more" = true) (k19 : PySem.W.keepIn K (.ref f19) = true)
(a20 : PySem.W.nsIn K mainGlobals "_law_next" = some (some (.ref f20))) (l20 : K.lookup f20 = some ⟨oc20, od20, .func (PySem.W.fnOf "_law_next" "_law_next" (defArgs s__law_next) (defBody s__law_next) (defScope s__law_next) .none kV20 dc20 pm20 an20 cd20 ct20), sl20⟩) (c20 : PySem.W.codeIn K cd20 "_law_next" = true) (k20 : PySem.W.keepIn K (.ref f20) = true)
(a21 : PySem.W.nsIn K mainGlobals "_law_pick" = some (some (.ref f21))) (l21 : K.lookup f21 = some ⟨oc21, od21, .func (PySem.W.fnOf "_law_pick" "_law_pick" (defArgs s__law_pick) (defBody s__law_pick) (defScope s__law_pick) .none kV21 dc21 pm21 an21 cd21 ct21), sl21⟩) (c21 : PySem.W.codeIn K cd21 "_law_pick" = true) (k21 : PySem.W.keepIn K (.ref f21) = true)
(a22 : PySem.W.nsIn K mainGlobals "_law_word" = some (some (.ref f22))) (l22 : K.lookup f22 = some ⟨oc22, od22, .func (PySem.W.fnOf "_law_word" "_law_word" (defArgs s__law_word) (defBody s__law_word) (defScope s__law_word) .none kV22 dc22 pm22 an22 cd22 ct22), sl22⟩) (c22 : PySem.W.codeIn K cd22 "_law_word" = true) (k22 : PySem.W.keepIn K (.ref f22) = true)
(a23 : PySem.W.nsIn K mainGlobals "_law_crew" = some (some (.ref f23))) (l23 : K.lookup f23 = some ⟨oc23, od23, .func (PySem.W.fnOf "_law_crew" "_law_crew" (defArgs s__law_crew) (defBody s__law_crew) (defScope s__law_crew) .none kV23 dc23 pm23 an23 cd23 ct23), sl23⟩) (c23 : PySem.W.codeIn K cd23 "_law_crew" = true) (k23 : PySem.W.keepIn K (.ref f23) = true)
(a24 : PySem.W.nsIn K mainGlobals "_law_amount" = some (some (.ref f24))) (l24 : K.lookup f24 = some ⟨oc24, od24, .func (PySem.W.fnOf "_law_amount" "_law_amount" (defArgs s__law_amount) (defBody s__law_amount) (defScope s__law_amount) .none kV24 dc24 pm24 an24 cd24 ct24), sl24⟩) (c24 : PySem.W.codeIn K cd24 "_law_amount" = true) (k24 : PySem.W.keepIn K (.ref f24) = true)
(a25 : PySem.W.nsIn K mainGlobals "_law_one" = some (some (.ref f25))) (l25 : K.lookup f25 = some ⟨oc25, od25, .func (PySem.W.fnOf "_law_one" "_law_one" (defArgs s__law_one) (defBody s__law_one) (defScope s__law_one) .none kV25 dc25 pm25 an25 cd25 ct25), sl25⟩) (c25 : PySem.W.codeIn K cd25 "_law_one" = true) (k25 : PySem.W.keepIn K (.ref f25) = true)
(a26 : PySem.W.nsIn K mainGlobals "_law_lot" = some (some (.ref f26))) (l26 : K.lookup f26 = some ⟨oc26, od26, .func (PySem.W.fnOf "_law_lot" "_law_lot" (defArgs s__law_lot) (defBody s__law_lot) (defScope s__law_lot) .none kV26 dc26 pm26 an26 cd26 ct26), sl26⟩) (c26 : PySem.W.codeIn K cd26 "_law_lot" = true) (k26 : PySem.W.keepIn K (.ref f26) = true)
(a27 : PySem.W.nsIn K mainGlobals "_law_means" = some (some (.ref f27))) (l27 : K.lookup f27 = some ⟨oc27, od27, .func (PySem.W.fnOf "_law_means" "_law_means" (defArgs s__law_means) (defBody s__law_means) (defScope s__law_means) .none kV27 dc27 pm27 an27 cd27 ct27), sl27⟩) (c27 : PySem.W.codeIn K cd27 "_law_means" = true) (k27 : PySem.W.keepIn K (.ref f27) = true)
(a28 : PySem.W.nsIn K mainGlobals "_law_behind" = some (some (.ref f28))) (l28 : K.lookup f28 = some ⟨oc28, od28, .func (PySem.W.fnOf "_law_behind" "_law_behind" (defArgs s__law_behind) (defBody s__law_behind) (defScope s__law_behind) .none kV28 dc28 pm28 an28 cd28 ct28), sl28⟩) (c28 : PySem.W.codeIn K cd28 "_law_behind" = true) (k28 : PySem.W.keepIn K (.ref f28) = true)
(a29 : PySem.W.nsIn K mainGlobals "_law_most" = some (some (.ref f29))) (l29 : K.lookup f29 = some ⟨oc29, od29, .func (PySem.W.fnOf "_law_most" "_law_most" (defArgs s__law_most) (defBody s__law_most) (defScope s__law_most) .none kV29 dc29 pm29 an29 cd29 ct29), sl29⟩) (c29 : PySem.W.codeIn K cd29 "_law_most" = true) (k29 : PySem.W.keepIn K (.ref f29) = true)
(a30 : PySem.W.nsIn K mainGlobals "_law_paper_right" = some (some (.ref f30))) (l30 : K.lookup f30 = some ⟨oc30, od30, .func (PySem.W.fnOf "_law_paper_right" "_law_paper_right" (defArgs s__law_paper_right) (defBody s__law_paper_right) (defScope s__law_paper_right) .none kV30 dc30 pm30 an30 cd30 ct30), sl30⟩) (c30 : PySem.W.codeIn K cd30 "_law_paper_right" = true) (k30 : PySem.W.keepIn K (.ref f30) = true)
(a31 : PySem.W.nsIn K mainGlobals "law" = some (some (.ref f31))) (l31 : K.lookup f31 = some ⟨oc31, od31, .func (PySem.W.fnOf "law" "law" (defArgs s_law) (defBody s_law) (defScope s_law) .none kV31 dc31 pm31 an31 cd31 ct31), sl31⟩) (c31 : PySem.W.codeIn K cd31 "law" = true) (k31 : PySem.W.keepIn K (.ref f31) = true)
(z_list : PySem.W.nsIn K mainGlobals "list" = some none)
(z_range : PySem.W.nsIn K mainGlobals "range" = some none)
(z_len : PySem.W.nsIn K mainGlobals "len" = some none)
(z_dict : PySem.W.nsIn K mainGlobals "dict" = some none)
(z_max : PySem.W.nsIn K mainGlobals "max" = some none)
(z_all : PySem.W.nsIn K mainGlobals "all" = some none)
(z_isinstance : PySem.W.nsIn K mainGlobals "isinstance" = some none)
(z_tuple : PySem.W.nsIn K mainGlobals "tuple" = some none)
(z_int : PySem.W.nsIn K mainGlobals "int" = some none)
(z_bool : PySem.W.nsIn K mainGlobals "bool" = some none)
(z_str : PySem.W.nsIn K mainGlobals "str" = some none)
(z_enumerate : PySem.W.nsIn K mainGlobals "enumerate" = some none)
(z_sorted : PySem.W.nsIn K mainGlobals "sorted" = some none)
(gc0 : PySem.W.nsIn K mainGlobals "LETTERS" = some (some (Value.str "abcdefghijklmnopqrstuvwxyz" t0)))
(gc1 : PySem.W.nsIn K mainGlobals "LONGEST" = some (some (Value.int 8 t1)))
(gc2 : PySem.W.nsIn K mainGlobals "MOST" = some (some (Value.int 1000000000 t2)))
(gc3 : PySem.W.nsIn K mainGlobals "TOP_RANK" = some (some (Value.int 9 t3)))
(gc4 : PySem.W.nsIn K mainGlobals "MOST_ORDERS" = some (some (Value.int 60 t4)))
: Txt K mg := by
  have F0 := fun_mk (st := s_is_number) l0 c0 k0
  have b0 := F0.binds (ps := ["thing"]) fun _ _ _ _ _ _ us hl => match us, hl with | [_], _ => rfl
  have F1 := fun_mk (st := s_is_count) l1 c1 k1
  have b1 := F1.binds (ps := ["thing"]) fun _ _ _ _ _ _ us hl => match us, hl with | [_], _ => rfl
  have F2 := fun_mk (st := s_is_amount) l2 c2 k2
  have b2 := F2.binds (ps := ["thing"]) fun _ _ _ _ _ _ us hl => match us, hl with | [_], _ => rfl
  have F3 := fun_mk (st := s_is_whole) l3 c3 k3
  have b3 := F3.binds (ps := ["thing"]) fun _ _ _ _ _ _ us hl => match us, hl with | [_], _ => rfl
  have F4 := fun_mk (st := s_is_time) l4 c4 k4
  have b4 := F4.binds (ps := ["thing"]) fun _ _ _ _ _ _ us hl => match us, hl with | [_], _ => rfl
  have F5 := fun_mk (st := s_is_letters) l5 c5 k5
  have b5 := F5.binds (ps := ["thing", "longest"]) fun _ _ _ _ _ _ us hl => match us, hl with | [_, _], _ => rfl
  have F6 := fun_mk (st := s_is_name) l6 c6 k6
  have b6 := F6.binds (ps := ["thing"]) fun _ _ _ _ _ _ us hl => match us, hl with | [_], _ => rfl
  have F7 := fun_mk (st := s_is_list) l7 c7 k7
  have b7 := F7.binds (ps := ["thing"]) fun _ _ _ _ _ _ us hl => match us, hl with | [_], _ => rfl
  have F8 := fun_mk (st := s_is_pair) l8 c8 k8
  have b8 := F8.binds (ps := ["thing"]) fun _ _ _ _ _ _ us hl => match us, hl with | [_], _ => rfl
  have F9 := fun_mk (st := s_is_order) l9 c9 k9
  have b9 := F9.binds (ps := ["thing"]) fun _ _ _ _ _ _ us hl => match us, hl with | [_], _ => rfl
  have F10 := fun_mk (st := s_look_at_round) l10 c10 k10
  have b10 := F10.binds (ps := ["free", "orders", "most"]) fun _ _ _ _ _ _ us hl => match us, hl with | [_, _, _], _ => rfl
  have F11 := fun_mk (st := s_greatest) l11 c11 k11
  have b11 := F11.binds (ps := ["free", "orders"]) fun _ _ _ _ _ _ us hl => match us, hl with | [_, _], _ => rfl
  have F12 := fun_mk (st := s_shows_greatest) l12 c12 k12
  have b12 := F12.binds (ps := ["free", "orders", "told"]) fun _ _ _ _ _ _ us hl => match us, hl with | [_, _, _], _ => rfl
  have F13 := fun_mk (st := s_have_by_all) l13 c13 k13
  have b13 := F13.binds (ps := ["free", "orders"]) fun _ _ _ _ _ _ us hl => match us, hl with | [_, _], _ => rfl
  have F14 := fun_mk (st := s__places_by_payer) l14 c14 k14
  have b14 := F14.binds (ps := ["orders"]) fun _ _ _ _ _ _ us hl => match us, hl with | [_], _ => rfl
  have F15 := fun_mk (st := s_first_below) l15 c15 k15
  have b15 := F15.binds (ps := ["have"]) fun _ _ _ _ _ _ us hl => match us, hl with | [_], _ => rfl
  have F16 := fun_mk (st := s__undo) l16 c16 k16
  have b16 := F16.binds (ps := ["have", "order"]) fun _ _ _ _ _ _ us hl => match us, hl with | [_, _], _ => rfl
  have F17 := fun_mk (st := s__parts_places) l17 c17 k17
  have b17 := F17.binds (ps := ["told", "many"]) fun _ _ _ _ _ _ us hl => match us, hl with | [_, _], _ => rfl
  have F18 := fun_mk (st := s__law_begin) l18 c18 k18
  have b18 := F18.binds (ps := ["script"]) fun _ _ _ _ _ _ us hl => match us, hl with | [_], _ => rfl
  have F19 := fun_mk (st := s__law_more) l19 c19 k19
  have b19 := F19.binds (ps := ["state"]) fun _ _ _ _ _ _ us hl => match us, hl with | [_], _ => rfl
  have F20 := fun_mk (st := s__law_next) l20 c20 k20
  have b20 := F20.binds (ps := ["state", "many"]) fun _ _ _ _ _ _ us hl => match us, hl with | [_, _], _ => rfl
  have F21 := fun_mk (st := s__law_pick) l21 c21 k21
  have b21 := F21.binds (ps := ["state", "some"]) fun _ _ _ _ _ _ us hl => match us, hl with | [_, _], _ => rfl
  have F22 := fun_mk (st := s__law_word) l22 c22 k22
  have b22 := F22.binds (ps := ["state"]) fun _ _ _ _ _ _ us hl => match us, hl with | [_], _ => rfl
  have F23 := fun_mk (st := s__law_crew) l23 c23 k23
  have b23 := F23.binds (ps := ["state", "many"]) fun _ _ _ _ _ _ us hl => match us, hl with | [_, _], _ => rfl
  have F24 := fun_mk (st := s__law_amount) l24 c24 k24
  have b24 := F24.binds (ps := ["state"]) fun _ _ _ _ _ _ us hl => match us, hl with | [_], _ => rfl
  have F25 := fun_mk (st := s__law_one) l25 c25 k25
  have b25 := F25.binds (ps := ["state", "crew"]) fun _ _ _ _ _ _ us hl => match us, hl with | [_, _], _ => rfl
  have F26 := fun_mk (st := s__law_lot) l26 c26 k26
  have b26 := F26.binds (ps := ["state", "crew", "many"]) fun _ _ _ _ _ _ us hl => match us, hl with | [_, _, _], _ => rfl
  have F27 := fun_mk (st := s__law_means) l27 c27 k27
  have b27 := F27.binds (ps := ["state", "crew"]) fun _ _ _ _ _ _ us hl => match us, hl with | [_, _], _ => rfl
  have F28 := fun_mk (st := s__law_behind) l28 c28 k28
  have b28 := F28.binds (ps := ["means", "lot", "places"]) fun _ _ _ _ _ _ us hl => match us, hl with | [_, _, _], _ => rfl
  have F29 := fun_mk (st := s__law_most) l29 c29 k29
  have b29 := F29.binds (ps := ["means", "lot"]) fun _ _ _ _ _ _ us hl => match us, hl with | [_, _], _ => rfl
  have F30 := fun_mk (st := s__law_paper_right) l30 c30 k30
  have b30 := F30.binds (ps := ["means", "lot", "places", "paper"]) fun _ _ _ _ _ _ us hl => match us, hl with | [_, _, _, _], _ => rfl
  have F31 := fun_mk (st := s_law) l31 c31 k31
  have b31 := F31.binds (ps := ["script"]) fun _ _ _ _ _ _ us hl => match us, hl with | [_], _ => rfl
  exact ⟨⟨f0, _, F0, PySem.W.mg_of X G a0, b0⟩,
    ⟨f1, _, F1, PySem.W.mg_of X G a1, b1⟩,
    ⟨f2, _, F2, PySem.W.mg_of X G a2, b2⟩,
    ⟨f3, _, F3, PySem.W.mg_of X G a3, b3⟩,
    ⟨f4, _, F4, PySem.W.mg_of X G a4, b4⟩,
    ⟨f5, _, F5, PySem.W.mg_of X G a5, b5⟩,
    ⟨f6, _, F6, PySem.W.mg_of X G a6, b6⟩,
    ⟨f7, _, F7, PySem.W.mg_of X G a7, b7⟩,
    ⟨f8, _, F8, PySem.W.mg_of X G a8, b8⟩,
    ⟨f9, _, F9, PySem.W.mg_of X G a9, b9⟩,
    ⟨f10, _, F10, PySem.W.mg_of X G a10, b10⟩,
    ⟨f11, _, F11, PySem.W.mg_of X G a11, b11⟩,
    ⟨f12, _, F12, PySem.W.mg_of X G a12, b12⟩,
    ⟨f13, _, F13, PySem.W.mg_of X G a13, b13⟩,
    ⟨f14, _, F14, PySem.W.mg_of X G a14, b14⟩,
    ⟨f15, _, F15, PySem.W.mg_of X G a15, b15⟩,
    ⟨f16, _, F16, PySem.W.mg_of X G a16, b16⟩,
    ⟨f17, _, F17, PySem.W.mg_of X G a17, b17⟩,
    ⟨f18, _, F18, PySem.W.mg_of X G a18, b18⟩,
    ⟨f19, _, F19, PySem.W.mg_of X G a19, b19⟩,
    ⟨f20, _, F20, PySem.W.mg_of X G a20, b20⟩,
    ⟨f21, _, F21, PySem.W.mg_of X G a21, b21⟩,
    ⟨f22, _, F22, PySem.W.mg_of X G a22, b22⟩,
    ⟨f23, _, F23, PySem.W.mg_of X G a23, b23⟩,
    ⟨f24, _, F24, PySem.W.mg_of X G a24, b24⟩,
    ⟨f25, _, F25, PySem.W.mg_of X G a25, b25⟩,
    ⟨f26, _, F26, PySem.W.mg_of X G a26, b26⟩,
    ⟨f27, _, F27, PySem.W.mg_of X G a27, b27⟩,
    ⟨f28, _, F28, PySem.W.mg_of X G a28, b28⟩,
    ⟨f29, _, F29, PySem.W.mg_of X G a29, b29⟩,
    ⟨f30, _, F30, PySem.W.mg_of X G a30, b30⟩,
    ⟨f31, _, F31, PySem.W.mg_of X G a31, b31⟩,
    PySem.W.mg_none_of X G z_list,
    PySem.W.mg_none_of X G z_range,
    PySem.W.mg_none_of X G z_len,
    PySem.W.mg_none_of X G z_dict,
    PySem.W.mg_none_of X G z_max,
    PySem.W.mg_none_of X G z_all,
    PySem.W.mg_none_of X G z_isinstance,
    PySem.W.mg_none_of X G z_tuple,
    PySem.W.mg_none_of X G z_int,
    PySem.W.mg_none_of X G z_bool,
    PySem.W.mg_none_of X G z_str,
    PySem.W.mg_none_of X G z_enumerate,
    PySem.W.mg_none_of X G z_sorted,
    ⟨t0, PySem.W.mg_of X G gc0⟩,
    ⟨t1, PySem.W.mg_of X G gc1⟩,
    ⟨t2, PySem.W.mg_of X G gc2⟩,
    ⟨t3, PySem.W.mg_of X G gc3⟩,
    ⟨t4, PySem.W.mg_of X G gc4⟩⟩
end My
open PySem PySem.W PyProof.Rows
set_option maxRecDepth 100000 in
set_option maxHeartbeats 0 in
theorem PySem.Challenge.cw_clearyard_k18_greatest_rounds_told_holds : PySem.Challenge.rw_clearyard_k18_greatest_rounds_told.Holds := by
  w_on; o_law; k_head; (case hw => w_witness2)
  k_fill
  refine My.to_row (r := PySem.Challenge.rw_clearyard_k18_greatest_rounds_told) rfl rfl (fun w h Y => PySem.W.kIn_of Y) ?F
  case F =>
    intro w mg fa h KX G hmg
    refine My.fin ?T hmg
    refine' My.all_mk KX G ?a0 ?l0 ?c0 ?k0 ?a1 ?l1 ?c1 ?k1 ?a2 ?l2 ?c2 ?k2 ?a3 ?l3 ?c3 ?k3 ?a4 ?l4 ?c4 ?k4 ?a5 ?l5 ?c5 ?k5 ?a6 ?l6 ?c6 ?k6 ?a7 ?l7 ?c7 ?k7 ?a8 ?l8 ?c8 ?k8 ?a9 ?l9 ?c9 ?k9 ?a10 ?l10 ?c10 ?k10 ?a11 ?l11 ?c11 ?k11 ?a12 ?l12 ?c12 ?k12 ?a13 ?l13 ?c13 ?k13 ?a14 ?l14 ?c14 ?k14 ?a15 ?l15 ?c15 ?k15 ?a16 ?l16 ?c16 ?k16 ?a17 ?l17 ?c17 ?k17 ?a18 ?l18 ?c18 ?k18 ?a19 ?l19 ?c19 ?k19 ?a20 ?l20 ?c20 ?k20 ?a21 ?l21 ?c21 ?k21 ?a22 ?l22 ?c22 ?k22 ?a23 ?l23 ?c23 ?k23 ?a24 ?l24 ?c24 ?k24 ?a25 ?l25 ?c25 ?k25 ?a26 ?l26 ?c26 ?k26 ?a27 ?l27 ?c27 ?k27 ?a28 ?l28 ?c28 ?k28 ?a29 ?l29 ?c29 ?k29 ?a30 ?l30 ?c30 ?k30 ?a31 ?l31 ?c31 ?k31 ?z_list ?z_range ?z_len ?z_dict ?z_max ?z_all ?z_isinstance ?z_tuple ?z_int ?z_bool ?z_str ?z_enumerate ?z_sorted ?gc0 ?gc1 ?gc2 ?gc3 ?gc4
    (case a0 => k_is); (case l0 => k_is); (case c0 => k_is); (case k0 => k_is); (case a1 => k_is); (case l1 => k_is)
    (case c1 => k_is); (case k1 => k_is); (case a2 => k_is); (case l2 => k_is); (case c2 => k_is); (case k2 => k_is)
    (case a3 => k_is); (case l3 => k_is); (case c3 => k_is); (case k3 => k_is); (case a4 => k_is); (case l4 => k_is)
    (case c4 => k_is); (case k4 => k_is); (case a5 => k_is); (case l5 => k_is); (case c5 => k_is); (case k5 => k_is)
    (case a6 => k_is); (case l6 => k_is); (case c6 => k_is); (case k6 => k_is); (case a7 => k_is); (case l7 => k_is)
    (case c7 => k_is); (case k7 => k_is); (case a8 => k_is); (case l8 => k_is); (case c8 => k_is); (case k8 => k_is)
    (case a9 => k_is); (case l9 => k_is); (case c9 => k_is); (case k9 => k_is); (case a10 => k_is); (case l10 => k_is)
    (case c10 => k_is); (case k10 => k_is); (case a11 => k_is); (case l11 => k_is); (case c11 => k_is); (case k11 => k_is)
    (case a12 => k_is); (case l12 => k_is); (case c12 => k_is); (case k12 => k_is); (case a13 => k_is); (case l13 => k_is)
    (case c13 => k_is); (case k13 => k_is); (case a14 => k_is); (case l14 => k_is); (case c14 => k_is); (case k14 => k_is)
    (case a15 => k_is); (case l15 => k_is); (case c15 => k_is); (case k15 => k_is); (case a16 => k_is); (case l16 => k_is)
    (case c16 => k_is); (case k16 => k_is); (case a17 => k_is); (case l17 => k_is); (case c17 => k_is); (case k17 => k_is)
    (case a18 => k_is); (case l18 => k_is); (case c18 => k_is); (case k18 => k_is); (case a19 => k_is); (case l19 => k_is)
    (case c19 => k_is); (case k19 => k_is); (case a20 => k_is); (case l20 => k_is); (case c20 => k_is); (case k20 => k_is)
    (case a21 => k_is); (case l21 => k_is); (case c21 => k_is); (case k21 => k_is); (case a22 => k_is); (case l22 => k_is)
    (case c22 => k_is); (case k22 => k_is); (case a23 => k_is); (case l23 => k_is); (case c23 => k_is); (case k23 => k_is)
    (case a24 => k_is); (case l24 => k_is); (case c24 => k_is); (case k24 => k_is); (case a25 => k_is); (case l25 => k_is)
    (case c25 => k_is); (case k25 => k_is); (case a26 => k_is); (case l26 => k_is); (case c26 => k_is); (case k26 => k_is)
    (case a27 => k_is); (case l27 => k_is); (case c27 => k_is); (case k27 => k_is); (case a28 => k_is); (case l28 => k_is)
    (case c28 => k_is); (case k28 => k_is); (case a29 => k_is); (case l29 => k_is); (case c29 => k_is); (case k29 => k_is)
    (case a30 => k_is); (case l30 => k_is); (case c30 => k_is); (case k30 => k_is); (case a31 => k_is); (case l31 => k_is)
    (case c31 => k_is); (case k31 => k_is); (case z_list => k_is); (case z_range => k_is); (case z_len => k_is); (case z_dict => k_is)
    (case z_max => k_is); (case z_all => k_is); (case z_isinstance => k_is); (case z_tuple => k_is); (case z_int => k_is); (case z_bool => k_is)
    (case z_str => k_is); (case z_enumerate => k_is); (case z_sorted => k_is); (case gc0 => k_is); (case gc1 => k_is); (case gc2 => k_is)
    (case gc3 => k_is); (case gc4 => k_is)
