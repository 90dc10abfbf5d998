import PyProof.Rows.All
import Wide.All
import OpenK.AllK
import Wide.FinOn
import Lean
import PyProof.EqAt
import PyProof.EqKinds
import PyProof.TupleCall
import PyProof.NeKinds
import PySem.Challenge.RW_flowkinds_k36_told_by_places
set_option Elab.async false
set_option linter.all false
set_option maxRecDepth 100000
set_option maxHeartbeats 4000000
set_option genInjectivity false
set_option genSizeOf false
set_option bootstrap.genMatcherCode false
set_option compiler.extract_closed false
open List renaming all_cons → ZaR, any_cons → ZaE, append_assoc → Za7, append_nil → Zas, cons_append → ZaF, drop_eq_getElem_cons → Zbi, drop_eq_nil_iff → ZaZ, drop_eq_nil_of_le → Zbd, drop_zero → Zbc, eq_nil_of_length_eq_zero → Zbo, ext_getElem? → Zbq, extract_eq_take_drop → Zbk, filterMap → Za0, filterMap_cons → Zad, filter_append → Za3, filter_cons → ZbB, find?_cons → ZaD, flatMap_append → ZbD, foldl_cons → ZaU, getD_eq_getElem?_getD → ZaY, getElem?_append_left → Zaz, getElem?_append_right → Zay, getElem?_cons_succ → ZaX, getElem?_drop → Zbh, getElem?_eq_getElem → ZaT, getElem?_eq_none → Zbx, getElem?_eq_some_iff → Zaj, getElem?_map → ZaA, getElem?_set_ne → Zal, getElem?_set_self → Zak, getElem?_take → Zbg, getElem?_toArray → Zbv, length → Zaw, length_append → ZaC, length_cons → Zao, length_drop → ZaK, length_erase_of_mem → Za1, length_filter_le → ZaN, length_map → Zar, length_nil → ZaG, length_range → Zbs, length_singleton → ZaL, length_take → Zax, lookup → Zap, lookup_cons → ZaM, map_append → ZaO, map_congr_left → Zbz, map_cons → Zaq, map_map → Zby, map_nil → ZaH, mem_append → Zah, mem_append_left → Zai, mem_append_right → Zan, mem_cons → Zag, mem_cons_of_mem → Zaf, mem_cons_self → Zae, mem_filter → Zab, mem_filterMap → Zam, mem_flatMap → ZbC, mem_iff_getElem? → Zbf, mem_map → ZaW, mem_map_of_mem → ZbA, mem_of_getElem? → ZaB, mem_of_mem_drop → Zba, mem_of_mem_take → Za9, mem_range → Zac, mem_singleton → ZaS, nodup_cons → Zat, nodup_iff_pairwise_ne → Zbt, nodup_nil → ZaI, not_mem_nil → ZaV, of_mem_zip → Zau, pairwise_append → Za6, pairwise_iff_getElem → Zbn, pairwise_lt_range → Zbu, pairwise_map → Zbr, perm_append_comm → Za8, perm_ext_iff_of_nodup → Zbw, range → Zaa, range_succ → Za2, range_succ_eq_map → ZaQ, replicate → Zav, reverse_append → Zbl, reverse_reverse → Zbm, set_append_right → Zbp, size_toArray → ZaJ, take_add_one → Zbj, take_append_drop → Za5, take_length → ZaP, take_of_length_le → Zbb, take_zero → Zbe, toArray → Za4
open Nat renaming add_assoc → ZbX, add_sub_cancel_left → Zb1, add_zero → Zb0, div_div_eq_div_mul → Zcb, eq_of_mul_eq_mul_left → Zb7, le_add_left → Zcd, le_add_right → ZbS, le_of_eq → ZbM, le_of_lt → ZbI, le_of_lt_succ → Zb9, le_of_not_lt → ZbO, le_refl → ZbK, le_succ_of_le → ZbV, le_trans → ZbH, lt_irrefl → ZbF, lt_of_lt_of_le → ZbE, lt_of_not_le → Zcc, lt_succ_of_lt → ZbP, lt_succ_self → ZbN, min_eq_left → ZbW, mod_lt → Zb8, mul_assoc → Zb4, mul_comm → Zb5, mul_le_mul → ZbR, mul_left_comm → Zb6, ne_of_gt → ZbJ, ne_of_lt → ZbG, not_lt_zero → ZbU, pos_of_ne_zero → ZbZ, pow_succ → Zb3, pow_zero → Zb2, sub_self → ZbY, succ_le_succ → ZbT, succ_pos → Zca, zero_add → ZbQ, zero_le → ZbL
open Option renaming bind_eq_bind → Zcj, bind_eq_some_iff → Zck, getD_some → Zci, isSome_iff_exists → Zcf, map_eq_some_iff → Zch, map_some → Zcg, some → Zce
open PySem.W renaming callWith_K → ZcE, cellsFrom_some → ZcG, codeIn → ZcI, emptyDict → Zcw, findIn → Zcq, fnOf → ZcH, hasDictIn → Zcp, instObj → Zcl, isFn → Zcs, keepIn → Zcx, kia_one → ZcB, kitx_dict → ZcD, kitx_list → ZcC, lookIn → Zcn, makesIn → Zcv, methodCall_KW → ZcF, methodObj → Zcm, mg_none_of → ZcL, mg_of → ZcK, mroIn → ZcA, nsIn → ZcJ, plainGet → Zco, plainGet_of → Zcr, plainOver → Zct, specialIn → Zcy, takerIn → Zcu, takesIn → Zcz
open PySem.F renaming args_dict_get_3 → ZcO, args_tuple_add_2 → ZcS, entry_dict_get → ZcN, entry_tuple_add → ZcR, plainAttrs_dict → ZcP, plainAttrs_list → ZcU, slot_dict_get → ZcM, slot_dict_setdefault → ZcT, slot_list_append → ZcV, slot_tuple_add → ZcQ, type_list_append → ZcW
open Bool renaming and_eq_true → ZcZ, eq_iff_iff → ZcY, false_eq_true → Zc0, false_ne_true → ZcX, not_true → Zc1
open Array renaming getD_eq_getD_getElem? → Zdc, getElem?_eq_none → Zdg, getElem?_eq_some_iff → Zc4, getElem?_replicate → Zde, getElem?_toList → Zc6, length_toList → Zc2, perm_iff_toList_perm → Zc5, replicate → Zdd, size_map → Zc3, toList_append → Zc8, toList_extract → Zc7, toList_filterMap → Zdf, toList_push → Zc9, toList_reverse → Zda, toList_setIfInBounds → Zdb
open Int renaming emod_lt_of_pos → Zdj, emod_nonneg → Zdi, toNat_natCast → Zdh
open PySem.Heap renaming get?_push_of_some → Zdm, get?_push_size → Zdl, get?_update_self → Zdo, lt_size → Zdk, size_push → Zdn
open PyProof.Rows renaming bubble → Zdq, callWith_type1 → Zdp, envOfC → Zdr
namespace L2.Internal
theorem auR (h : True = True := by rfl) : True := trivial
theorem auD (h : True := by decide) : True := trivial
theorem auI (h : True -> True = True := by intro _; rfl) : True := trivial
theorem auL (h : True = True \/ True := by first | exact .inl rfl | exact .inr rfl | assumption) : True := trivial
open PySem PySem.Spec PyProof.Rows
noncomputable abbrev Key := Sum Int Str
noncomputable def Zlc : Key -> Value -> Bool
 | .inl k, v => Value.isInt k v
 | .inr x, v => Value.isStrOf x v
noncomputable def keyH (w : World) : Key -> Int
 | .inl k => hashInt k
 | .inr x => hashStr w x
theorem ZeC : ∀ {k : Key} {v : Value}, Zlc k v = true -> (∃ i t, k = Sum.inl i /\ v = Value.int i t) \/ (∃ x t, k = Sum.inr x /\ v = Value.str x t)
 | .inl i, v, h => by
  obtain ⟨t, e⟩ := Value.isInt_shape (k := i) (v := v) h
  exact .inl ⟨i, t, rfl, e⟩
 | .inr x, v, h => by
  obtain ⟨t, e⟩ := Value.isStrOf_shape (x := x) (v := v) h
  exact .inr ⟨x, t, rfl, e⟩
theorem ZlN (i : Int) (t : Tok) : Zlc (.inl i) (.int i t) = true := by simp [Zlc, Value.isInt]
theorem ZlO (x : Str) (t : Tok) : Zlc (.inr x) (.str x t) = true := by simp [Zlc, Value.isStrOf]
theorem ZpL (a b : Int) : decide ((Sum.inl a : Key) = Sum.inl b) = (a == b) := by
 by_cases e : a = b
 ·subst e; simp
 ·have h : ¬ (Sum.inl a : Key) = Sum.inl b := fun q => e (Sum.inl.inj q)
  rw [decide_eq_false h]
  exact (beq_eq_false_iff_ne.mpr e).symm
theorem ZpM (a b : Str) : decide ((Sum.inr a : Key) = Sum.inr b) = decide (a = b) := by
 by_cases e : a = b
 ·subst e; simp
 ·have h : ¬ (Sum.inr a : Key) = Sum.inr b := fun q => e (Sum.inr.inj q)
  rw [decide_eq_false h, decide_eq_false e]
theorem ZpN (a : Int) (b : Str) : decide ((Sum.inl a : Key) = Sum.inr b) = false := decide_eq_false (fun q => nomatch q)
theorem ZpO (a : Str) (b : Int) : decide ((Sum.inr a : Key) = Sum.inl b) = false := decide_eq_false (fun q => nomatch q)
noncomputable def ZeM (prog : Program) (w : World) : PySem.KeyKind prog w Key where
 is := Zlc
 hash := keyH w
 inj := fun v a b ha hb => by
  rcases ZeC ha with ⟨i, t, rfl, rfl⟩ | ⟨x, t, rfl, rfl⟩
  ·rcases ZeC hb with ⟨j, u, rfl, e⟩ | ⟨y, u, rfl, e⟩
   ·injection e with e1 _; rw [e1]
   ·exact nomatch e
  ·rcases ZeC hb with ⟨j, u, rfl, e⟩ | ⟨y, u, rfl, e⟩
   ·exact nomatch e
   ·injection e with e1 _; rw [e1]
 byValue := fun k v h => by
  rcases ZeC h with ⟨i, t, rfl, rfl⟩ | ⟨x, t, rfl, rfl⟩ <;> rfl
 pyHash := fun hv h => by
  rcases ZeC hv with ⟨i, t, rfl, rfl⟩ | ⟨x, t, rfl, rfl⟩
  ·exact wpAny_pyHash_int h
  ·exact wpAny_pyHash_str h
 eqBool := fun hu hv h => by
  rcases ZeC hu with ⟨i, t, rfl, rfl⟩ | ⟨x, t, rfl, rfl⟩
  ·rcases ZeC hv with ⟨j, u, rfl, rfl⟩ | ⟨y, u, rfl, rfl⟩
   ·rw [ZpL] at h; exact wpAny_eqBool_int h
   ·rw [ZpN] at h; exact SeqAt.EqAt.int_str i t y u _ _ _ _ h
  ·rcases ZeC hv with ⟨j, u, rfl, rfl⟩ | ⟨y, u, rfl, rfl⟩
   ·rw [ZpO] at h; exact SeqAt.EqAt.str_int x t j u _ _ _ _ h
   ·rw [ZpM] at h; exact wpAny_eqBool_str h
 «strs» := fun k x t v h => by
  rcases ZeC h with ⟨i, u, rfl, e⟩ | ⟨y, u, rfl, e⟩
  ·exact nomatch e
  ·injection e with e1 _
   subst e1
   cases v <;> rfl
theorem Zj3 (prog : Program) (w : World) (i : Int) (t : Tok) : (ZeM prog w).is (.inl i) (.int i t) = true := ZlN i t
theorem Zj4 (prog : Program) (w : World) (x : Str) (t : Tok) : (ZeM prog w).is (.inr x) (.str x t) = true := ZlO x t
end L2.Internal
namespace L2.Internal
open PySem PySem.Spec PyProof.Rows
set_option genInjectivity true in
inductive V where
 | non | bl (b : Bool) | int (i : Int) | str (x : Str) | byt (b : Array UInt8) | flt (b : UInt64) | ref (a : Addr) | ty (n : String)
 deriving DecidableEq
noncomputable def ZeL : V -> Value -> Prop
 | .non, u => u = Value.none
 | .bl b, u => u = Value.bool b
 | .int i, u => ∃ t, u = Value.int i t
 | .str x, u => ∃ t, u = Value.str x t
 | .byt b, u => ∃ t, u = Value.bytes b t
 | .flt b, u => ∃ t, u = Value.float b t
 | .ref a, u => u = Value.ref a
 | .ty n, u => u = Value.type n
noncomputable abbrev Ze0 : List V -> List Value -> Prop := Paired ZeL
theorem Ze0.length {xs : List V} {us : List Value} (r : Ze0 xs us) : xs.length = us.length := Paired.length r
theorem Ze0.get : ∀ {xs : List V} {us : List Value} {i : Nat} {x : V}, Ze0 xs us -> xs[i]? = some x -> ∃ u, us[i]? = some u /\ ZeL x u
 | _, _, _, _, .nil, e => by simp at e
 | _, _, 0, _, .cons r _, e => by simp at e; subst e; exact ⟨_, rfl, r⟩
 | _, _, i + 1, x, .cons _ t, e => by
  obtain ⟨u, h1, h2⟩ := Ze0.get (i := i) (x := x) t (by simpa using e)
  exact ⟨u, by simpa using h1, h2⟩
theorem Ze0.set {x : V} {u : Value} (r : ZeL x u) : ∀ {xs : List V} {us : List Value} (i : Nat), Ze0 xs us -> Ze0 (xs.set i x) (us.set i u)
 | _, _, _, .nil => .nil
 | _, _, 0, .cons _ t => .cons r t
 | _, _, i + 1, .cons q t => .cons q (Ze0.set r i t)
theorem Ze0.append : ∀ {xs ys : List V} {us ws : List Value}, Ze0 xs us -> Ze0 ys ws -> Ze0 (xs ++ ys) (us ++ ws)
 | _, _, _, _, .nil, s => s
 | _, _, _, _, .cons r t, s => .cons r (Ze0.append t s)
theorem Ze0.take : ∀ {xs : List V} {us : List Value} (n : Nat), Ze0 xs us -> Ze0 (xs.take n) (us.take n)
 | _, _, 0, _ => .nil
 | _, _, _ + 1, .nil => .nil
 | _, _, n + 1, .cons r t => .cons r (Ze0.take n t)
theorem Ze0.drop : ∀ {xs : List V} {us : List Value} (n : Nat), Ze0 xs us -> Ze0 (xs.drop n) (us.drop n)
 | _, _, 0, r => r
 | _, _, _ + 1, .nil => .nil
 | _, _, n + 1, .cons _ t => Ze0.drop n t
noncomputable def Zjc : Option V -> Option Value -> Prop
 | some v, some u => ZeL v u
 | none, none => True
 | _, _ => False
noncomputable def KV {κ : Type} : List (κ × V) -> List (κ × Value) -> Prop := Paired fun (p : κ × V) (q : κ × Value) => p.1 = q.1 /\ ZeL p.2 q.2
noncomputable def kV : Key -> V
 | .inl i => .int i
 | .inr x => .str x
inductive HO where
 | lst (xs : List V)
 | tup (xs : List V)
 | dK (kvs : List (Key × V)) | dT (kvs : List (List Key × V))
 | set (S : Int -> Bool) (n : Nat)
 | ins (C dx : Addr) (fs : List (Str × V))
 | own (x : Addr)
 | xd (fs : List (Str × V))
 | met (f x : Addr)
 | rng (lo hi : Int)
 | frz (o : Obj) (u : HO)
 | tbl (ps : Array Value)
 | ext (φ : Heap -> Prop)
noncomputable abbrev Hp := Addr -> Option HO
def ZlP (h : Heap) (a : Addr) (items : Array Value) : Prop := ∃ o, h.get? a = some o /\ o.cls = .type "tuple" /\ ∃ n, o.data = .seq items n /\ o.dict = none
theorem ZlP.tup {h : Heap} {a : Addr} {items : Array Value} : ZlP h a items -> IsTup h a items
 | ⟨o, h1, h2, n, h3, _⟩ => ⟨o, h1, h2, n, h3⟩
theorem ZlP.lt {h : Heap} {a : Addr} {items : Array Value} (p : ZlP h a items) : a < h.objs.size := by
 obtain ⟨o, e, _⟩ := p
 exact Zdk e
theorem ZlP.new (h : Heap) (items : Array Value) : ZlP (h.push { cls := .type "tuple", data := .seq items }) h.objs.size items := ⟨_, Zdl _ rfl, rfl, _, rfl, rfl⟩
noncomputable def upd (H : Hp) (a : Addr) (o : HO) : Hp := fun b => if b = a then some o else H b
theorem Zdt {H : Hp} {a : Addr} {o : HO} : upd H a o a = some o := by unfold upd; rw [if_pos rfl]
theorem ZdA {H : Hp} {a b : Addr} {o : HO} (h : b ≠ a) : upd H a o b = H b := by unfold upd; rw [if_neg h]
theorem Zes {H : Hp} {a : Addr} {o u : HO} : upd (upd H a o) a u = upd H a u := by
 funext b; unfold upd; split <;> rfl
theorem ZdY {H : Hp} {a b : Addr} {o u : HO} (h : H a = some o) (h' : H b = some u) (d : o ≠ u) : a ≠ b := by
 intro e; subst e; rw [h] at h'; exact d (Zce.inj h')
theorem ZdD {H : Hp} {a b : Addr} {o : HO} (h : H a = some o) (h' : H b = none) : a ≠ b := by
 intro e; subst e; rw [h] at h'; cases h'
section
variable (P : Program) (w : World)
noncomputable def Ze4 (H : Hp) (h : Heap) (a : Addr) : HO -> Prop
 | .lst xs => xs.length <= sizeLine /\ ∃ (its : List Value) (n : Nat), Ze0 xs its /\ h.get? a = some { cls := .type "list", data := .seq its.toArray n }
 | .tup xs => xs.length <= sizeLine /\ ∃ its : List Value, Ze0 xs its /\ ZlP h a its.toArray
 | .dK kvs => kvs.length <= sizeLine /\ (a == sysModules) = false /\ ∃ vs, KV kvs vs /\ h.DictOf (ZeM P w) a vs
 | .dT kvs => kvs.length <= sizeLine /\ (a == sysModules) = false /\ ∃ xs : List (List Key × Addr × Value),
   Paired (fun (p : List Key × V) (q : List Key × Addr × Value) => p.1 = q.1 /\ H q.2.1 = some (.tup (p.1.map kV)) /\ ZeL p.2 q.2.2) kvs xs /\
   ∃ o es ep, h.get? a = some o /\ o.ExactDict /\ o.data = .dict es ep /\ es.toList = xs.map (entryOfKey (tupleKind (ZeM P w))) /\ (xs.map (·.1)).Nodup
 | .set S n => h.SetOf (intKind P w) a S n
 | .ins C dx fs => H dx = some (.own a) /\ fs.length <= 1000 /\ dx ≠ a /\ h.get? a = some (Zcl C dx) /\
   ∃ mA, h.Ns1 dx mA /\ (∀ f, Zjc (fs.lookup f) (mA f)) /\ PySem.Within mA (fs.map (·.1))
 | .own _ => ∃ o, h.get? a = some o
 | .xd fs => ∃ mA, h.Ns1 a mA /\ ∀ f, Zjc (fs.lookup f) (mA f)
 | .rng lo hi => ∃ t u v, h.get? a = some { cls := .type "range", data := .fields #[.int lo t, .int hi u, .int 1 v] }
 | .frz o u => h.get? a = some o /\ Ze4 H h a u
 | .tbl ps => h.get? a = some { cls := .none, data := .fields ps }
 | .met f x => h.get? a = some (Zcm (.ref f) (.ref x))
 | .ext φ => φ h /\ (∃ o, h.get? a = some o) /\ ∀ h1 h2 : Heap, φ h1 -> (∀ o, h1.get? a = some o -> h2.get? a = some o) -> φ h2
def HOk (H : Hp) (h : Heap) : Prop := ∀ a o, H a = some o -> Ze4 P w H h a o
end
section
variable {P : Program} {w : World} {H H' : Hp} {h h' : Heap} {a : Addr} {o : HO}
theorem Ze4.lt (x : Ze4 P w H h a o) : a < h.objs.size := by
 cases o with
 | lst xs => obtain ⟨_, _, _, _, e⟩ := x; exact Zdk e
 | tup xs => obtain ⟨_, _, _, p⟩ := x; exact p.lt
 | dK kvs => obtain ⟨_, _, _, _, o, _, _, e, _⟩ := x; exact Zdk e
 | dT kvs => obtain ⟨_, _, _, _, o, _, _, e, _⟩ := x; exact Zdk e
 | set S n => obtain ⟨o, _, _, _, e, _⟩ := x; exact Zdk e
 | ins C dx fs => obtain ⟨_, _, _, e, _⟩ := x; exact Zdk e
 | own y => obtain ⟨_, e⟩ := x; exact Zdk e
 | xd fs => obtain ⟨_, ⟨_, _, _, e, _⟩, _⟩ := x; exact Zdk e
 | rng lo hi => obtain ⟨_, _, _, e⟩ := x; exact Zdk e
 | frz ob u => obtain ⟨e, _⟩ := x; exact Zdk e
 | tbl ps => exact Zdk (show h.get? a = some _ from x)
 | met f y => exact Zdk (show h.get? a = some _ from x)
 | ext φ => obtain ⟨_, ⟨_, e⟩, _⟩ := x; exact Zdk e
theorem Paired.mapP {α β : Type} {F G : α -> β -> Prop} : ∀ {l₁ : List α} {l₂ : List β}, Paired F l₁ l₂ -> (∀ a b, F a b -> G a b) -> Paired G l₁ l₂
 | _, _, .nil, _ => .nil
 | _, _, .cons r t, f => .cons (f _ _ r) (Paired.mapP t f)
theorem Ze4.stay (x : Ze4 P w H h a o) (k : ∀ b u, (b = a \/ H b = some (.own a)) -> h.get? b = some u -> h'.get? b = some u)
  (ho : ∀ b, H b = some (.own a) -> H' b = some (.own a)) (ht : ∀ b xs, H b = some (.tup xs) -> H' b = some (.tup xs)) : Ze4 P w H' h' a o := by
 induction o with
 | lst xs => obtain ⟨z, its, n, r, e⟩ := x; exact ⟨z, its, n, r, k _ _ (.inl rfl) e⟩
 | tup xs => obtain ⟨z, its, r, ob, e, c⟩ := x; exact ⟨z, its, r, ob, k _ _ (.inl rfl) e, c⟩
 | dK kvs => obtain ⟨z, y, vs, r, ob, es, ep, e, c⟩ := x; exact ⟨z, y, vs, r, ob, es, ep, k _ _ (.inl rfl) e, c⟩
 | dT kvs =>
  obtain ⟨z, y, xs, r, ob, es, ep, e, c⟩ := x
  exact ⟨z, y, xs, Paired.mapP r fun p q z => ⟨z.1, ht _ _ z.2.1, z.2.2⟩, ob, es, ep, k _ _ (.inl rfl) e, c⟩
 | set S n => obtain ⟨ob, es, ep, t, e, c⟩ := x; exact ⟨ob, es, ep, t, k _ _ (.inl rfl) e, c⟩
 | ins C dx fs =>
  obtain ⟨d, z, ne, e, mA, ⟨od, es, ep, e2, c⟩, r⟩ := x
  exact ⟨ho _ d, z, ne, k _ _ (.inl rfl) e, mA, ⟨od, es, ep, k _ _ (.inr d) e2, c⟩, r⟩
 | own y => obtain ⟨ob, e⟩ := x; exact ⟨ob, k _ _ (.inl rfl) e⟩
 | xd fs => obtain ⟨mA, ⟨od, es, ep, e, c⟩, r⟩ := x; exact ⟨mA, ⟨od, es, ep, k _ _ (.inl rfl) e, c⟩, r⟩
 | rng lo hi => obtain ⟨t, u, v, e⟩ := x; exact ⟨t, u, v, k _ _ (.inl rfl) e⟩
 | frz ob u ih => obtain ⟨e, q⟩ := x; exact ⟨k _ _ (.inl rfl) e, ih q⟩
 | tbl ps =>
  have e : h.get? a = some { cls := .none, data := .fields ps } := x
  show h'.get? a = some { cls := .none, data := .fields ps }
  exact k a _ (.inl rfl) e
 | met f y =>
  have e : h.get? a = some (Zcm (.ref f) (.ref y)) := x
  show h'.get? a = some (Zcm (.ref f) (.ref y))
  exact k a _ (.inl rfl) e
 | ext φ => obtain ⟨p, ⟨o, e⟩, st⟩ := x; exact ⟨st _ _ p fun o q => k _ _ (.inl rfl) q, ⟨o, k _ _ (.inl rfl) e⟩, st⟩
theorem HOk.lt (x : HOk P w H h) (e : H a = some o) : a < h.objs.size := (x a o e).lt
theorem HOk.fresh (x : HOk P w H h) (e : h.objs.size <= a) : H a = none := by
 cases q : H a with
 | none => rfl
 | some u => exact absurd (ZbE (x.lt q) e) (ZbF _)
theorem HOk.kept (x : HOk P w H h) (k : ∀ b u, h.get? b = some u -> h'.get? b = some u) : HOk P w H h' := fun a o e =>
 (x a o e).stay (fun b u _ q => k b u q) (fun _ q => q) fun _ _ q => q
theorem HOk.laid (x : HOk P w H h) (k : ∀ b u, h.get? b = some u -> h'.get? b = some u) (hp : h.objs.size <= a) (new : Ze4 P w (upd H a o) h' a o) : HOk P w (upd H a o) h' := fun b u e => by
 have hn := x.fresh hp
 by_cases hb : b = a
 ·subst hb; rw [Zdt] at e; cases e; exact new
 ·rw [ZdA hb] at e
  exact (x b u e).stay (fun c v _ q => k c v q) (fun c q => by rw [ZdA (ZdD q hn)]; exact q) fun c xs q => by rw [ZdA (ZdD q hn)]; exact q
end
def Rd (H : Hp) (a : Addr) (u : HO) : Prop := H a = some u \/ ∃ o, H a = some (.frz o u)
theorem Rd.ok {P : Program} {w : World} {H : Hp} {h : Heap} {a : Addr} {u : HO} (r : Rd H a u) (x : HOk P w H h) : Ze4 P w H h a u := by
 rcases r with r | ⟨o, r⟩
 ·exact x a u r
 ·obtain ⟨_, q⟩ := x a _ r
  exact q
noncomputable def Mut : Option HO -> Prop
 | some (.lst _) => True
 | some (.dK _) => True
 | some (.dT _) => True
 | some (.set _ _) => True
 | some (.ins _ _ _) => True
 | some (.ext _) => True
 | _ => False
section
variable {P : Program} {w : World} {H : Hp} {h h' : Heap} {x e : Addr} {o' : HO}
theorem HOk.write (ok : HOk P w H h) (mu : Mut (H x)) (he : e = x \/ H e = some (.own x)) (k : ∀ b u, b ≠ e -> h.get? b = some u -> h'.get? b = some u) (heo : ∃ u, h'.get? e = some u)
  (new : Ze4 P w (upd H x o') h' x o') : HOk P w (upd H x o') h' := fun b u q => by
 have nown : ∀ c y, H c = some (.own y) -> c ≠ x := fun c y r z => by subst z; rw [r] at mu; exact mu
 have ntup : ∀ c xs, H c = some (.tup xs) -> c ≠ x := fun c xs r z => by subst z; rw [r] at mu; exact mu
 by_cases hb : b = x
 ·subst hb; rw [Zdt] at q; cases q; exact new
 ·rw [ZdA hb] at q
  by_cases hbe : b = e
  ·have q' : H b = some (.own x) := by
    rcases he with z | z
    ·exact absurd (hbe.trans z) hb
    ·rw [hbe]; exact z
   rw [q] at q'; cases q'
   obtain ⟨v, hv⟩ := heo
   exact ⟨v, by rw [hbe]; exact hv⟩
  ·refine (ok b u q).stay (fun c v hc r => k c v ?_ r) (fun c r => by rw [ZdA (nown c b r)]; exact r) fun c xs r => by rw [ZdA (ntup c xs r)]; exact r
   rcases hc with rfl | hc
   ·exact hbe
   ·rintro rfl
    rcases he with z | z
    ·exact nown c b hc z
    ·rw [hc] at z; cases z; exact hb rfl
end
structure Un (fs ex : List Addr) (H H' : Hp) (h h' : Heap) : Prop where
 keep : ∀ b o, h.get? b = some o -> H b = none -> b ∉ fs -> b ∉ ex -> h'.get? b = some o
 slot : ∀ b o, h.get? b = some o -> H b = none -> b ∈ fs -> b ∉ ex -> ∃ sl, h'.get? b = some { o with slots := sl }
 free : ∀ b o, h.get? b = some o -> H b = none -> b ∉ ex -> H' b = none
 there : ∀ b o, h.get? b = some o -> b ∉ ex -> ∃ o', h'.get? b = some o'
 tups : ∀ b xs, H b = some (.tup xs) -> H' b = some (.tup xs)
 frzs : ∀ b o u, H b = some (.frz o u) -> H' b = some (.frz o u)
 tbls : ∀ b ps, H b = some (.tbl ps) -> ∃ more, H' b = some (.tbl (ps ++ more))
section
variable {fs fs' ex ex' : List Addr} {H H1 H2 : Hp} {h h1 h2 h' : Heap} {a x e : Addr} {o : HO}
theorem Un.any (u : Un fs ex H H1 h h1) {b : Addr} {ob : Obj} (q : h.get? b = some ob) (n : H b = none) (hx : b ∉ ex) : ∃ sl, h1.get? b = some { ob with slots := sl } := by
 by_cases hb : b ∈ fs
 ·exact u.slot b ob q n hb hx
 ·exact ⟨ob.slots, u.keep b ob q n hb hx⟩
theorem Un.trans (a : Un fs ex H H1 h h1) (b : Un fs ex H1 H2 h1 h2) : Un fs ex H H2 h h2 where
 keep := fun c ob q n hc hx => b.keep c ob (a.keep c ob q n hc hx) (a.free c ob q n hx) hc hx
 slot := fun c ob q n hc hx => by
  obtain ⟨sl, e1⟩ := a.slot c ob q n hc hx
  obtain ⟨sl', e2⟩ := b.slot c _ e1 (a.free c ob q n hx) hc hx
  exact ⟨sl', e2⟩
 free := fun c ob q n hx => by
  obtain ⟨o', e1⟩ := a.there c ob q hx
  exact b.free c o' e1 (a.free c ob q n hx) hx
 there := fun c ob q hx => by
  obtain ⟨o', e1⟩ := a.there c ob q hx
  exact b.there c o' e1 hx
 tups := fun c xs q => b.tups c xs (a.tups c xs q)
 frzs := fun c ob xs q => b.frzs c ob xs (a.frzs c ob xs q)
 tbls := fun c ps q => by
  obtain ⟨m1, e1⟩ := a.tbls c ps q
  obtain ⟨m2, e2⟩ := b.tbls c _ e1
  exact ⟨m1 ++ m2, by rw [e2, Array.append_assoc]⟩
theorem Un.kept (k : ∀ b u, h.get? b = some u -> h'.get? b = some u) : Un fs ex H H h h' :=
 ⟨fun b ob q _ _ _ => k b ob q, fun b ob q _ _ _ => ⟨ob.slots, k b ob q⟩, fun _ _ _ n _ => n, fun b ob q _ => ⟨ob, k b ob q⟩, fun _ _ q => q, fun _ _ _ q => q, fun _ ps q => ⟨#[], by rw [q]; simp⟩⟩
theorem Un.refl : Un fs ex H H h h := Un.kept fun _ _ q => q
theorem Un.laid (k : ∀ b u, h.get? b = some u -> h'.get? b = some u) (hp : h.objs.size <= a) (hn : H a = none) : Un fs ex H (upd H a o) h h' where
 keep := fun b u q _ _ _ => k b u q
 slot := fun b u q _ _ _ => ⟨u.slots, k b u q⟩
 free := fun b u q n _ => by rw [ZdA (ZbG (ZbE (Zdk q) hp))]; exact n
 there := fun b u q _ => ⟨u, k b u q⟩
 tups := fun b xs q => by rw [ZdA (ZdD q hn)]; exact q
 frzs := fun b u xs q => by rw [ZdA (ZdD q hn)]; exact q
 tbls := fun b ps q => ⟨#[], by rw [ZdA (ZdD q hn), q]; simp⟩
theorem Un.write (mu : Mut (H x)) (he : e = x \/ H e = some (.own x)) (k : ∀ b u, b ≠ e -> h.get? b = some u -> h'.get? b = some u) (heo : ∃ u, h'.get? e = some u) : Un fs ex H (upd H x o) h h' := by
 have hx : ∀ b, H b = none -> b ≠ x := fun b n z => by subst z; rw [n] at mu; exact mu
 have hb : ∀ b, H b = none -> b ≠ e := fun b n z => by
  subst z
  rcases he with r | r
  ·exact hx b n r
  ·rw [n] at r; cases r
 have hm : ∀ b u, H b = some u -> ¬ Mut (some u) -> b ≠ x := fun b u q nm z => by subst z; rw [q] at mu; exact nm mu
 refine ⟨fun b u q n _ _ => k b u (hb b n) q, fun b u q n _ _ => ⟨u.slots, k b u (hb b n) q⟩, fun b u q n _ => by rw [ZdA (hx b n)]; exact n, fun b u q _ => ?_,
  fun b xs q => by rw [ZdA (hm b _ q fun z => z)]; exact q, fun b u xs q => by rw [ZdA (hm b _ q fun z => z)]; exact q, fun b ps q => ⟨#[], by rw [ZdA (hm b _ q fun z => z), q]; simp⟩⟩
 by_cases hbe : b = e
 ·subst hbe; exact heo
 ·exact ⟨u, k b u hbe q⟩
end
noncomputable def trk (h : Heap) (H : Hp) : List Addr := (Zaa h.objs.size).filter fun a => (H a).isSome
noncomputable def Znk (h : Heap) (H : Hp) : Heap := PySem.W.hideAll h (trk h H)
theorem ZlQ (h : Heap) (H : Hp) : (Znk h H).objs.size = h.objs.size := PySem.W.hideAll_size _ _
theorem Znl {h : Heap} {H : Hp} {b : Addr} {o : Obj} (e : h.get? b = some o) (n : H b = none) : (Znk h H).get? b = some o :=
 PySem.W.hideAll_get _ e fun hm => by
  have q : (H b).isSome = true := (Zab.mp hm).2
  rw [n] at q; simp at q
theorem Zoz {h : Heap} {H : Hp} {b : Addr} {o : Obj} (e : (Znk h H).get? b = some o) : h.get? b = some o /\ H b = none := by
 have e' : h.get? b = some o := PySem.W.of_hideAll (trk h H) e
 refine ⟨e', ?_⟩
 cases q : H b with
 | none => rfl
 | some x =>
  have hm : b ∈ trk h H := Zab.mpr ⟨Zac.mpr (Zdk e'), by simp [q]⟩
  have z : (Znk h H).get? b = none := PySem.W.hideAll_none (trk h H) hm
  rw [z] at e; cases e
end L2.Internal
namespace L2.Internal
open PySem PySem.Spec PyProof.Rows
structure Mod (K : PySem.W.Frag) (mg : Str -> Option Value) (base : Heap) : Prop where
 kin : K.In base
 glob : base.Ns mainGlobals mg
 blt : ∃ mb, base.Ns builtinsNs mb /\ ∀ x : Str, x ≠ "__name__" -> mb x = bootBuiltins x
 nolimit : base.NoLimit
structure Cx where
 prog : Program
 w : World
 K : PySem.W.Frag
 mg : Str -> Option Value
 base : Heap
 A : Around
 N : List Str
 s₀ : Shared
 H₀ : Hp
 env : Env
 outer : List Env
 stack : List Env
 ex : List Addr
 fn : Str -> Bool
 calm : Bool
 pn : List (Addr × Obj)
 xe : Value -> Shared -> Prop
noncomputable def frs (l : List Env) : List Addr := l.filterMap (·.frame)
noncomputable abbrev Cx.fs (X : Cx) : List Addr := frs X.outer
def Vis (sc : Scope) (x : Str) : Prop := sc.names.lookup x = some .local \/ sc.names.lookup x = some .cell \/ sc.names.lookup x = some .free
def Loc (sc : Scope) (x : Str) : Prop := sc.names.lookup x = some .local \/ sc.names.lookup x = some .cell
def Look (env : Env) (h : Heap) (m : Str -> Option Value) (x : Str) (u : Value) : Prop :=
 (env.kindOf x = some .local /\ m x = some u) \/ ((env.kindOf x = some .cell \/ env.kindOf x = some .free) /\ ∃ c, env.cells.lookup x = some c /\ h.IsCell c (some u))
structure Cx.Ok (X : Cx) : Prop where
 mod : Mod X.K X.mg X.base
 kind : X.env.scope.kind = .function
 glob : X.env.globals = mainGlobals
 blt : X.env.builtins = builtinsNs
 above : X.s₀.heap.objs.size <= X.env.locals
 inj : ∀ x y c, X.env.cells.lookup x = some c -> X.env.cells.lookup y = some c -> x = y
 has : ∀ x, (X.env.kindOf x = some .cell \/ X.env.kindOf x = some .free) -> ∃ c, X.env.cells.lookup x = some c
 cab : ∀ x c, X.fn x = true -> X.env.cells.lookup x = some c -> X.s₀.heap.objs.size <= c
 hd : X.calm = true -> X.A.handled = none
 frames : X.A.frames = some X.stack
 stk : X.stack = X.outer \/ (X.stack = X.env :: X.outer /\ X.env.frame = some X.env.locals)
 exf : ∀ b ∈ X.ex, b ≠ X.env.locals /\ ∀ x c, X.env.cells.lookup x = some c -> c ≠ b
 bs : ∀ b o, X.base.get? b = some o -> X.s₀.heap.get? b = some o /\ X.H₀ b = none
 bsz : X.base.objs.size <= X.s₀.heap.objs.size
 noex : ∀ b o, X.base.get? b = some o -> b ∉ X.ex
 exfs : ∀ b ∈ X.ex, b ∉ X.fs
 funs : X.s₀.heap.FunFrames X.base X.outer
 frf : ∀ b ∈ X.fs, X.H₀ b = none
structure Inv (X : Cx) (pins : List (Addr × Obj)) (σ : List (Option V)) (H : Hp) (s : Shared) : Prop where
 ok : X.Ok
 os : s.os = X.s₀.os
 bare : AllBare s.gens
 base : Un X.fs X.ex X.H₀ H X.s₀.heap s.heap
 loc : ∃ m, s.heap.Ns X.env.locals m /\ ∀ (i : Nat) (x : Str) (v : V), X.N[i]? = some x -> σ[i]? = some (some v) -> Vis X.env.scope x -> ∃ u, ZeL v u /\ Look X.env s.heap m x u
 cell : ∀ x c, X.env.cells.lookup x = some c -> ∃ v, s.heap.IsCell c v
 free : H X.env.locals = none
 freeC : ∀ x c, X.env.cells.lookup x = some c -> H c = none
 pin : ∀ p ∈ X.pn ++ pins, s.heap.get? p.1 = some p.2 /\ H p.1 = none /\ p.1 ≠ X.env.locals /\ p.1 ∉ X.fs /\ ∀ v, p.2.data ≠ .cell v
 hok : HOk X.prog X.w H s.heap
 len : σ.length = X.N.length
section
variable {X : Cx} {pins : List (Addr × Obj)} {σ : List (Option V)} {H H' : Hp} {s : Shared} {h' : Heap}
theorem Cx.Ok.nofr (ok : X.Ok) {b : Addr} {o : Obj} (e : X.base.get? b = some o) : b ∉ X.fs := fun hb => by
 have := (ok.funs.mem hb).1
 rw [e] at this; cases this
theorem Inv.bs (I : Inv X pins σ H s) : ∀ b o, X.base.get? b = some o -> s.heap.get? b = some o /\ H b = none := fun b o e =>
 ⟨I.base.keep b o (I.ok.bs b o e).1 (I.ok.bs b o e).2 (I.ok.nofr e) (I.ok.noex b o e), I.base.free b o (I.ok.bs b o e).1 (I.ok.bs b o e).2 (I.ok.noex b o e)⟩
theorem Inv.bk (I : Inv X pins σ H s) : ∀ b o, X.base.get? b = some o -> s.heap.get? b = some o := fun b o e => (I.bs b o e).1
theorem Inv.mod (I : Inv X pins σ H s) : Mod X.K X.mg X.base := I.ok.mod
theorem Inv.kIn (I : Inv X pins σ H s) : X.K.In s.heap := I.ok.mod.kin.keeps I.bk
theorem Inv.lt (I : Inv X pins σ H s) : X.env.locals < s.heap.objs.size := let ⟨_, hn, _⟩ := I.loc; hn.lt
theorem Inv.sz (I : Inv X pins σ H s) : X.s₀.heap.objs.size <= s.heap.objs.size := ZbH I.ok.above (ZbI I.lt)
theorem Inv.nofs (I : Inv X pins σ H s) {a : Addr} (h : s.heap.objs.size <= a) : a ∉ X.fs := fun hb => by
 obtain ⟨_, o, ho, _⟩ := I.ok.funs.mem hb
 exact absurd (ZbE (Zdk ho) (ZbH I.sz h)) (ZbF _)
theorem Inv.cne (I : Inv X pins σ H s) : ∀ x c, X.env.cells.lookup x = some c -> c ≠ X.env.locals := fun x c e z => by
 obtain ⟨v, o, ho, hd⟩ := I.cell x c e
 obtain ⟨m, ⟨o', es, ep, ho', hd', _⟩, _⟩ := I.loc
 rw [z, ho'] at ho; cases ho; rw [hd'] at hd; cases hd
theorem Inv.funs (I : Inv X pins σ H s) : s.heap.FunFrames X.base X.outer := by
 have all : ∀ (l : List Env), (∀ b ∈ frs l, b ∈ X.fs) -> X.s₀.heap.FunFrames X.base l -> s.heap.FunFrames X.base l := by
  intro l
  induction l with
  | nil => intro _ _; trivial
  | cons env r ih =>
   intro hs hl
   obtain ⟨hk, ⟨L, o, hf, hn, ho, hd⟩, hr⟩ := hl
   have hL : L ∈ X.fs := hs L (by unfold frs; rw [Zad, hf]; exact Zae)
   obtain ⟨sl, e⟩ := I.base.slot L o ho (I.ok.frf L hL) hL fun z => I.ok.exfs L z hL
   exact ⟨hk, ⟨L, _, hf, hn, e, hd⟩, ih (fun b hb => hs b (by unfold frs; rw [Zad, hf]; exact Zaf _ hb)) hr⟩
 exact all X.outer (fun _ hb => hb) I.ok.funs
theorem Inv.stack (I : Inv X pins σ H s) : s.heap.FunFrames X.base X.stack := by
 rcases I.ok.stk with e | ⟨e, hf⟩
 ·rw [e]; exact I.funs
 ·rw [e]
  obtain ⟨m, hn, _⟩ := I.loc
  refine .cons (by rw [I.ok.kind]; decide) hf hn ?_ I.funs
  exact Heap.get?_none_of_le (ZbH I.ok.bsz I.ok.above)
theorem Inv.stkSub (I : Inv X pins σ H s) : ∀ b ∈ frs X.stack, b ∈ X.env.locals :: X.fs := fun b hb => by
 rcases I.ok.stk with e | ⟨e, hf⟩
 ·rw [e] at hb; exact Zaf _ hb
 ·rw [e] at hb
  unfold frs at hb
  rw [Zad, hf] at hb
  exact hb
theorem Inv.stkFree (I : Inv X pins σ H s) : ∀ b ∈ frs X.stack, H b = none := fun b hb => by
 rcases Zag.mp (I.stkSub b hb) with e | hb
 ·rw [e]; exact I.free
 ·obtain ⟨_, o, ho, _⟩ := I.ok.funs.mem hb
  exact I.base.free b o ho (I.ok.frf b hb) fun z => I.ok.exfs b z hb
theorem Inv.step {g' : Array GenState} {t' : Nat} {d' : Drawn} {ch : List Addr} (I : Inv X pins σ H s)
  (hch : ∀ b ∈ ch, (b ∈ X.ex \/ X.s₀.heap.objs.size <= b) /\ b ≠ X.env.locals /\ (∀ x c, X.env.cells.lookup x = some c -> c ≠ b) /\ ∀ p ∈ X.pn ++ pins, p.1 ≠ b)
  (keep : ∀ b o, b ≠ X.env.locals -> b ∉ X.fs -> b ∉ ch -> s.heap.get? b = some o -> H b = none -> h'.get? b = some o)
  (slot : ∀ b o, b ≠ X.env.locals -> b ∈ X.fs -> b ∉ ch -> s.heap.get? b = some o -> H b = none -> ∃ sl, h'.get? b = some { o with slots := sl }) (free : ∀ b o, b ∉ ch -> s.heap.get? b = some o -> H b = none -> H' b = none)
  (there : ∀ b o, b ∉ ch -> s.heap.get? b = some o -> ∃ o', h'.get? b = some o')
  (tups : ∀ b xs, H b = some (.tup xs) -> H' b = some (.tup xs)) (frzs : ∀ b o u, H b = some (.frz o u) -> H' b = some (.frz o u)) (tbls : ∀ b ps, H b = some (.tbl ps) -> ∃ more, H' b = some (.tbl (ps ++ more)))
  (ns : ∀ m, s.heap.Ns X.env.locals m -> h'.Ns X.env.locals m) (hok : HOk X.prog X.w H' h') (hg : AllBare g') :
  Inv X pins σ H' { s with heap := h', gens := g', drawn := d', toks := t' } := by
 have neL : ∀ b o, X.s₀.heap.get? b = some o -> b ≠ X.env.locals := fun b o e => ZbG (ZbE (Zdk e) I.ok.above)
 have neC : ∀ b o, X.s₀.heap.get? b = some o -> b ∉ X.ex -> b ∉ ch := fun b o e hx hb => by
  rcases (hch b hb).1 with z | z
  ·exact hx z
  ·exact absurd (ZbE (Zdk e) z) (ZbF _)
 have cellK : ∀ x c, X.env.cells.lookup x = some c -> ∀ v, s.heap.IsCell c v -> h'.IsCell c v := fun x c e v ⟨o, ho, hd⟩ => by
  have nch : c ∉ ch := fun z => (hch c z).2.2.1 x c e rfl
  by_cases hc : c ∈ X.fs
  ·obtain ⟨sl, q⟩ := slot c o (I.cne x c e) hc nch ho (I.freeC x c e)
   exact ⟨_, q, hd⟩
  ·exact ⟨o, keep c o (I.cne x c e) hc nch ho (I.freeC x c e), hd⟩
 refine ⟨I.ok, I.os, hg, ⟨fun b o e n hb hx => ?_, fun b o e n hb hx => ?_, fun b o e n hx => ?_, fun b o e hx => ?_, fun b xs e => tups b xs (I.base.tups b xs e), fun b o xs e => frzs b o xs (I.base.frzs b o xs e), fun b ps e => ?_⟩, ?_, fun x c e => ?_, ?_, fun x c e => ?_, fun p hp => ?_, hok, I.len⟩
 ·exact keep b o (neL b o e) hb (neC b o e hx) (I.base.keep b o e n hb hx) (I.base.free b o e n hx)
 ·obtain ⟨sl, e1⟩ := I.base.slot b o e n hb hx
  obtain ⟨sl', e2⟩ := slot b _ (neL b o e) hb (neC b o e hx) e1 (I.base.free b o e n hx)
  exact ⟨sl', e2⟩
 ·obtain ⟨o', e1⟩ := I.base.there b o e hx
  exact free b o' (neC b o e hx) e1 (I.base.free b o e n hx)
 ·obtain ⟨o', e1⟩ := I.base.there b o e hx
  exact there b o' (neC b o e hx) e1
 ·obtain ⟨m1, e1⟩ := I.base.tbls b ps e
  obtain ⟨m2, e2⟩ := tbls b _ e1
  exact ⟨m1 ++ m2, by rw [e2, Array.append_assoc]⟩
 ·obtain ⟨m, hn, hl⟩ := I.loc
  refine ⟨m, ns m hn, fun i x v e1 e2 e3 => ?_⟩
  obtain ⟨u, r, l⟩ := hl i x v e1 e2 e3
  refine ⟨u, r, ?_⟩
  rcases l with l | ⟨k, c, e, z⟩
  ·exact .inl l
  ·exact .inr ⟨k, c, e, cellK x c e _ z⟩
 ·obtain ⟨v, z⟩ := I.cell x c e
  exact ⟨v, cellK x c e v z⟩
 ·obtain ⟨m, ⟨o, _, _, ho, _⟩, _⟩ := I.loc
  exact free _ o (fun z => (hch _ z).2.1 rfl) ho I.free
 ·obtain ⟨v, o, ho, hd⟩ := I.cell x c e
  exact free c o (fun z => (hch c z).2.2.1 x c e rfl) ho (I.freeC x c e)
 ·obtain ⟨e, n, ne, nf, d⟩ := I.pin p hp
  have nch : p.1 ∉ ch := fun z => (hch p.1 z).2.2.2 p hp rfl
  exact ⟨keep p.1 p.2 ne nf nch e n, free p.1 p.2 nch e n, ne, nf, d⟩
theorem Inv.un {t' : Nat} (I : Inv X pins σ H s) (u : Un X.fs [] H H' s.heap h') (hok : HOk X.prog X.w H' h') : Inv X pins σ H' { s with heap := h', toks := t' } := by
 obtain ⟨m, ⟨o, es, ep, ho, r⟩, _⟩ := id I.loc
 obtain ⟨sl, hL⟩ := u.any ho I.free (by simp)
 exact I.step (g' := s.gens) (d' := s.drawn) (ch := []) (fun _ z => nomatch z) (fun b o _ hb _ e n => u.keep b o e n hb (by simp)) (fun b o _ hb _ e n => u.slot b o e n hb (by simp)) (fun b o _ e n => u.free b o e n (by simp)) (fun b o _ e => u.there b o e (by simp)) u.tups u.frzs u.tbls (fun m' hm => by
  obtain ⟨o', es', ep', ho', r'⟩ := hm
  rw [ho] at ho'; cases ho'
  exact ⟨_, es', ep', hL, r'⟩) hok I.bare
theorem Inv.call {g' : Array GenState} {t' : Nat} {d' : Drawn} {ch : List Addr} (I : Inv X pins σ H s) (u : Un (frs X.stack) ch H H' s.heap h') (hok : HOk X.prog X.w H' h') (hg : AllBare g')
  (hch : ∀ b ∈ ch, (b ∈ X.ex \/ X.s₀.heap.objs.size <= b) /\ b ≠ X.env.locals /\ (∀ x c, X.env.cells.lookup x = some c -> c ≠ b) /\ ∀ p ∈ X.pn ++ pins, p.1 ≠ b) :
  Inv X pins σ H' { s with heap := h', gens := g', drawn := d', toks := t' } := by
 obtain ⟨m, ⟨o, es, ep, ho, r⟩, _⟩ := id I.loc
 obtain ⟨sl, hL⟩ := u.any ho I.free fun z => (hch _ z).2.1 rfl
 exact I.step (ch := ch) hch (fun b o hL hb hc e n => u.keep b o e n (fun z => (Zag.mp (I.stkSub b z)).elim hL hb) hc) (fun b o _ _ hc e n => u.any e n hc) (fun b o hc e n => u.free b o e n hc) (fun b o hc e => u.there b o e hc) u.tups u.frzs u.tbls (fun m' hm => by
  obtain ⟨o', es', ep', ho', r'⟩ := hm
  rw [ho] at ho'; cases ho'
  exact ⟨_, es', ep', hL, r'⟩) hok hg
theorem Inv.turned {t' : Nat} {it : Addr} (I : Inv X pins σ H s) (k : ∀ b o, b ≠ it -> s.heap.get? b = some o -> h'.get? b = some o) (hn : H it = none) (hL : it ≠ X.env.locals)
  (h1 : it ∈ X.ex \/ X.s₀.heap.objs.size <= it) (h2 : ∀ x c, X.env.cells.lookup x = some c -> c ≠ it) (h3 : ∀ p ∈ X.pn ++ pins, p.1 ≠ it) : Inv X pins σ H { s with heap := h', toks := t' } := by
 have nit : ∀ b u, H b = some u -> b ≠ it := fun b u e z => by rw [z, hn] at e; cases e
 refine I.step (g' := s.gens) (d' := s.drawn) (ch := [it]) (fun b hb => ?_) (fun b o _ _ hc e _ => k b o (fun z => hc (by simp [z])) e) (fun b o _ _ hc e _ => ⟨o.slots, k b o (fun z => hc (by simp [z])) e⟩) (fun _ _ _ _ n => n)
  (fun b o hc e => ⟨o, k b o (fun z => hc (by simp [z])) e⟩) (fun _ _ e => e) (fun _ _ _ e => e) (fun b ps e => ⟨#[], by rw [e]; simp⟩) (fun m hm => ?_) (fun b u e => ?_) I.bare
 ·have e : b = it := by simpa using hb
  subst e
  exact ⟨h1, hL, h2, h3⟩
 ·obtain ⟨o, es, ep, ho, r⟩ := hm
  exact ⟨o, es, ep, k _ o (Ne.symm hL) ho, r⟩
 ·refine (I.hok b u e).stay (fun c v hc q => k c v ?_ q) (fun _ q => q) fun _ _ q => q
  rcases hc with z | z
  ·rw [z]; exact nit b u e
  ·exact nit c _ z
theorem Inv.tok (I : Inv X pins σ H s) (t : Nat) : Inv X pins σ H { s with toks := t } := I.un (h' := s.heap) (t' := t) Un.refl I.hok
theorem Inv.kept {t' : Nat} (I : Inv X pins σ H s) (k : ∀ b u, s.heap.get? b = some u -> h'.get? b = some u) : Inv X pins σ H { s with heap := h', toks := t' } := I.un (Un.kept k) (I.hok.kept k)
theorem Inv.laid {a : Addr} {o : HO} {t' : Nat} (I : Inv X pins σ H s) (k : ∀ b u, s.heap.get? b = some u -> h'.get? b = some u) (hp : s.heap.objs.size <= a) (new : Ze4 X.prog X.w (upd H a o) h' a o) :
  Inv X pins σ (upd H a o) { s with heap := h', toks := t' } := I.un (Un.laid k hp (I.hok.fresh hp)) (I.hok.laid k hp new)
theorem Inv.write {x e : Addr} {o : HO} {t' : Nat} (I : Inv X pins σ H s) (mu : Mut (H x)) (he : e = x \/ H e = some (.own x)) (k : ∀ b u, b ≠ e -> s.heap.get? b = some u -> h'.get? b = some u) (heo : ∃ u, h'.get? e = some u)
  (new : Ze4 X.prog X.w (upd H x o) h' x o) : Inv X pins σ (upd H x o) { s with heap := h', toks := t' } := I.un (Un.write mu he k heo) (I.hok.write mu he k heo new)
theorem Inv.pins_of {pins' : List (Addr × Obj)} (I : Inv X pins σ H s) (h : ∀ p ∈ pins', s.heap.get? p.1 = some p.2 /\ H p.1 = none /\ p.1 ≠ X.env.locals /\ p.1 ∉ X.fs /\ ∀ v, p.2.data ≠ .cell v) : Inv X pins' σ H s :=
 ⟨I.ok, I.os, I.bare, I.base, I.loc, I.cell, I.free, I.freeC, fun p hp => (Zah.mp hp).elim (fun z => I.pin p (Zai _ z)) (h p), I.hok, I.len⟩
theorem Zky {N : List Str} (hN : N.Nodup) {i j : Nat} {x : Str} (a : N[i]? = some x) (b : N[j]? = some x) : i = j := by
 obtain ⟨h1, e1⟩ := Zaj.mp a
 obtain ⟨h2, e2⟩ := Zaj.mp b
 exact (List.getElem_inj hN).mp (e1.trans e2.symm)
theorem ZlR {M : Model} {A : Around} {E : Value -> Shared -> Prop} {i : Nat} {x : Str} {v : V} {u : Value} {Q : Unit -> Shared -> Prop} (I : Inv X pins σ H s) (hN : X.N.Nodup) (hi : X.N[i]? = some x) (hx : Loc X.env.scope x) (r : ZeL v u)
  (h : ∀ s', Inv X pins (σ.set i (some v)) H s' -> (∃ a, Heap.SameBut a s.heap s'.heap /\ (a = X.env.locals \/ X.env.cells.lookup x = some a)) -> Q () s') (hf : autoParam (X.fn x = true \/ X.env.scope.names.lookup x = some .local) L2.Internal.auL._auto_1) : wpAny M A (storeName X.env x u) Q E s := by
 obtain ⟨m, hn, hl⟩ := id I.loc
 have hcls : (X.env.scope.kind == .class || (X.env.scope.kind == .module && X.env.locals != X.env.globals)) = false := by rw [I.ok.kind]; rfl
 have hiσ : i < σ.length := by rw [I.len]; exact (Zaj.mp hi).1
 have cne := I.cne
 have tracked : ∀ {a : Addr} {h' : Heap}, (∃ o, s.heap.get? a = some o /\ H a = none) -> Heap.SameBut a s.heap h' -> HOk X.prog X.w H h' := fun {a h'} ha hs b ob e => by
  obtain ⟨_, _, hfree⟩ := ha
  refine (I.hok b ob e).stay (fun c w' hc q => (hs.2 c ?_).trans q) (fun _ q => q) fun _ _ q => q
  rintro rfl
  rcases hc with rfl | hc
  ·rw [hfree] at e; cases e
  ·rw [hfree] at hc; cases hc
 rcases hx with hk | hk
 ·refine wpAny_storeName_local hk hn (fun h' hn' hs => ?_) hcls
  obtain ⟨oL, _, _, hoL, _⟩ := id hn
  refine h _ ⟨I.ok, I.os, I.bare, ⟨fun b o e n hb hx => ?_, fun b o e n hb hx => ?_, I.base.free, fun b o e hx => ?_, I.base.tups, I.base.frzs, I.base.tbls⟩, ⟨_, hn', fun j y v' e1 e2 e3 => ?_⟩, fun y c e => ?_, I.free, I.freeC, fun p hp => ?_, tracked ⟨oL, hoL, I.free⟩ hs, by simpa using I.len⟩ ⟨_, hs, .inl rfl⟩
  ·exact (hs.2 b (ZbG (ZbE (Zdk e) I.ok.above))).trans (I.base.keep b o e n hb hx)
  ·obtain ⟨sl, e1⟩ := I.base.slot b o e n hb hx
   exact ⟨sl, (hs.2 b (ZbG (ZbE (Zdk e) I.ok.above))).trans e1⟩
  ·obtain ⟨o', e1⟩ := I.base.there b o e hx
   exact ⟨o', (hs.2 b (ZbG (ZbE (Zdk e) I.ok.above))).trans e1⟩
  ·by_cases hj : j = i
   ·subst hj
    rw [hi] at e1; cases e1
    rw [Zak hiσ] at e2
    cases e2
    exact ⟨u, r, .inl ⟨hk, by simp⟩⟩
   ·rw [Zal (Ne.symm hj)] at e2
    obtain ⟨u', r', q⟩ := hl j y v' e1 e2 e3
    refine ⟨u', r', ?_⟩
    rcases q with ⟨k, e⟩ | ⟨k, c, e, z⟩
    ·refine .inl ⟨k, ?_⟩
     have : y ≠ x := fun e => hj (Zky hN e1 (e ▸ hi))
     simp [this, e]
    ·exact .inr ⟨k, c, e, z.sameBut hs (cne y c e)⟩
  ·obtain ⟨w', z⟩ := I.cell y c e
   exact ⟨w', z.sameBut hs (cne y c e)⟩
  ·obtain ⟨e, n, ne, nf, d⟩ := I.pin p hp
   exact ⟨(hs.2 p.1 ne).trans e, n, ne, nf, d⟩
 ·have hfn : X.fn x = true := by
   rcases hf with z | z
   ·exact z
   ·rw [z] at hk; cases hk
  obtain ⟨c, hc⟩ := I.ok.has x (.inl hk)
  obtain ⟨w', z⟩ := I.cell x c hc
  refine wpAny_storeName_cell I.ok.kind hk hc z (fun h' hc' hs => ?_)
  obtain ⟨oc, hoc, hocd⟩ := id z
  refine h { s with heap := h' } ⟨I.ok, I.os, I.bare, ⟨fun b o e n hb hx => ?_, fun b o e n hb hx => ?_, I.base.free, fun b o e hx => ?_, I.base.tups, I.base.frzs, I.base.tbls⟩, ⟨m, hn.sameBut hs (Ne.symm (cne x c hc)), fun j y v' e1 e2 e3 => ?_⟩, fun y c' e => ?_, I.free, I.freeC, fun p hp => ?_, tracked ⟨oc, hoc, I.freeC x c hc⟩ hs, by simpa using I.len⟩ ⟨c, hs, .inr hc⟩
  ·exact (hs.2 b (ZbG (ZbE (Zdk e) (I.ok.cab x c hfn hc)))).trans (I.base.keep b o e n hb hx)
  ·obtain ⟨sl, e1⟩ := I.base.slot b o e n hb hx
   exact ⟨sl, (hs.2 b (ZbG (ZbE (Zdk e) (I.ok.cab x c hfn hc)))).trans e1⟩
  ·obtain ⟨o', e1⟩ := I.base.there b o e hx
   exact ⟨o', (hs.2 b (ZbG (ZbE (Zdk e) (I.ok.cab x c hfn hc)))).trans e1⟩
  ·by_cases hj : j = i
   ·subst hj
    rw [hi] at e1; cases e1
    rw [Zak hiσ] at e2
    cases e2
    exact ⟨u, r, .inr ⟨.inl hk, c, hc, hc'⟩⟩
   ·rw [Zal (Ne.symm hj)] at e2
    obtain ⟨u', r', q⟩ := hl j y v' e1 e2 e3
    refine ⟨u', r', ?_⟩
    rcases q with q | ⟨k, c', e, z'⟩
    ·exact .inl q
    ·refine .inr ⟨k, c', e, z'.sameBut hs ?_⟩
     rintro rfl
     exact hj (Zky hN e1 (I.ok.inj _ _ _ e hc ▸ hi))
  ·by_cases hcc : c' = c
   ·subst hcc; exact ⟨_, hc'⟩
   ·obtain ⟨w2, z2⟩ := I.cell y c' e
    exact ⟨w2, z2.sameBut hs hcc⟩
  ·obtain ⟨e, n, ne, nf, d⟩ := I.pin p hp
   refine ⟨(hs.2 p.1 ?_).trans e, n, ne, nf, d⟩
   intro q
   rw [q, hoc] at e
   have q' : oc = p.2 := Zce.inj e
   exact d w' (by rw [<- q']; exact hocd)
theorem Zgj {M : Model} {A : Around} {E : Value -> Shared -> Prop} {i : Nat} {x : Str} {v : V} {u : Value} {Q : Unit -> Shared -> Prop} (I : Inv X pins σ H s) (hN : X.N.Nodup) (hi : X.N[i]? = some x) (hx : Loc X.env.scope x) (r : ZeL v u)
  (h : ∀ s', Inv X pins (σ.set i (some v)) H s' -> Q () s') (hf : autoParam (X.fn x = true \/ X.env.scope.names.lookup x = some .local) L2.Internal.auL._auto_1) : wpAny M A (storeName X.env x u) Q E s :=
 ZlR I hN hi hx r (fun s' I' _ => h s' I') hf
theorem Inv.call' {s' : Shared} {ch : List Addr} (I : Inv X pins σ H s) (ho : s'.os = s.os) (u : Un (frs X.stack) ch H H' s.heap s'.heap) (hok : HOk X.prog X.w H' s'.heap) (hg : AllBare s'.gens)
  (hch : ∀ b ∈ ch, (b ∈ X.ex \/ X.s₀.heap.objs.size <= b) /\ b ≠ X.env.locals /\ (∀ x c, X.env.cells.lookup x = some c -> c ≠ b) /\ ∀ p ∈ X.pn ++ pins, p.1 ≠ b) : Inv X pins σ H' s' := by
 obtain ⟨h', g', d', t', o'⟩ := s'
 have e : o' = s.os := ho
 subst e
 exact I.call (g' := g') (t' := t') (d' := d') u hok hg hch
end
noncomputable abbrev XK := Value -> Option Addr -> Hp -> Prop
noncomputable abbrev St := List (Option V)
noncomputable abbrev VK := V -> Hp -> Prop
noncomputable abbrev TE := St -> Hp -> VK -> Prop
noncomputable abbrev TT := St -> Hp -> (Bool -> Hp -> Prop) -> Prop
noncomputable abbrev TA := St -> Hp -> (List V -> Hp -> Prop) -> Prop
structure Zj5 where
 nx : St -> Hp -> Prop
 rt : VK
 bk : St -> Hp -> Prop := fun _ _ => False
 ct : St -> Hp -> Prop := fun _ _ => False
noncomputable abbrev TS.Internal := Zj5 -> St -> Hp -> Prop
def EP (X : Cx) (pins : List (Addr × Obj)) (σ : St) (Q : VK) (u : Value) (s' : Shared) : Prop := ∃ v H', Inv X pins σ H' s' /\ ZeL v u /\ Q v H'
def TP (X : Cx) (pins : List (Addr × Obj)) (σ : St) (Q : Bool -> Hp -> Prop) (b : Bool) (s' : Shared) : Prop := ∃ H', Inv X pins σ H' s' /\ Q b H'
def AP (X : Cx) (pins : List (Addr × Obj)) (σ : St) (Q : List V -> Hp -> Prop) (us : List Value) (s' : Shared) : Prop := ∃ vs H', Inv X pins σ H' s' /\ Ze0 vs us /\ Q vs H'
def SP (X : Cx) (pins : List (Addr × Obj)) (D : Zj5) (f : Flow) (s' : Shared) : Prop :=
 match f with
 | .next => ∃ σ' H', Inv X pins σ' H' s' /\ D.nx σ' H'
 | .brk => ∃ σ' H', Inv X pins σ' H' s' /\ D.bk σ' H'
 | .cont => ∃ σ' H', Inv X pins σ' H' s' /\ D.ct σ' H'
 | .ret u => ∃ v σ' H', Inv X pins σ' H' s' /\ ZeL v u /\ D.rt v H'
def PE (X : Cx) (e : Expr) (t : TE) : Prop :=
 ∀ (pins : List (Addr × Obj)) (s : Shared) (σ : St) (H : Hp) (Q : VK), Inv X pins σ H s -> t σ H Q -> wpAny (model X.prog X.w) X.A (eval e X.env) (EP X pins σ Q) X.xe s
def PT (X : Cx) (e : Expr) (t : TT) : Prop :=
 ∀ (pins : List (Addr × Obj)) (s : Shared) (σ : St) (H : Hp) (Q : Bool -> Hp -> Prop), Inv X pins σ H s -> t σ H Q -> wpAny (model X.prog X.w) X.A (isTrue e X.env (eval e X.env)) (TP X pins σ Q) X.xe s
def PW (X : Cx) (e : Expr) (t : TT) : Prop :=
 ∀ (whole : Sem Value) (pins : List (Addr × Obj)) (s : Shared) (σ : St) (H : Hp) (Q : Bool -> Hp -> Prop), Inv X pins σ H s -> t σ H Q -> wpAny (model X.prog X.w) X.A (isTrue e X.env whole) (TP X pins σ Q) X.xe s
theorem PW.pt {X : Cx} {e : Expr} {t : TT} (h : PW X e t) : PT X e t := h _
def PA (X : Cx) (es : List Expr) (t : TA) : Prop :=
 ∀ (pos : Pos) (pins : List (Addr × Obj)) (s : Shared) (σ : St) (H : Hp) (Q : List V -> Hp -> Prop), Inv X pins σ H s -> t σ H Q -> wpAny (model X.prog X.w) X.A (spliced (backTo pos (starEach es X.env))) (AP X pins σ Q) X.xe s
def PS (X : Cx) (st : Stmt) (t : TS.Internal) : Prop :=
 ∀ (pins : List (Addr × Obj)) (s : Shared) (σ : St) (H : Hp) (D : Zj5), Inv X pins σ H s -> t D σ H -> wpAny (model X.prog X.w) X.A (exec st X.env) (SP X pins D) X.xe s
def PSs (X : Cx) (st : List Stmt) (t : TS.Internal) : Prop :=
 ∀ (pins : List (Addr × Obj)) (s : Shared) (σ : St) (H : Hp) (D : Zj5), Inv X pins σ H s -> t D σ H -> wpAny (model X.prog X.w) X.A (execs st X.env) (SP X pins D) X.xe s
theorem thn {α : Type} {t : Sem α} {Q Q' : α -> Shared -> Prop} {M : Model} {A : Around} {E : Value -> Shared -> Prop} {s : Shared} (h : wpAny M A t Q E s) (hQ : ∀ a s, Q a s -> Q' a s) : wpAny M A t Q' E s := wpAny_mono h hQ fun _ _ x => x
end L2.Internal
namespace L2.Internal
open PySem PySem.Spec PyProof.Rows
section
variable {X : Cx}
def ZrN (i : Nat) : TE := fun σ H Q => ∃ v, σ[i]? = some (some v) /\ Q v H
def tC (v : V) : TE := fun _ H Q => Q v H
theorem ZpP {i : Nat} {x : Str} {pos : Pos} (hN : X.N[i]? = some x) (hv : Vis X.env.scope x) (hd : autoParam ((x == ("__debug__" : Str)) = false) L2.Internal.auD._auto_1) (hcd : autoParam ((x == ("__classdict__" : Str)) = false) L2.Internal.auD._auto_1) : PE X (.Name x pos) (ZrN i) := by
 intro pins s σ H Q I h
 obtain ⟨v, e, h⟩ := h
 obtain ⟨m, hn, hl⟩ := I.loc
 obtain ⟨u, r, l⟩ := hl i x v hN e hv
 have fin : EP X pins σ Q u s := ⟨v, H, I, r, h⟩
 rcases l with ⟨hk, hm⟩ | ⟨hk, c, hc, hcell⟩
 ·exact wpAny_Name (wpAny_loadName_local I.ok.kind hk hn hm fin) hd
 ·rcases hk with hk | hk
  ·exact wpAny_Name (wpAny_loadName_cell I.ok.kind hk hc hcell fin) hd
  ·exact wpAny_Name (wpAny_loadName_free I.ok.kind hk hc hcell fin hcd) hd
theorem Zdv {i j pos} : PE X (.Constant (.int i) j pos) (tC (.int i)) := fun _ _ _ H _ I h => wpAny_Constant_int ⟨.int i, H, I.tok _, ⟨_, rfl⟩, h⟩
theorem Zgo {b j pos} : PE X (.Constant (.bool b) j pos) (tC (.bl b)) := fun _ _ _ H _ I h => Constant_bool ⟨.bl b, H, I, rfl, h⟩
theorem Zgs {j pos} : PE X (.Constant .none j pos) (tC .non) := fun _ _ _ H _ I h => Constant_none ⟨.non, H, I, rfl, h⟩
theorem ZdZ {x j pos} : PE X (.Constant (.str x) j pos) (tC (.str x)) := fun _ _ _ H _ I h => Calls.Constant_str ⟨.str x, H, I.tok _, ⟨_, rfl⟩, h⟩
def Gl (X : Cx) (x : Str) : Prop := X.env.kindOf x = some .globalImplicit
theorem Zil {E : Value -> Shared -> Prop} {pins : List (Addr × Obj)} {s : Shared} {σ : St} {H : Hp} {x : Str} {u : Value} {pos : Pos} {Q : Value -> Shared -> Prop} (I : Inv X pins σ H s) (hg : Gl X x) (hm : X.mg x = some u) (h : Q u s)
  (hd : autoParam ((x == ("__debug__" : Str)) = false) L2.Internal.auD._auto_1) : wpAny (model X.prog X.w) X.A (eval (.Name x pos) X.env) Q E s :=
 Calls.Name_function_global I.ok.kind hg (Calls.loadGlobal_global (by rw [I.ok.glob]; exact I.mod.glob.keeps I.bk) hm h) hd
theorem Zjf {E : Value -> Shared -> Prop} {pins : List (Addr × Obj)} {s : Shared} {σ : St} {H : Hp} {x : Str} {u : Value} {pos : Pos} {Q : Value -> Shared -> Prop} (I : Inv X pins σ H s) (hg : Gl X x) (hm : X.mg x = none) (hv : bootBuiltins x = some u) (h : Q u s)
  (hn : autoParam (x ≠ "__name__") L2.Internal.auD._auto_1) (hd : autoParam ((x == ("__debug__" : Str)) = false) L2.Internal.auD._auto_1) : wpAny (model X.prog X.w) X.A (eval (.Name x pos) X.env) Q E s := by
 obtain ⟨mb, h1, h2⟩ := I.mod.blt
 exact Calls.Name_function_global I.ok.kind hg (Calls.loadGlobal_builtin (by rw [I.ok.glob]; exact I.mod.glob.keeps I.bk) hm (by rw [I.ok.blt]; exact h1.keeps I.bk) ((h2 x hn).trans hv) h) hd
theorem ZoA {x : Str} {v : V} {u : Value} {pos : Pos} (hg : Gl X x) (hm : X.mg x = some u) (r : ZeL v u) (hd : autoParam ((x == ("__debug__" : Str)) = false) L2.Internal.auD._auto_1) : PE X (.Name x pos) (tC v) :=
 fun _ _ _ H _ I h => Zil I hg hm ⟨v, H, I, r, h⟩ hd
theorem ZoB {x : Str} {v : V} {u : Value} {pos : Pos} (hg : Gl X x) (hm : X.mg x = none) (hv : bootBuiltins x = some u) (r : ZeL v u) (hn : autoParam (x ≠ "__name__") L2.Internal.auD._auto_1) (hd : autoParam ((x == ("__debug__" : Str)) = false) L2.Internal.auD._auto_1) : PE X (.Name x pos) (tC v) :=
 fun _ _ _ H _ I h => Zjf I hg hm hv ⟨v, H, I, r, h⟩ hn hd
variable {a b : Expr} {ta tb : TE} {pos : Pos}
def PC (X : Cx) (op : CmpOp) (a b : Expr) (t : TE) : Prop :=
 ∀ (pins : List (Addr × Obj)) (s : Shared) (σ : St) (H : Hp) (Q : VK), Inv X pins σ H s -> t σ H Q ->
  wpAny (model X.prog X.w) X.A (eval a X.env) (fun v s₁ => wpAny (model X.prog X.w) X.A (eval b X.env) (fun u s₂ => wpAny (model X.prog X.w) X.A (compareOp op v u) (EP X pins σ Q) X.xe s₂) X.xe s₁) X.xe s
theorem Znm (b : Expr) {op : CmpOp} (h : op ≠ .In) (h2 : op ≠ .NotIn) : behindInMarks op b = false := by
 have e1 : (op == CmpOp.In) = false := by cases op <;> first | rfl | exact absurd rfl h
 have e2 : (op == CmpOp.NotIn) = false := by cases op <;> first | rfl | exact absurd rfl h2
 cases b <;> simp [behindInMarks, e1, e2]
def tIsN (ta : TE) : TE := fun σ H Q => ta σ H fun x H1 => Q (.bl (decide (x = .non))) H1
def ZqY (ta : TE) : TE := fun σ H Q => ta σ H fun x H1 => Q (.bl (!decide (x = .non))) H1
theorem ZeL.none_iff {x : V} {v : Value} (r : ZeL x v) : (v == Value.none) = decide (x = .non) := by
 cases x with
 | non => cases r; rfl
 | bl _ => cases r; rfl
 | int _ => obtain ⟨t, rfl⟩ := r; rfl
 | str _ => obtain ⟨t, rfl⟩ := r; rfl
 | byt _ => obtain ⟨t, rfl⟩ := r; rfl
 | flt _ => obtain ⟨t, rfl⟩ := r; rfl
 | ref _ => cases r; rfl
 | ty _ => cases r; rfl
theorem ZpQ {j pos'} (ha : PE X a ta) : PC X .Is a (.Constant .none j pos') (tIsN ta) := by
 intro pins s σ H Q I h
 refine thn (ha pins s σ H _ I h) fun v s1 ⟨x, H1, I1, r1, q1⟩ => ?_
 exact Constant_none (is_none_gen ⟨.bl _, H1, I1, by rw [r1.none_iff]; rfl, q1⟩)
theorem ZoC {j pos'} (ha : PE X a ta) : PC X .IsNot a (.Constant .none j pos') (ZqY ta) := by
 intro pins s σ H Q I h
 refine thn (ha pins s σ H _ I h) fun v s1 ⟨x, H1, I1, r1, q1⟩ => ?_
 exact Constant_none (isnot_none_gen ⟨.bl _, H1, I1, by rw [r1.none_iff]; rfl, q1⟩)
def tB (t : TE) : TT := fun σ H Q => t σ H fun x H1 => ∃ c, x = .bl c /\ Q c H1
theorem Zjg {op : CmpOp} {t : TE} (h : PC X op a b t) (h1 : behindInMarks op b = false := by first | exact Znm _ (by decide) (by decide) | rfl) : PT X (.Compare a [op] [b] pos) (tB t) := by
 intro pins s σ H Q I hw
 refine wpAny_isTrue_Compare1 (thn (h pins s σ H _ I hw) fun v s1 h1 => thn h1 fun u s2 h2 => thn h2 fun c s3 ⟨x, H1, I1, r1, q1⟩ => ?_) h1
 obtain ⟨d, rfl, q⟩ := q1
 cases r1
 exact wpAny_truthy_bool ⟨H1, I1, q⟩
theorem ZfZ {e : Expr} {t : TE} (h : PE X e t) (he : autoParam (∀ whole, isTrue e X.env whole = (do let v <- whole; standAt e.pos; holding [v] (truthy v))) L2.Internal.auI._auto_1) : PT X e (tB t) := by
 intro pins s σ H Q I hw
 refine isTrue_plain (thn (h pins s σ H _ I hw) fun v s1 ⟨x, H1, I1, r1, q1⟩ => ?_) (he _)
 obtain ⟨d, rfl, q⟩ := q1
 cases r1
 exact wpAny_truthy_bool ⟨H1, I1, q⟩
variable {tA tB' : TT} {rest : List Expr}
def tAnd (t u : TT) : TT := fun σ H Q => t σ H fun c H1 => if c = true then u σ H1 Q else Q false H1
def tOr (t u : TT) : TT := fun σ H Q => t σ H fun c H1 => if c = true then Q true H1 else u σ H1 Q
def tNot (t : TT) : TT := fun σ H Q => t σ H fun c H1 => Q (!c) H1
theorem Zim (ha : PT X a tA) : PW X (.BoolOp .And [a] pos) tA := by
 intro wh pins s σ H Q I h
 refine isTrue_and (thn (ha pins s σ H Q I h) fun c s1 e => ?_)
 cases c with
 | true => exact isTrue_and_nil e
 | false => exact e
theorem Zh7 (ha : PT X a tA) : PW X (.BoolOp .Or [a] pos) tA := by
 intro wh pins s σ H Q I h
 refine isTrue_or (thn (ha pins s σ H Q I h) fun c s1 e => ?_)
 cases c with
 | false => exact isTrue_or_nil e
 | true => exact e
theorem Zkz (ha : PT X a tA) (hb : PW X (.BoolOp .And (b :: rest) pos) tB') : PW X (.BoolOp .And (a :: b :: rest) pos) (tAnd tA tB') := by
 intro wh pins s σ H Q I h
 refine isTrue_and (thn (ha pins s σ H _ I h) fun c s1 ⟨H1, I1, q1⟩ => ?_)
 cases c with
 | true => exact hb wh pins s1 σ H1 Q I1 q1
 | false => exact ⟨H1, I1, q1⟩
theorem Zjh (ha : PT X a tA) (hb : PW X (.BoolOp .Or (b :: rest) pos) tB') : PW X (.BoolOp .Or (a :: b :: rest) pos) (tOr tA tB') := by
 intro wh pins s σ H Q I h
 refine isTrue_or (thn (ha pins s σ H _ I h) fun c s1 ⟨H1, I1, q1⟩ => ?_)
 cases c with
 | true => exact ⟨H1, I1, q1⟩
 | false => exact hb wh pins s1 σ H1 Q I1 q1
theorem Zf0 (ha : PT X a tA) : PT X (.UnaryOp .Not a pos) (tNot tA) := by
 intro pins s σ H Q I h
 exact isTrue_not (ha pins s σ H (fun c H1 => Q (!c) H1) I h)
def ZqZ (ta tb : TE) : TE := fun σ H Q => ta σ H fun x H1 => ∃ c, x = .bl c /\ if c = true then tb σ H1 Q else Q (.bl false) H1
def Zq0 (ta : TE) : TE := fun σ H Q => ta σ H fun x H1 => ∃ c, x = .bl c /\ Q (.bl (!c)) H1
theorem Zn2 {op} {t : TE} (h : PE X a t) : PE X (.BoolOp op [a] pos) t := fun pins s σ H Q I hw => BoolOp_one (h pins s σ H Q I hw)
theorem ZkA (ha : PE X a ta) (hb : PE X (.BoolOp .And (b :: rest) pos) tb) : PE X (.BoolOp .And (a :: b :: rest) pos) (ZqZ ta tb) := by
 intro pins s σ H Q I h
 refine BoolOp_and (thn (ha pins s σ H _ I h) fun v s1 ⟨x, H1, I1, r1, q1⟩ => ?_)
 obtain ⟨c, rfl, q1⟩ := q1
 cases r1
 refine wpAny_truthy_bool ?_
 cases c with
 | true => exact hb pins s1 σ H1 Q I1 q1
 | false => exact ⟨.bl false, H1, I1, rfl, q1⟩
theorem ZpR (ha : PE X a ta) : PE X (.UnaryOp .Not a pos) (Zq0 ta) := by
 intro pins s σ H Q I h
 refine UnaryOp_ (thn (ha pins s σ H _ I h) fun v s1 ⟨x, H1, I1, r1, q1⟩ => ?_)
 obtain ⟨c, rfl, q1⟩ := q1
 cases r1
 exact not_of (wpAny_truthy_bool ⟨.bl (!c), H1, I1, rfl, q1⟩)
end
end L2.Internal
namespace L2.Internal
open PySem PySem.Spec PyProof.Rows
def SqL (K : PySem.W.Frag) (H : Hp) (a : Addr) (xs : List V) : Prop :=
 Rd H a (.lst xs) \/
  ∃ (o : Obj) (its : Array Value) (n : Nat), K.lookup a = some o /\ o.cls = .type "list" /\ o.dict = none /\ o.data = .seq its n /\ its.size <= sizeLine /\ Ze0 xs its.toList
def SqT (K : PySem.W.Frag) (H : Hp) (a : Addr) (xs : List V) : Prop :=
 Rd H a (.tup xs) \/
  ∃ (o : Obj) (its : Array Value) (n : Nat), K.lookup a = some o /\ o.cls = .type "tuple" /\ o.data = .seq its n /\ its.size <= sizeLine /\ Ze0 xs its.toList
noncomputable def absV : Value -> Option V
 | .none => some .non
 | .bool b => some (.bl b)
 | .int i _ => some (.int i)
 | .str x _ => some (.str x)
 | .bytes b _ => some (.byt b)
 | .float b _ => some (.flt b)
 | .ref a => some (.ref a)
 | .type n => some (.ty n)
 | _ => none
theorem ZeL.abs {x : V} {u : Value} (r : ZeL x u) : absV u = some x := by
 cases x with
 | non => cases r; rfl
 | bl _ => cases r; rfl
 | int _ => obtain ⟨t, rfl⟩ := r; rfl
 | str _ => obtain ⟨t, rfl⟩ := r; rfl
 | byt _ => obtain ⟨t, rfl⟩ := r; rfl
 | flt _ => obtain ⟨t, rfl⟩ := r; rfl
 | ref _ => cases r; rfl
 | ty _ => cases r; rfl
theorem ZeL.inj {x y : V} {u : Value} (r : ZeL x u) (q : ZeL y u) : x = y := Zce.inj (r.abs.symm.trans q.abs)
theorem Ze0.inj : ∀ {xs ys : List V} {us : List Value}, Ze0 xs us -> Ze0 ys us -> xs = ys
 | _, _, _, .nil, .nil => rfl
 | _, _, _, .cons r t, .cons r' t' => by rw [r.inj r', Ze0.inj t t']
section
variable {X : Cx} {pins : List (Addr × Obj)} {σ : St} {H : Hp} {s : Shared} {a : Addr} {xs ys : List V}
theorem SqL.of {K : PySem.W.Frag} (h : H a = some (.lst xs)) : SqL K H a xs := .inl (.inl h)
theorem SqT.of {K : PySem.W.Frag} (h : H a = some (.tup xs)) : SqT K H a xs := .inl (.inl h)
theorem Inv.list (I : Inv X pins σ H s) (h : SqL X.K H a xs) : ∃ its : List Value, Ze0 xs its /\ PlainL s.heap a its.toArray /\ xs.length <= sizeLine := by
 rcases h with h | ⟨o, its, n, hk, hc, hd, hs, hz, r⟩
 ·obtain ⟨z, its, n, r, e⟩ := h.ok I.hok
  exact ⟨its, r, ⟨_, n, e, rfl, rfl, rfl⟩, z⟩
 ·refine ⟨its.toList, r, ⟨o, n, I.kIn a o hk, hc, hd, by simpa using hs⟩, ?_⟩
  have e := r.length
  simp only [Zc2] at e
  omega
theorem Inv.tuple (I : Inv X pins σ H s) (h : SqT X.K H a xs) : ∃ its : List Value, Ze0 xs its /\ IsTup s.heap a its.toArray /\ xs.length <= sizeLine := by
 rcases h with h | ⟨o, its, n, hk, hc, hs, hz, r⟩
 ·obtain ⟨z, its, r, p⟩ := h.ok I.hok
  exact ⟨its, r, p.tup, z⟩
 ·refine ⟨its.toList, r, ⟨o, I.kIn a o hk, hc, n, by simpa using hs⟩, ?_⟩
  have e := r.length
  simp only [Zc2] at e
  omega
theorem Inv.list_inj (I : Inv X pins σ H s) (h : SqL X.K H a xs) (h' : SqL X.K H a ys) : xs = ys := by
 obtain ⟨its, r, ⟨o, n, e, _, _, d⟩, _⟩ := I.list h
 obtain ⟨its', r', ⟨o', n', e', _, _, d'⟩, _⟩ := I.list h'
 rw [e] at e'; cases e'
 rw [d] at d'
 injection d' with d1 _
 have : its = its' := by simpa using congrArg Array.toList d1
 subst this
 exact r.inj r'
theorem Inv.tuple_inj (I : Inv X pins σ H s) (h : SqT X.K H a xs) (h' : SqT X.K H a ys) : xs = ys := by
 obtain ⟨its, r, ⟨o, e, _, n, d⟩, _⟩ := I.tuple h
 obtain ⟨its', r', ⟨o', e', _, n', d'⟩, _⟩ := I.tuple h'
 rw [e] at e'; cases e'
 rw [d] at d'
 injection d' with d1 _
 have : its = its' := by simpa using congrArg Array.toList d1
 subst this
 exact r.inj r'
end
noncomputable abbrev Cx.wish (X : Cx) (E : Value -> Shared -> Prop) : Cx := { X with xe := E }
noncomputable abbrev Cx.nox (X : Cx) : Cx := X.wish fun _ _ => False
theorem Cx.Ok.wish {X : Cx} (ok : X.Ok) (E : Value -> Shared -> Prop) : (X.wish E).Ok :=
 ⟨ok.mod, ok.kind, ok.glob, ok.blt, ok.above, ok.inj, ok.has, ok.cab, ok.hd, ok.frames, ok.stk, ok.exf, ok.bs, ok.bsz, ok.noex, ok.exfs, ok.funs, ok.frf⟩
theorem Cx.Ok.unwish {X : Cx} {E : Value -> Shared -> Prop} (ok : (X.wish E).Ok) : X.Ok :=
 ⟨ok.mod, ok.kind, ok.glob, ok.blt, ok.above, ok.inj, ok.has, ok.cab, ok.hd, ok.frames, ok.stk, ok.exf, ok.bs, ok.bsz, ok.noex, ok.exfs, ok.funs, ok.frf⟩
section
variable {X : Cx} {pins : List (Addr × Obj)} {σ : St} {H : Hp} {s : Shared} {E : Value -> Shared -> Prop}
theorem Inv.wish (I : Inv X pins σ H s) (E : Value -> Shared -> Prop) : Inv (X.wish E) pins σ H s := ⟨I.ok.wish E, I.os, I.bare, I.base, I.loc, I.cell, I.free, I.freeC, I.pin, I.hok, I.len⟩
theorem Inv.unwish (I : Inv (X.wish E) pins σ H s) : Inv X pins σ H s := ⟨I.ok.unwish, I.os, I.bare, I.base, I.loc, I.cell, I.free, I.freeC, I.pin, I.hok, I.len⟩
theorem SP.unwish {D : Zj5} {f : Flow} {s' : Shared} (h : SP (X.wish E) pins D f s') : SP X pins D f s' := by
 cases f with
 | next => obtain ⟨σ', H', I, q⟩ := h; exact ⟨σ', H', I.unwish, q⟩
 | brk => obtain ⟨σ', H', I, q⟩ := h; exact ⟨σ', H', I.unwish, q⟩
 | cont => obtain ⟨σ', H', I, q⟩ := h; exact ⟨σ', H', I.unwish, q⟩
 | ret u => obtain ⟨v, σ', H', I, r, q⟩ := h; exact ⟨v, σ', H', I.unwish, r, q⟩
theorem PSs.nox {st : List Stmt} {t : TS.Internal} (h : PSs X.nox st t) : PSs X st t := fun pins s σ H D I hw =>
 wpAny_mono (h pins s σ H D (I.wish _) hw) (fun _ _ q => q.unwish) fun _ _ z => False.elim z
end
section
variable {X : Cx} {st : Stmt} {rest : List Stmt} {t u : TS.Internal} {e : Expr} {te : TE} {pos : Pos}
noncomputable def Zf3 : TS.Internal := fun D σ H => D.nx σ H
noncomputable def ZkB (t u : TS.Internal) : TS.Internal := fun D σ H => t { D with nx := u D } σ H
theorem ZdS : PSs X [] Zf3 := fun _ _ σ H _ I h => wpAny_execs_nil ⟨σ, H, I, h⟩
theorem Zdw (h1 : PS X st t) (h2 : PSs X rest u) : PSs X (st :: rest) (ZkB t u) := by
 intro pins s σ H D I h
 refine wpAny_execs_cons (thn (h1 pins s σ H { D with nx := u D } I h) fun f s1 q => ?_)
 cases f with
 | next =>
  obtain ⟨σ', H', I', q⟩ := q
  exact h2 pins s1 σ' H' D I' q
 | ret v => exact q
 | brk => exact q
 | cont => exact q
theorem ZdB (h1 : PS X st t) : PSs X [st] t := by
 intro pins s σ H D I h
 refine wpAny_execs_cons (thn (h1 pins s σ H D I h) fun f s1 q => ?_)
 cases f with
 | next => exact wpAny_execs_nil q
 | ret v => exact q
 | brk => exact q
 | cont => exact q
theorem Inv.quiet {pins : List (Addr × Obj)} {σ : St} {H : Hp} {s : Shared} (I : Inv X pins σ H s) : interactive X.env = false := by simp [interactive, I.ok.kind]
noncomputable def Zq1 (te : TE) : TS.Internal := fun D σ H => te σ H fun _ H1 => D.nx σ H1
theorem ZdT (he : PE X e te) (hs : autoParam (swapsWith e none pos.line X.env = pure false) L2.Internal.auR._auto_1) : PS X (.Expr e pos) (Zq1 te) := by
 intro pins s σ H D I h
 exact wpAny_Expr_any (thn (he pins s σ H _ I h) fun v s1 ⟨x, H1, I1, r1, q1⟩ => ⟨σ, H1, I1, q1⟩) I.quiet hs
noncomputable def ZrO (te : TE) : TS.Internal := fun D σ H => te σ H D.rt
theorem ZdO (he : PE X e te) : PS X (.Return (some e) pos) (ZrO te) := by
 intro pins s σ H D I h
 exact wpAny_Return_some (thn (he pins s σ H _ I h) fun v s1 ⟨x, H1, I1, r1, q1⟩ => ⟨x, σ, H1, I1, r1, q1⟩)
noncomputable def ZlK (c : TT) (t u : TS.Internal) : TS.Internal := fun D σ H => c σ H fun b H1 => if b = true then t D σ H1 else u D σ H1
theorem Zez {c : Expr} {a b : List Stmt} {tc : TT} (hc : PT X c tc) (ha : PSs X a t) (hb : PSs X b u) : PS X (.If c a b pos) (ZlK tc t u) := by
 intro pins s σ H D I h
 refine wpAny_If (thn (hc pins s σ H _ I h) fun d s1 ⟨H1, I1, q1⟩ => ?_)
 cases d with
 | true => exact ha pins s1 σ H1 D I1 q1
 | false => exact hb pins s1 σ H1 D I1 q1
end
noncomputable abbrev TG := V -> St -> Hp -> (St -> Hp -> Prop) -> Prop
noncomputable abbrev TGs := List V -> St -> Hp -> (St -> Hp -> Prop) -> Prop
def PG (X : Cx) (target : Expr) (t : TG) : Prop :=
 ∀ (pins : List (Addr × Obj)) (s : Shared) (σ : St) (H : Hp) (v : V) (u : Value) (Q : St -> Hp -> Prop), Inv X pins σ H s -> ZeL v u -> t v σ H Q ->
  wpAny (model X.prog X.w) X.A (assign target X.env u) (fun _ s' => ∃ σ' H', Inv X pins σ' H' s' /\ Q σ' H') X.xe s
def PGs (X : Cx) (ts : List Expr) (t : TGs) : Prop :=
 ∀ (pins : List (Addr × Obj)) (s : Shared) (σ : St) (H : Hp) (vs : List V) (us : List Value) (Q : St -> Hp -> Prop), Inv X pins σ H s -> Ze0 vs us -> t vs σ H Q ->
  wpAny (model X.prog X.w) X.A (assignInOrder ((assignEach ts X.env).map (·.2)) us) (fun _ s' => ∃ σ' H', Inv X pins σ' H' s' /\ Q σ' H') X.xe s
noncomputable abbrev TIp := V -> V -> Hp -> VK -> Prop
def PIp (X : Cx) (op : Operator) (t : TIp) : Prop :=
 ∀ (pins : List (Addr × Obj)) (s : Shared) (σ : St) (H : Hp) (x y : V) (v u : Value) (Q : VK), Inv X pins σ H s -> ZeL x v -> ZeL y u -> t x y H Q ->
  wpAny (model X.prog X.w) X.A (inplaceOp op v u) (EP X pins σ Q) X.xe s
section
variable {X : Cx} {pos : Pos}
def Ze9 (i : Nat) : TG := fun v σ H Q => Q (σ.set i (some v)) H
theorem Zeb {i : Nat} {x : Str} (hN : X.N.Nodup) (hi : X.N[i]? = some x) (hx : Loc X.env.scope x) (hf : autoParam (X.fn x = true \/ X.env.scope.names.lookup x = some .local) L2.Internal.auL._auto_1) : PG X (.Name x pos) (Ze9 i) := by
 intro pins s σ H v u Q I r h
 exact wpAny_assign_Name (Zgj I hN hi hx r (fun s' I' => ⟨_, H, I', h⟩) hf)
def gNil : TGs := fun vs σ H Q => vs = [] /\ Q σ H
def Zq2 (t : TG) (u : TGs) : TGs := fun vs σ H Q => ∃ v r, vs = v :: r /\ t v σ H fun σ' H' => u r σ' H' Q
theorem Zj6 : PGs X [] gNil := by
 intro pins s σ H vs us Q I r h
 obtain ⟨e, h⟩ := h
 subst e
 cases r
 exact assignInOrder_nil ⟨σ, H, I, h⟩
theorem Zgk {e : Expr} {es : List Expr} {t : TG} {u : TGs} (h1 : PG X e t) (h2 : PGs X es u)
  (hs : autoParam ((assignEach (e :: es) X.env).map (·.2) = assign e X.env :: (assignEach es X.env).map (·.2)) L2.Internal.auR._auto_1) : PGs X (e :: es) (Zq2 t u) := by
 intro pins s σ H vs us Q I r h
 obtain ⟨v, vr, e1, h⟩ := h
 subst e1
 cases r with
 | cons r rr =>
  rw [hs]
  refine assignInOrder_cons (thn (h1 pins s σ H _ _ _ I r h) fun _ s1 ⟨σ1, H1, I1, q1⟩ => ?_)
  exact h2 pins s1 σ1 H1 _ _ Q I1 rr q1
def gTup (K : PySem.W.Frag) (n : Nat) (t : TGs) : TG := fun v σ H Q => ∃ a xs, v = .ref a /\ SqT K H a xs /\ xs.length = n /\ t xs σ H Q
theorem ZlS {es : List Expr} {k : Nat} {t : TGs} {n : Nat} (hc : X.calm = true) (h : PGs X es t)
  (hn : autoParam ((assignEach es X.env).length = n) L2.Internal.auR._auto_1) (hst : autoParam ((assignEach es X.env).findIdx? (·.1) = none) L2.Internal.auR._auto_1) : PG X (.Tuple es k pos) (gTup X.K n t) := by
 intro pins s σ H v u Q I r hw
 obtain ⟨a, xs, e1, hq, hl, hw⟩ := hw
 subst e1
 cases r
 obtain ⟨its, rv, ht, hz⟩ := I.tuple hq
 refine assign_Tuple_tuple (I.ok.hd hc) ht (by simp [hn, <- hl, rv.length]) hst fun h' hx => ?_
 have I1 : Inv X pins σ H { s with heap := h' } := I.kept (t' := s.toks) fun b o e => hx b o (ZbG (Zdk e)) e
 exact h pins _ σ H xs _ Q I1 (by simpa using rv) hw
noncomputable def Zq3 (te : TE) (g : TG) : TS.Internal := fun D σ H => te σ H fun x H1 => g x σ H1 D.nx
theorem Zd1 {i : Nat} {x : Str} {e : Expr} {te : TE} {pos' : Pos} (hN : X.N.Nodup) (hi : X.N[i]? = some x) (hx : Loc X.env.scope x) (he : PE X e te) (hs : autoParam (swapsWith e (some (.Name x pos')) pos.line X.env = pure false) L2.Internal.auR._auto_1) (hf : autoParam (X.fn x = true \/ X.env.scope.names.lookup x = some .local) L2.Internal.auL._auto_1) :
  PS X (.Assign [.Name x pos'] e pos) (Zq3 te (Ze9 i)) := by
 intro pins s σ H D I h
 refine wpAny_Assign_Name (thn (he pins s σ H _ I h) fun v s1 ⟨y, H1, I1, r1, q1⟩ => ?_) hs
 exact Zgj I1 hN hi hx r1 (fun s2 I2 => ⟨_, H1, I2, q1⟩) hf
noncomputable def tAug (i : Nat) (te : TE) (ti : TIp) : TS.Internal := fun D σ H => ∃ x, σ[i]? = some (some x) /\ te σ H fun y H1 => ti x y H1 fun z H2 => D.nx (σ.set i (some z)) H2
theorem ZpS {i : Nat} {x : Str} {e : Expr} {te : TE} {op : Operator} {ti : TIp} {pos' : Pos} (hN : X.N.Nodup) (hi : X.N[i]? = some x) (hx : Loc X.env.scope x) (he : PE X e te) (ho : PIp X op ti) (hf : autoParam (X.fn x = true \/ X.env.scope.names.lookup x = some .local) L2.Internal.auL._auto_1) :
  PS X (.AugAssign (.Name x pos') op e pos) (tAug i te ti) := by
 intro pins s σ H D I h
 obtain ⟨v, e1, h⟩ := h
 obtain ⟨m, hn, hl⟩ := I.loc
 have vis : Vis X.env.scope x := by rcases hx with k | k; exact .inl k; exact .inr (.inl k)
 obtain ⟨u, r, l⟩ := hl i x v hi e1 vis
 refine wpAny_AugAssign_Name ?_
 have go : wpAny (model X.prog X.w) X.A (eval e X.env) (fun w s₂ => wpAny (model X.prog X.w) X.A (inplaceOp op u w) (fun r s₃ => wpAny (model X.prog X.w) X.A (storeName X.env x r) (fun _ => SP X pins D .next) X.xe s₃) X.xe s₂) X.xe s := by
  refine thn (he pins s σ H _ I h) fun w s1 ⟨y, H1, I1, r1, q1⟩ => ?_
  refine thn (ho pins s1 σ H1 v y u w _ I1 r r1 q1) fun z s2 ⟨zv, H2, I2, r2, q2⟩ => ?_
  exact Zgj I2 hN hi hx r2 (fun s3 I3 => ⟨_, H2, I3, q2⟩) hf
 rcases l with ⟨hk, hm⟩ | ⟨hk, c, hc, hcell⟩
 ·exact wpAny_loadName_local I.ok.kind hk hn hm go
 ·rcases hk with hk | hk
  ·exact wpAny_loadName_cell I.ok.kind hk hc hcell go
  ·rcases hx with k | k
   ·have : X.env.scope.names.lookup x = some .free := hk
    rw [k] at this; cases this
   ·have : X.env.scope.names.lookup x = some .free := hk
    rw [k] at this; cases this
noncomputable def ipI (f : Int -> Int -> Int) : TIp := fun x y H Q => ∃ i j, x = .int i /\ y = .int j /\ Q (.int (f i j)) H
theorem ZpT : PIp X .Add (ipI fun i j => i + j) := by
 intro pins s σ H x y v u Q I r1 r2 h
 obtain ⟨i, j, e1, e2, q⟩ := h
 subst e1; subst e2
 obtain ⟨t, rfl⟩ := r1
 obtain ⟨t', rfl⟩ := r2
 exact iadd_int ⟨.int _, H, I.tok _, ⟨_, rfl⟩, q⟩
end
section
variable {X : Cx} {pos : Pos}
noncomputable def ZpU (c : TT) (tb : TS.Internal) : TS.Internal := fun D σ H => ∃ W : Nat -> St -> Hp -> Prop, (∃ m, W m σ H) /\ ∀ m σ H, W m σ H ->
 c σ H fun b H1 => if b = true then ∃ N : St -> Hp -> Prop, (∀ σ' H', N σ' H' -> ∃ m', m' < m /\ W m' σ' H') /\ tb { D with nx := N, ct := N, bk := D.nx } σ H1 else D.nx σ H1
theorem Znn {c : Expr} {body : List Stmt} {tc : TT} {tb : TS.Internal} (hp : PassesOwn (model X.prog X.w) X.A X.env X.xe) (hc : PT X c tc) (hb : PSs X body tb) : PS X (.While c body [] pos) (ZpU tc tb) := by
 intro pins s σ H D I h
 obtain ⟨W, ⟨m0, w0⟩, turn⟩ := h
 refine wpAny_While (codeAny_whileLoop (fun n s' => ∃ σ' H', Inv X pins σ' H' s' /\ W n σ' H') ?_ m0 ⟨σ, H, I, w0⟩)
 rintro n s1 ⟨σ1, H1, I1, w1⟩
 refine wpAny_passesOwn hp (thn (hc pins s1 σ1 H1 _ I1 (turn n σ1 H1 w1)) fun b s2 ⟨H2, I2, q2⟩ => ?_)
 cases b with
 | true =>
  obtain ⟨N, hN, q2⟩ := q2
  rw [if_pos rfl]
  refine wpAny_passesOwn hp (thn (hb pins s2 σ1 H2 _ I2 q2) fun f s3 q3 => ?_)
  cases f with
  | next =>
   obtain ⟨σ3, H3, I3, n3⟩ := q3
   obtain ⟨m', hm, w3⟩ := hN σ3 H3 n3
   exact ⟨m', hm, σ3, H3, I3, w3⟩
  | cont =>
   obtain ⟨σ3, H3, I3, n3⟩ := q3
   obtain ⟨m', hm, w3⟩ := hN σ3 H3 n3
   exact ⟨m', hm, σ3, H3, I3, w3⟩
  | brk => exact q3
  | ret v => exact q3
 | false =>
  rw [if_neg ZcX]
  exact wpAny_execs_nil ⟨σ1, H2, I2, q2⟩
end
structure It where
 go : Nat -> Hp -> Prop
 yld : Nat -> Hp -> V -> Hp -> Prop
 stop : Nat -> Hp -> Prop
def ZkC (X : Cx) (pins : List (Addr × Obj)) (H : Hp) (b : Addr) : Prop :=
 H b = none /\ b ≠ X.env.locals /\ b ∉ X.fs /\ (b ∈ X.ex \/ X.s₀.heap.objs.size <= b) /\ (∀ x c, X.env.cells.lookup x = some c -> c ≠ b) /\ ∀ p ∈ X.pn ++ pins, p.1 ≠ b
theorem Inv.fpOk {X : Cx} {pins : List (Addr × Obj)} {σ : St} {H H' : Hp} {s : Shared} {b : Addr} (I : Inv X pins σ H s) (hb : s.heap.objs.size <= b) (hn : H' b = none) : ZkC X pins H' b := by
 refine ⟨hn, ZbJ (ZbE I.lt hb), I.nofs hb, .inr (ZbH I.sz hb), fun x c e z => ?_, fun p hp z => ?_⟩
 ·obtain ⟨v, q⟩ := I.cell x c e
  exact absurd (ZbE q.lt (by rw [z]; exact hb)) (ZbF _)
 ·exact absurd (ZbE (Zdk (I.pin p hp).1) (by rw [z]; exact hb)) (ZbF _)
structure ZpF (P : Program) (w : World) (K : PySem.W.Frag) (tg : Expr) (J : It) (fp : List Addr) (it : Addr) (tn : Nat -> Heap -> Prop) : Prop where
 mem : it ∈ fp
 obj : ∀ i h, tn i h -> ∀ b ∈ fp, ∃ o, h.get? b = some o /\ ∀ v, o.data ≠ .cell v
 keep : ∀ i h h', tn i h -> (∀ b ∈ fp, ∀ o, h.get? b = some o -> h'.get? b = some o) -> tn i h'
 item : ∀ (X : Cx), X.prog = P -> X.w = w -> X.K = K -> X.calm = true -> ∀ (i : Nat) (pins : List (Addr × Obj)) (s : Shared) (σ : St) (H : Hp) (E : Value -> Shared -> Prop), Inv X pins σ H s -> (∀ b ∈ fp, ZkC X pins H b) -> tn i s.heap -> J.go i H ->
  wpAny (model P w) X.A (pyNext (.ref it)) (fun r s1 => ∃ u, r = some u /\
   wpAny (model P w) X.A (letOwnedTupleGo tg (.ref it) u) (fun _ s2 => ∃ x H', Inv X pins σ H' s2 /\ ZeL x u /\ J.yld i H x H' /\ tn (i + 1) s2.heap /\ ∀ b ∈ fp, H' b = none) E s1) E s
 done : ∀ (X : Cx), X.prog = P -> X.w = w -> X.K = K -> X.calm = true -> ∀ (i : Nat) (pins : List (Addr × Obj)) (s : Shared) (σ : St) (H : Hp) (E : Value -> Shared -> Prop), Inv X pins σ H s -> (∀ b ∈ fp, ZkC X pins H b) -> tn i s.heap -> J.stop i H ->
  wpAny (model P w) X.A (pyNext (.ref it)) (fun r s1 => r = none /\ Inv X pins σ H s1) E s
 self : ∀ (A : Around) (i : Nat) (s : Shared) (Q : Value -> Shared -> Prop) (E : Value -> Shared -> Prop), tn i s.heap -> Q (.ref it) s -> wpAny (model P w) A (pyIter (.ref it)) Q E s
noncomputable abbrev TI := St -> Hp -> (It -> Hp -> Prop) -> Prop
def PIE (X : Cx) (pins : List (Addr × Obj)) (σ : St) (tg : Expr) (R : It -> Hp -> Prop) (itv : Value) (s2 : Shared) : Prop :=
 ∃ (it : Addr) (fp : List Addr) (tn : Nat -> Heap -> Prop) (J : It) (H' : Hp), itv = .ref it /\ Inv X pins σ H' s2 /\ ZpF X.prog X.w X.K tg J fp it tn /\ tn 0 s2.heap /\ (∀ b ∈ fp, ZkC X pins H' b) /\ R J H'
def PI (X : Cx) (tg iter : Expr) (wi : TI) : Prop :=
 ∀ (pins : List (Addr × Obj)) (s : Shared) (σ : St) (H : Hp) (R : It -> Hp -> Prop), Inv X pins σ H s -> wi σ H R ->
  wpAny (model X.prog X.w) X.A (eval iter X.env) (fun v s1 => wpAny (model X.prog X.w) X.A (pyIter v) (PIE X pins σ tg R) X.xe s1) X.xe s
theorem Zno {M : Model} {A : Around} {E : Value -> Shared -> Prop} {s : Shared} {tg : Expr} {it : Addr} {u : Value} {o : Obj} {n : String} {vs : Array Value} {Q : Unit -> Shared -> Prop} (ho : s.heap.get? it = some o) (hc : o.cls = .type n) (hd : o.data = .fields vs)
  (hn : ["enumerate", "zip", "dict_itemiterator", "dict_reverseitemiterator", "odict_iterator", "itertools.zip_longest", "itertools.pairwise"].contains n = false) (hQ : Q () s) : wpAny M A (letOwnedTupleGo tg (.ref it) u) Q E s := by
 unfold letOwnedTupleGo
 cases tg <;> first
  | exact wpAny_pure hQ
  | (cases u <;> first
    | exact wpAny_pure hQ
    | (refine wpAny_bind (wpAny_load ho ?_)
       rw [hc, hd]
       show wpAny M A (if (["enumerate", "zip", "dict_itemiterator", "dict_reverseitemiterator", "odict_iterator", "itertools.zip_longest", "itertools.pairwise"].contains n && vs[0]? == some (rawInt _)) = true then _ else _) Q E s
       rw [if_neg (by intro h; rw [hn, Bool.false_and] at h; cases h)]
       exact wpAny_pure hQ))
noncomputable def Itl (K : PySem.W.Frag) (a : Addr) : It :=
 ⟨fun i H => ∃ xs x, SqL K H a xs /\ xs[i]? = some x, fun i H x H' => H' = H /\ ∀ xs, SqL K H a xs -> xs[i]? = some x, fun i H => ∃ xs, SqL K H a xs /\ xs.length <= i⟩
noncomputable def Itt (K : PySem.W.Frag) (a : Addr) : It :=
 ⟨fun i H => ∃ xs x, SqT K H a xs /\ xs[i]? = some x, fun i H x H' => H' = H /\ ∀ xs, SqT K H a xs -> xs[i]? = some x, fun i H => ∃ xs, SqT K H a xs /\ xs.length <= i⟩
noncomputable def Itr (lo : Int) (n : Nat) : It := ⟨fun i _ => i < n, fun i H x H' => H' = H /\ x = .int (lo + i), fun i _ => n <= i⟩
theorem ZlT {P : Program} {w : World} {K : PySem.W.Frag} {tg : Expr} (a it : Addr) : ZpF P w K tg (Itl K a) [it] it (fun i h => h.IsListIter it a i) where
 mem := by simp
 obj := fun i h st b hb => by
  have e : b = it := by simpa using hb
  subst e
  obtain ⟨o, e, c, d⟩ := st
  exact ⟨o, e, fun v z => by rw [d] at z; cases z⟩
 keep := fun i h h' st k => st.at fun o e => k it (by simp) o e
 item := by
  intro X hP hw hK hc i pins s σ H E I hf st hg
  subst hP hw hK
  obtain ⟨xs, x, hq, hx⟩ := hg
  obtain ⟨its, rv, p, hz⟩ := I.list hq
  obtain ⟨u, hu, ru⟩ := rv.get hx
  obtain ⟨f0, f1, f2, f3, f4, f5⟩ := hf it (by simp)
  refine wpAny_pyNext_list_item st p.isList (x := u) (by simpa using hu) fun h' st' sb => ?_
  have I1 : Inv X pins σ H { s with heap := h' } := I.turned (t' := s.toks) (fun b o hb e => (sb.2 b hb).trans e) f0 f1 f3 f4 f5
  obtain ⟨o, e, c, d⟩ := id st'
  exact ⟨u, rfl, Zno (s := { s with heap := h' }) e c d (by decide) ⟨x, H, I1, ru, ⟨rfl, fun ys hy => by rw [I.list_inj hy hq]; exact hx⟩, st', fun b hb => (hf b hb).1⟩⟩
 done := by
  intro X hP hw hK hc i pins s σ H E I hf st hg
  subst hP hw hK
  obtain ⟨xs, hq, hx⟩ := hg
  obtain ⟨its, rv, p, hz⟩ := I.list hq
  obtain ⟨f0, f1, f2, f3, f4, f5⟩ := hf it (by simp)
  have hl := rv.length
  exact wpAny_pyNext_list_end (I.ok.hd hc) st p.isList (by simp; omega) fun h' eb => ⟨rfl, I.turned (t' := s.toks) (fun b o hb e => eb b o hb e) f0 f1 f3 f4 f5⟩
 self := fun _ _ _ _ _ st h => wpAny_pyIter_listiter st h
theorem Zld {P : Program} {w : World} {K : PySem.W.Frag} {tg : Expr} (a it : Addr) : ZpF P w K tg (Itt K a) [it] it (fun i h => h.IsTupleIter it a i) where
 mem := by simp
 obj := fun i h st b hb => by
  have e : b = it := by simpa using hb
  subst e
  obtain ⟨o, e, c, d⟩ := st
  exact ⟨o, e, fun v z => by rw [d] at z; cases z⟩
 keep := fun i h h' st k => st.at fun o e => k it (by simp) o e
 item := by
  intro X hP hw hK hc i pins s σ H E I hf st hg
  subst hP hw hK
  obtain ⟨xs, x, hq, hx⟩ := hg
  obtain ⟨its, rv, p, hz⟩ := I.tuple hq
  obtain ⟨u, hu, ru⟩ := rv.get hx
  obtain ⟨f0, f1, f2, f3, f4, f5⟩ := hf it (by simp)
  refine wpAny_pyNext_tuple_item st (show s.heap.IsTuple a its.toArray from p) (x := u) (by simpa using hu) fun h' st' sb => ?_
  have I1 : Inv X pins σ H { s with heap := h' } := I.turned (t' := s.toks) (fun b o hb e => (sb.2 b hb).trans e) f0 f1 f3 f4 f5
  obtain ⟨o, e, c, d⟩ := id st'
  exact ⟨u, rfl, Zno (s := { s with heap := h' }) e c d (by decide) ⟨x, H, I1, ru, ⟨rfl, fun ys hy => by rw [I.tuple_inj hy hq]; exact hx⟩, st', fun b hb => (hf b hb).1⟩⟩
 done := by
  intro X hP hw hK hc i pins s σ H E I hf st hg
  subst hP hw hK
  obtain ⟨xs, hq, hx⟩ := hg
  obtain ⟨its, rv, p, hz⟩ := I.tuple hq
  obtain ⟨f0, f1, f2, f3, f4, f5⟩ := hf it (by simp)
  have hl := rv.length
  exact wpAny_pyNext_tuple_end (I.ok.hd hc) st (show s.heap.IsTuple a its.toArray from p) (by simp; omega) fun h' eb => ⟨rfl, I.turned (t' := s.toks) (fun b o hb e => eb b o hb e) f0 f1 f3 f4 f5⟩
 self := fun _ _ _ _ _ st h => wpAny_pyIter_tupleiter st h
theorem Zle {P : Program} {w : World} {K : PySem.W.Frag} {tg : Expr} (it : Addr) (lo : Int) (n : Nat) : ZpF P w K tg (Itr lo n) [it] it (fun i h => IsRangeIter h it (lo + (i : Nat) * 1) ((n : Int) - (i : Nat)) 1) where
 mem := by simp
 obj := fun i h st b hb => by
  have e : b = it := by simpa using hb
  subst e
  exact ⟨_, st, fun v z => by
   have z' : Data.fields _ = Data.cell v := z
   cases z'⟩
 keep := fun i h h' st k => k it (by simp) _ st
 item := by
  intro X hP hw hK hc i pins s σ H E I hf st hg
  subst hP hw hK
  obtain ⟨f0, f1, f2, f3, f4, f5⟩ := hf it (by simp)
  have W := Walks.range (prog := X.prog) (w := X.w) (I.ok.hd hc) it lo 1 n
  refine W.item i s _ _ hg st fun v h' tk hv st' kk => ?_
  obtain ⟨t, rfl⟩ := hv
  have I1 : Inv X pins σ H { s with heap := h', toks := tk } := I.turned (fun b o hb e => kk b o (by simpa using hb) e) f0 f1 f3 f4 f5
  refine ⟨_, rfl, Zno (s := { s with heap := h', toks := tk }) (n := "range_iterator") st' rfl rfl (by decide) ⟨.int (lo + i), H, I1, ⟨t, ?_⟩, ⟨rfl, rfl⟩, st', fun b hb => (hf b hb).1⟩⟩
  rw [Int.mul_one]
 done := by
  intro X hP hw hK hc i pins s σ H E I hf st hg
  subst hP hw hK
  obtain ⟨f0, f1, f2, f3, f4, f5⟩ := hf it (by simp)
  exact wpAny_pyNext_range_end (I.ok.hd hc) st (by have : n <= i := hg; omega) fun h' eb => ⟨rfl, I.turned (t' := s.toks) (fun b o hb e => eb b o hb e) f0 f1 f3 f4 f5⟩
 self := fun _ _ _ _ _ st h => wpAny_pyIter_rangeiter st h
end L2.Internal
namespace L2.Internal
open PySem PySem.Spec PyProof.Rows
section
variable {X : Cx} {tg : Expr}
def Zq4 (K : PySem.W.Frag) (tl : TE) : TI := fun σ H R => tl σ H fun x H1 => ∃ a, x = .ref a /\ (∃ xs, SqL K H1 a xs) /\ R (Itl K a) H1
def iTup (K : PySem.W.Frag) (tl : TE) : TI := fun σ H R => tl σ H fun x H1 => ∃ a, x = .ref a /\ (∃ xs, SqT K H1 a xs) /\ R (Itt K a) H1
theorem Zen {l : Expr} {tl : TE} (hl : PE X l tl) : PI X tg l (Zq4 X.K tl) := by
 intro pins s σ H R I h
 refine thn (hl pins s σ H _ I h) fun v s1 ⟨x, H1, I1, r1, q1⟩ => ?_
 obtain ⟨a, e, ⟨xs, hq⟩, q⟩ := q1
 subst e
 cases r1
 obtain ⟨its, rv, p, hz⟩ := I1.list hq
 refine wpAny_pyIter_list p.isList ?_
 refine ⟨s1.heap.objs.size, [s1.heap.objs.size], _, _, H1, rfl, I1.kept (t' := s1.toks) fun b o e => Zdm _ e, ZlT a _, ⟨_, Zdl _ rfl, rfl, rfl⟩, fun b hb => ?_, q⟩
 have e : b = s1.heap.objs.size := by simpa using hb
 subst e
 exact I1.fpOk (ZbK _) (I1.hok.fresh (ZbK _))
theorem Zn3 {l : Expr} {tl : TE} (hl : PE X l tl) : PI X tg l (iTup X.K tl) := by
 intro pins s σ H R I h
 refine thn (hl pins s σ H _ I h) fun v s1 ⟨x, H1, I1, r1, q1⟩ => ?_
 obtain ⟨a, e, ⟨xs, hq⟩, q⟩ := q1
 subst e
 cases r1
 obtain ⟨its, rv, p, hz⟩ := I1.tuple hq
 refine wpAny_pyIter_tuple (show s1.heap.IsTuple a its.toArray from p) ?_
 refine ⟨s1.heap.objs.size, [s1.heap.objs.size], _, _, H1, rfl, I1.kept (t' := s1.toks) fun b o e => Zdm _ e, Zld a _, ⟨_, Zdl _ rfl, rfl, rfl⟩, fun b hb => ?_, q⟩
 have e : b = s1.heap.objs.size := by simpa using hb
 subst e
 exact I1.fpOk (ZbK _) (I1.hok.fresh (ZbK _))
theorem Znp {pins : List (Addr × Obj)} {σ : St} {H : Hp} {s : Shared} {R : It -> Hp -> Prop} {E : Value -> Shared -> Prop} {lo hi : Int} {t u v : Tok} {tk : Nat} (I : Inv X pins σ H s) (h1 : -(2 ^ 62) <= lo) (h2 : lo < 2 ^ 62) (h3 : -(2 ^ 62) <= hi) (h4 : hi < 2 ^ 62)
  (q : R (Itr lo (hi - lo).toNat) H) : wpAny (model X.prog X.w) X.A (pyIter (.ref s.heap.objs.size)) (PIE X pins σ tg R) E { s with heap := s.heap.push { cls := .type "range", data := .fields #[.int lo t, .int hi u, .int 1 v] }, toks := tk } := by
 refine wpAny_pyIter_range (IsRange.new ..) (small_one h1 h2 h3 h4) ?_
 have I1 : Inv X pins σ H { s with heap := s.heap.push { cls := .type "range", data := .fields #[.int lo t, .int hi u, .int 1 v] }, toks := tk } := I.kept fun b o e => Zdm _ e
 refine ⟨(s.heap.push { cls := .type "range", data := .fields #[.int lo t, .int hi u, .int 1 v] }).objs.size, [(s.heap.push { cls := .type "range", data := .fields #[.int lo t, .int hi u, .int 1 v] }).objs.size], _, _, H, rfl,
  I1.kept (t' := tk) fun b o e => Zdm _ e, Zle _ lo (hi - lo).toNat, ?_, fun b hb => ?_, q⟩
 ·have e1 : lo + ((0 : Nat) : Int) * 1 = lo := by simp
  have e2 : (((hi - lo).toNat : Nat) : Int) - ((0 : Nat) : Int) = Builtin.Range.rangeSize lo hi 1 := by rw [rangeSize_one]; split <;> omega
  show IsRangeIter _ _ (lo + ((0 : Nat) : Int) * 1) ((((hi - lo).toNat : Nat) : Int) - ((0 : Nat) : Int)) 1
  rw [e1, e2]
  exact Zdl _ rfl
 ·have e : b = (s.heap.push { cls := .type "range", data := .fields #[.int lo t, .int hi u, .int 1 v] }).objs.size := by simpa using hb
  subst e
  exact I1.fpOk (ZbK _) (I1.hok.fresh (ZbK _))
def Zq5 (ta : TA) : TI := fun σ H R => ta σ H fun vs H1 => ∃ j : Int, vs = [.int j] /\ -(2 ^ 62) <= j /\ j < 2 ^ 62 /\ R (Itr 0 j.toNat) H1
theorem Zf4 {a : Expr} {ta : TA} {p pos : Pos} (hg : Gl X "range") (hm : X.mg "range" = none) (ha : PA X [a] ta) (hs : autoParam (starEach [a] X.env = [(false, eval a X.env)]) L2.Internal.auR._auto_1) : PI X tg (.Call (.Name "range" p) [a] [] pos) (Zq5 ta) := by
 intro pins s σ H R I h
 refine Call_ (Zjf I hg hm boot_range (Zdp (thn (ha pos pins s σ H _ I h) fun us s1 ⟨vs, H1, I1, r1, q1⟩ => ?_) hs rfl))
 obtain ⟨j, e, q1, q2, q⟩ := q1
 subst e
 cases r1 with
 | cons r rr =>
  cases rr
  obtain ⟨t, rfl⟩ := r
  exact call_range_1 (Znp I1 (by omega) (by omega) q1 q2 (by simpa using q))
noncomputable def tFor (wi : TI) (g : TG) (tb : TS.Internal) : TS.Internal := fun D σ H => wi σ H fun J H1 => ∃ W : Nat -> Nat -> St -> Hp -> Prop, (∃ m, W 0 m σ H1) /\ ∀ i m σ H, W i m σ H ->
 (J.stop i H /\ D.nx σ H) \/ (J.go i H /\ ∃ N : St -> Hp -> Prop, (∀ σ' H', N σ' H' -> ∃ m', m' < m /\ W (i + 1) m' σ' H') /\ ∀ x H', J.yld i H x H' -> g x σ H' fun σ2 H2 => tb { D with nx := N, ct := N, bk := D.nx } σ2 H2)
noncomputable def Zh8 (fp : List Addr) (h : Heap) : List (Addr × Obj) := fp.filterMap fun b => (h.get? b).map fun o => (b, o)
theorem Zfz {fp : List Addr} {h : Heap} {b : Addr} {o : Obj} (hb : b ∈ fp) (e : h.get? b = some o) : (b, o) ∈ Zh8 fp h := Zam.mpr ⟨b, hb, by rw [e]; rfl⟩
theorem ZlU {fp : List Addr} {h : Heap} {p : Addr × Obj} (hp : p ∈ Zh8 fp h) : p.1 ∈ fp /\ h.get? p.1 = some p.2 := by
 obtain ⟨b, hb, e⟩ := Zam.mp hp
 cases q : h.get? b with
 | none => rw [q] at e; cases e
 | some o =>
  rw [q] at e
  have e' : (b, o) = p := Zce.inj e
  subst e'
  exact ⟨hb, q⟩
theorem Inv.pinned {pins : List (Addr × Obj)} {σ : St} {H : Hp} {s : Shared} {fp : List Addr} (I : Inv X pins σ H s) (hf : ∀ b ∈ fp, ZkC X pins H b) (ho : ∀ b ∈ fp, ∃ o, s.heap.get? b = some o /\ ∀ v, o.data ≠ .cell v) : Inv X (pins ++ Zh8 fp s.heap) σ H s :=
 I.pins_of fun p hp => (Zah.mp hp).elim (fun z => I.pin p (Zan _ z)) fun z => by
  obtain ⟨hb, e⟩ := ZlU z
  obtain ⟨f0, f1, f2, _⟩ := hf p.1 hb
  obtain ⟨o, e', d⟩ := ho p.1 hb
  rw [e] at e'; cases e'
  exact ⟨e, f0, f1, f2, d⟩
theorem Inv.unpinned {pins pl : List (Addr × Obj)} {σ : St} {H : Hp} {s : Shared} (I : Inv X (pins ++ pl) σ H s) : Inv X pins σ H s := I.pins_of fun p hp => I.pin p (Zan _ (Zai _ hp))
theorem Ze3 {iter : Expr} {body : List Stmt} {wi : TI} {g : TG} {tb : TS.Internal} {pos : Pos} (hp : PassesOwn (model X.prog X.w) X.A X.env X.xe) (hc : X.calm = true) (hi : PI X tg iter wi) (hg : PG X tg g) (hb : PSs X body tb)
  (hs : autoParam (∀ x, foldedSetIterable iter X.env x = pure x) L2.Internal.auI._auto_1) : PS X (.For tg iter body [] pos) (tFor wi g tb) := by
 intro pins s σ H D I h
 refine wpAny_For (thn (hi pins s σ H _ I h) fun v s1 h1 => thn h1 fun itv s2 h2 => ?_) hs
 obtain ⟨it, fp, tn, J, H2, e, I2, T, st2, f2, W, ⟨m0, w0⟩, turn⟩ := h2
 subst e
 have stat : ∀ {H' : Hp}, (∀ b ∈ fp, H' b = none) -> ∀ b ∈ fp, ZkC X pins H' b := fun hn b hb => ⟨hn b hb, (f2 b hb).2⟩
 refine codeAny_forLoop_any (fun n s' => ∃ i σ' H', Inv X pins σ' H' s' /\ tn i s'.heap /\ (∀ b ∈ fp, H' b = none) /\ W i n σ' H') ?_ m0 ⟨0, σ, H2, I2, st2, fun b hb => (f2 b hb).1, w0⟩
 rintro n s3 ⟨i, σ3, H3, I3, st3, fr3, w3⟩
 rcases turn i n σ3 H3 w3 with ⟨stop, qn⟩ | ⟨go, N, hN, step⟩
 ·refine wpAny_passesOwn hp (thn (T.done X rfl rfl rfl hc i pins s3 σ3 H3 X.xe I3 (stat fr3) st3 stop) fun r s4 ⟨hr, I4⟩ => ?_)
  subst hr
  exact wpAny_execs_nil ⟨σ3, H3, I4, qn⟩
 ·refine wpAny_passesOwn hp (thn (T.item X rfl rfl rfl hc i pins s3 σ3 H3 X.xe I3 (stat fr3) st3 go) fun r s4 ⟨u, hr, h4⟩ => ?_)
  subst hr
  refine wpAny_passesOwn hp (thn h4 fun _ s5 ⟨x, H5, I5, r5, y5, st5, fr5⟩ => ?_)
  have I5' := I5.pinned (stat fr5) (T.obj _ _ st5)
  refine wpAny_passesOwn hp (thn (hg _ s5 σ3 H5 x u _ I5' r5 (step x H5 y5)) fun _ s6 ⟨σ6, H6, I6, q6⟩ => ?_)
  refine wpAny_passesOwn hp (thn (hb _ s6 σ6 H6 _ I6 q6) fun f s7 q7 => ?_)
  have again : ∀ {σ7 : St} {H7 : Hp}, Inv X (pins ++ Zh8 fp s5.heap) σ7 H7 s7 -> N σ7 H7 -> ∃ m, m < n /\ ∃ i σ' H', Inv X pins σ' H' s7 /\ tn i s7.heap /\ (∀ b ∈ fp, H' b = none) /\ W i m σ' H' := fun {σ7 H7} I7 n7 => by
   obtain ⟨m', hm, w7⟩ := hN σ7 H7 n7
   refine ⟨m', hm, i + 1, σ7, H7, I7.unpinned, T.keep _ _ _ st5 fun b hb o e => (I7.pin (b, o) (Zan _ (Zan _ (Zfz hb e)))).1, fun b hb => ?_, w7⟩
   obtain ⟨o, e, d⟩ := T.obj _ _ st5 b hb
   exact (I7.pin (b, o) (Zan _ (Zan _ (Zfz hb e)))).2.1
  cases f with
  | next => obtain ⟨σ7, H7, I7, n7⟩ := q7; exact again I7 n7
  | cont => obtain ⟨σ7, H7, I7, n7⟩ := q7; exact again I7 n7
  | brk => obtain ⟨σ7, H7, I7, q7⟩ := q7; exact ⟨σ7, H7, I7.unpinned, q7⟩
  | ret v => obtain ⟨x7, σ7, H7, I7, r7, q7⟩ := q7; exact ⟨x7, σ7, H7, I7.unpinned, r7, q7⟩
end
theorem Zeo {K : PySem.W.Frag} {a : Addr} {xs : List V} {g : TG} {tb : TS.Internal} {D : Zj5} {σ : St} {H : Hp} (Pv : Nat -> St -> Hp -> Prop) (h0 : Pv 0 σ H) (hl : ∀ i σ H, i <= xs.length -> Pv i σ H -> SqL K H a xs)
  (hs : ∀ i x σ H, xs[i]? = some x -> Pv i σ H -> g x σ H fun σ2 H2 => tb { D with nx := Pv (i + 1), ct := Pv (i + 1), bk := D.nx } σ2 H2) (hd : ∀ σ H, Pv xs.length σ H -> D.nx σ H) :
  ∃ W : Nat -> Nat -> St -> Hp -> Prop, (∃ m, W 0 m σ H) /\ ∀ i m σ H, W i m σ H ->
   ((Itl K a).stop i H /\ D.nx σ H) \/ ((Itl K a).go i H /\ ∃ N : St -> Hp -> Prop, (∀ σ' H', N σ' H' -> ∃ m', m' < m /\ W (i + 1) m' σ' H') /\ ∀ x H', (Itl K a).yld i H x H' -> g x σ H' fun σ2 H2 => tb { D with nx := N, ct := N, bk := D.nx } σ2 H2) := by
 refine ⟨fun i m σ H => m = xs.length - i /\ i <= xs.length /\ Pv i σ H, ⟨xs.length, by simp, ZbL _, h0⟩, ?_⟩
 rintro i m σ H ⟨rfl, hi, p⟩
 have q := hl i σ H hi p
 by_cases hlt : i < xs.length
 ·refine .inr ⟨⟨xs, xs[i], q, by simp [hlt]⟩, Pv (i + 1), fun σ' H' p' => ⟨xs.length - (i + 1), by omega, rfl, hlt, p'⟩, fun x H' y => ?_⟩
  obtain ⟨e, y⟩ := y
  subst e
  exact hs i x σ _ (y xs q) p
 ·have e : i = xs.length := by omega
  subst e
  exact .inl ⟨⟨xs, q, ZbK _⟩, hd σ H p⟩
theorem ZoD {K : PySem.W.Frag} {a : Addr} {xs : List V} {g : TG} {tb : TS.Internal} {D : Zj5} {σ : St} {H : Hp} (Pv : Nat -> St -> Hp -> Prop) (h0 : Pv 0 σ H) (hl : ∀ i σ H, i <= xs.length -> Pv i σ H -> SqT K H a xs)
  (hs : ∀ i x σ H, xs[i]? = some x -> Pv i σ H -> g x σ H fun σ2 H2 => tb { D with nx := Pv (i + 1), ct := Pv (i + 1), bk := D.nx } σ2 H2) (hd : ∀ σ H, Pv xs.length σ H -> D.nx σ H) :
  ∃ W : Nat -> Nat -> St -> Hp -> Prop, (∃ m, W 0 m σ H) /\ ∀ i m σ H, W i m σ H ->
   ((Itt K a).stop i H /\ D.nx σ H) \/ ((Itt K a).go i H /\ ∃ N : St -> Hp -> Prop, (∀ σ' H', N σ' H' -> ∃ m', m' < m /\ W (i + 1) m' σ' H') /\ ∀ x H', (Itt K a).yld i H x H' -> g x σ H' fun σ2 H2 => tb { D with nx := N, ct := N, bk := D.nx } σ2 H2) := by
 refine ⟨fun i m σ H => m = xs.length - i /\ i <= xs.length /\ Pv i σ H, ⟨xs.length, by simp, ZbL _, h0⟩, ?_⟩
 rintro i m σ H ⟨rfl, hi, p⟩
 have q := hl i σ H hi p
 by_cases hlt : i < xs.length
 ·refine .inr ⟨⟨xs, xs[i], q, by simp [hlt]⟩, Pv (i + 1), fun σ' H' p' => ⟨xs.length - (i + 1), by omega, rfl, hlt, p'⟩, fun x H' y => ?_⟩
  obtain ⟨e, y⟩ := y
  subst e
  exact hs i x σ _ (y xs q) p
 ·have e : i = xs.length := by omega
  subst e
  exact .inl ⟨⟨xs, q, ZbK _⟩, hd σ H p⟩
theorem Zji {lo : Int} {n : Nat} {g : TG} {tb : TS.Internal} {D : Zj5} {σ : St} {H : Hp} (Pv : Nat -> St -> Hp -> Prop) (h0 : Pv 0 σ H)
  (hs : ∀ i σ H, i < n -> Pv i σ H -> g (.int (lo + i)) σ H fun σ2 H2 => tb { D with nx := Pv (i + 1), ct := Pv (i + 1), bk := D.nx } σ2 H2) (hd : ∀ σ H, Pv n σ H -> D.nx σ H) :
  ∃ W : Nat -> Nat -> St -> Hp -> Prop, (∃ m, W 0 m σ H) /\ ∀ i m σ H, W i m σ H ->
   ((Itr lo n).stop i H /\ D.nx σ H) \/ ((Itr lo n).go i H /\ ∃ N : St -> Hp -> Prop, (∀ σ' H', N σ' H' -> ∃ m', m' < m /\ W (i + 1) m' σ' H') /\ ∀ x H', (Itr lo n).yld i H x H' -> g x σ H' fun σ2 H2 => tb { D with nx := N, ct := N, bk := D.nx } σ2 H2) := by
 refine ⟨fun i m σ H => m = n - i /\ i <= n /\ Pv i σ H, ⟨n, by simp, ZbL _, h0⟩, ?_⟩
 rintro i m σ H ⟨rfl, hi, p⟩
 by_cases hlt : i < n
 ·refine .inr ⟨hlt, Pv (i + 1), fun σ' H' p' => ⟨n - (i + 1), by omega, rfl, hlt, p'⟩, fun x H' y => ?_⟩
  obtain ⟨e, y⟩ := y
  subst e y
  exact hs i σ _ hlt p
 ·have e : i = n := by omega
  subst e
  exact .inl ⟨ZbK _, hd σ H p⟩
end L2.Internal
namespace L2.Internal
open PySem PySem.Spec PyProof.Rows
noncomputable abbrev R2 := V -> V -> Hp -> VK -> Prop
def OpR (X : Cx) (f : Value -> Value -> Sem Value) (r : R2) : Prop :=
 ∀ (pins : List (Addr × Obj)) (s : Shared) (σ : St) (H : Hp) (x y : V) (v u : Value) (Q : VK), Inv X pins σ H s -> ZeL x v -> ZeL y u -> r x y H Q ->
  wpAny (model X.prog X.w) X.A (f v u) (EP X pins σ Q) X.xe s
def ZgK (X : Cx) (f : Value) (r : List V -> Hp -> VK -> Prop) : Prop :=
 ∀ (pins : List (Addr × Obj)) (s : Shared) (σ : St) (H : Hp) (xs : List V) (us : List Value) (Q : VK), Inv X pins σ H s -> Ze0 xs us -> r xs H Q ->
  wpAny (model X.prog X.w) X.A (call f us) (EP X pins σ Q) X.xe s
def tOp (r : R2) (ta tb : TE) : TE := fun σ H Q => ta σ H fun x H1 => tb σ H1 fun y H2 => r x y H2 Q
def rI (C : Int -> Int -> Prop) (g : Int -> Int -> V) : R2 := fun x y H Q => ∃ i j, x = .int i /\ y = .int j /\ C i j /\ Q (g i j) H
def rI0 (g : Int -> Int -> V) : R2 := fun x y H Q => ∃ i j, x = .int i /\ y = .int j /\ Q (g i j) H
section
variable {X : Cx} {a b c : Expr} {ta tb tc : TE} {pos : Pos}
theorem Zq6 (ha : PE X a ta) (hb : PE X b tb) {pins : List (Addr × Obj)} {s : Shared} {σ : St} {H : Hp} {R : V -> V -> Hp -> Prop} (I : Inv X pins σ H s)
  (h : ta σ H fun x H1 => tb σ H1 fun y H2 => R x y H2) {Q : Value -> Shared -> Prop} {f : Value -> Value -> Sem Value}
  (hf : ∀ v u s2 x y H2, Inv X pins σ H2 s2 -> ZeL x v -> ZeL y u -> R x y H2 -> wpAny (model X.prog X.w) X.A (f v u) Q X.xe s2) :
  wpAny (model X.prog X.w) X.A (eval a X.env) (fun v s₁ => wpAny (model X.prog X.w) X.A (eval b X.env) (fun u s₂ => wpAny (model X.prog X.w) X.A (f v u) Q X.xe s₂) X.xe s₁) X.xe s := by
 refine thn (ha pins s σ H _ I h) fun v s1 ⟨x, H1, I1, r1, q1⟩ => ?_
 refine thn (hb pins s1 σ H1 _ I1 q1) fun u s2 ⟨y, H2, I2, r2, q2⟩ => ?_
 exact hf v u s2 x y H2 I2 r1 r2 q2
theorem Zep {op : Operator} {r : R2} (ho : OpR X (binaryOp op) r) (ha : PE X a ta) (hb : PE X b tb) : PE X (.BinOp a op b pos) (tOp r ta tb) := by
 intro pins s σ H Q I h
 exact wpAny_BinOp (Zq6 ha hb I h fun v u s2 x y H2 I2 rx ry q => ho pins s2 σ H2 x y v u Q I2 rx ry q)
theorem opI {f : Value -> Value -> Sem Value} {C : Int -> Int -> Prop} {g : Int -> Int -> Int}
  (rule : ∀ (i j : Int) (t u : Tok) (s : Shared) (Q : Value -> Shared -> Prop) (E : Value -> Shared -> Prop), C i j -> Q (.int (g i j) s.toks) { s with toks := s.toks + 1 } -> wpAny (model X.prog X.w) X.A (f (.int i t) (.int j u)) Q E s) :
  OpR X f (rI C fun i j => .int (g i j)) := by
 intro pins s σ H x y v u Q I rx ry h
 obtain ⟨i, j, rfl, rfl, hc, q⟩ := h
 obtain ⟨t, rfl⟩ := rx
 obtain ⟨t', rfl⟩ := ry
 exact rule i j t t' s _ _ hc ⟨.int (g i j), H, I.tok _, ⟨_, rfl⟩, q⟩
theorem ZrP {f : Value -> Value -> Sem Value} {g : Int -> Int -> Int}
  (rule : ∀ (i j : Int) (t u : Tok) (s : Shared) (Q : Value -> Shared -> Prop) (E : Value -> Shared -> Prop), Q (.int (g i j) s.toks) { s with toks := s.toks + 1 } -> wpAny (model X.prog X.w) X.A (f (.int i t) (.int j u)) Q E s) :
  OpR X f (rI0 fun i j => .int (g i j)) := by
 intro pins s σ H x y v u Q I rx ry h
 obtain ⟨i, j, rfl, rfl, q⟩ := h
 obtain ⟨t, rfl⟩ := rx
 obtain ⟨t', rfl⟩ := ry
 exact rule i j t t' s _ _ ⟨.int (g i j), H, I.tok _, ⟨_, rfl⟩, q⟩
theorem opB0 {f : Value -> Value -> Sem Value} {g : Int -> Int -> Bool}
  (rule : ∀ (i j : Int) (t u : Tok) (s : Shared) (Q : Value -> Shared -> Prop) (E : Value -> Shared -> Prop), Q (.bool (g i j)) s -> wpAny (model X.prog X.w) X.A (f (.int i t) (.int j u)) Q E s) :
  OpR X f (rI0 fun i j => .bl (g i j)) := by
 intro pins s σ H x y v u Q I rx ry h
 obtain ⟨i, j, rfl, rfl, q⟩ := h
 obtain ⟨t, rfl⟩ := rx
 obtain ⟨t', rfl⟩ := ry
 exact rule i j t t' s _ _ ⟨.bl (g i j), H, I, rfl, q⟩
def ZrQ (i j : Int) : Prop := 0 < j /\ j < 1073741824
def ZrR (i j : Int) : Prop := 0 <= j /\ j <= 1000000 /\ i.natAbs < 2 ^ 64
def ZqR (i j : Int) : Prop := (-(2 ^ 64) < i /\ i < 2 ^ 64) \/ (-(2 ^ 64) < j /\ j < 2 ^ 64)
theorem ZqR.ok {i j : Int} (h : ZqR i j) : IntMulOk i j := by
 rcases h with ⟨h1, h2⟩ | ⟨h1, h2⟩
 ·exact .of_left (intBits_le_64 h1 h2)
 ·exact .of_right (intBits_le_64 h1 h2)
theorem ZpV : OpR X (binaryOp .Add) (rI0 fun i j => .int (i + j)) := ZrP fun _ _ _ _ _ _ _ q => add_int q
theorem Zn4 : OpR X (binaryOp .Sub) (rI0 fun i j => .int (i - j)) := ZrP fun _ _ _ _ _ _ _ q => sub_int q
theorem ZpW : OpR X (binaryOp .Mult) (rI ZqR fun i j => .int (i * j)) := opI fun _ _ _ _ _ _ _ hc q => mul_int q hc.ok
theorem ZoE : OpR X (binaryOp .FloorDiv) (rI ZrQ fun i j => .int (i / j)) := opI fun i j _ _ _ _ _ hc q => by
 have h1 : (0 : Int) < j := hc.1
 have h2 : j < 1073741824 := hc.2
 exact floordiv_int (by omega) (by rw [Int.fdiv_eq_ediv_of_nonneg i (by omega)]; exact q) (.inl (PyProof.noPylong_small (by omega)))
theorem ZpX : OpR X (binaryOp .Mod) (rI (fun _ j => 0 < j) fun i j => .int (i % j)) := opI fun i j _ _ _ _ _ hc q => by
 have h1 : (0 : Int) < j := hc
 exact mod_int' (by omega) (by rw [Int.fmod_eq_emod_of_nonneg i (by omega)]; exact q)
theorem ZpY : OpR X (binaryOp .Pow) (rI ZrR fun i j => .int (i ^ j.toNat)) := opI fun _ _ _ _ _ _ _ hc q => pow_int_small hc.1 hc.2.1 hc.2.2 q
end
noncomputable def ZrS : V -> V -> Bool
 | .non, .non => true | .non, .int _ => true | .int _, .non => true | .non, .bl _ => true | .bl _, .non => true | .non, .str _ => true | .str _, .non => true
 | .int _, .int _ => true | .bl _, .bl _ => true | .str _, .str _ => true | .byt _, .byt _ => true
 | .int _, .str _ => true | .str _, .int _ => true | .bl _, .str _ => true | .str _, .bl _ => true
 | _, _ => false
def rEq : R2 := fun x y H Q => ZrS x y = true /\ Q (.bl (decide (x = y))) H
def rNe : R2 := fun x y H Q => ZrS x y = true /\ Q (.bl (!decide (x = y))) H
theorem ZlV {i j : Int} : decide (V.int i = V.int j) = (i == j) := by
 rw [ZcY]
 simp
theorem Zn5 {i j : Bool} : decide (V.bl i = V.bl j) = (i == j) := by
 rw [ZcY]
 simp
theorem ZlW {i j : Str} : decide (V.str i = V.str j) = (i == j) := by
 rw [ZcY]
 simp
theorem ZlX {i j : Array UInt8} : decide (V.byt i = V.byt j) = (i.toList == j.toList) := by
 rw [ZcY]
 cases i
 cases j
 simp
section
variable {X : Cx} {a b c : Expr} {ta tb tc : TE} {pos : Pos}
theorem Zek {pins : List (Addr × Obj)} {σ : St} {H : Hp} {s : Shared} {Q : VK} {k k' : Bool} (I : Inv X pins σ H s) (q : Q (.bl k) H) (e : k = k') : EP X pins σ Q (.bool k') s := by
 subst e
 exact ⟨.bl k, H, I, rfl, q⟩
theorem Zq7 : OpR X (compareOp .Eq) rEq := by
 intro pins s σ H x y v u Q I rx ry h
 obtain ⟨hs, q⟩ := h
 cases x with
 | non =>
  cases rx
  cases y with
  | non => cases ry; exact PySem.EqNone.eq_none_none (Zek I q (by simp))
  | bl j => cases ry; exact PySem.EqNone.eq_none_bool (Zek I q (by simp))
  | int j => obtain ⟨t', rfl⟩ := ry; exact PySem.EqNone.eq_none_int (Zek I q (by simp))
  | str j => obtain ⟨t', rfl⟩ := ry; exact PySem.EqNone.eq_none_str (Zek I q (by simp))
  | _ => exact absurd (show false = true from hs) ZcX
 | bl i =>
  cases rx
  cases y with
  | non => cases ry; exact PySem.EqNone.eq_bool_none (Zek I q (by simp))
  | bl j => cases ry; exact eq_bool (Zek I q Zn5)
  | str j => obtain ⟨t', rfl⟩ := ry; exact PySem.EqMixed.eq_bool_str (Zek I q (by simp))
  | _ => exact absurd (show false = true from hs) ZcX
 | int i =>
  obtain ⟨t, rfl⟩ := rx
  cases y with
  | non => cases ry; exact PySem.EqNone.eq_int_none (Zek I q (by simp))
  | int j => obtain ⟨t', rfl⟩ := ry; exact eq_int (Zek I q ZlV)
  | str j => obtain ⟨t', rfl⟩ := ry; exact PySem.EqMixed.eq_int_str (Zek I q (by simp))
  | _ => exact absurd (show false = true from hs) ZcX
 | str i =>
  obtain ⟨t, rfl⟩ := rx
  cases y with
  | non => cases ry; exact PySem.EqNone.eq_str_none (Zek I q (by simp))
  | bl j => cases ry; exact PySem.EqMixed.eq_str_bool (Zek I q (by simp))
  | int j => obtain ⟨t', rfl⟩ := ry; exact PySem.EqMixed.eq_str_int (Zek I q (by simp))
  | str j => obtain ⟨t', rfl⟩ := ry; exact eq_str (Zek I q ZlW)
  | _ => exact absurd (show false = true from hs) ZcX
 | byt i =>
  obtain ⟨t, rfl⟩ := rx
  cases y with
  | byt j => obtain ⟨t', rfl⟩ := ry; exact PySem.W.eq_bytes (Zek I q ZlX)
  | _ => exact absurd (show false = true from hs) ZcX
 | _ => cases y <;> exact absurd (show false = true from hs) ZcX
theorem Zlf : OpR X (compareOp .NotEq) rNe := by
 intro pins s σ H x y v u Q I rx ry h
 obtain ⟨hs, q⟩ := h
 cases x with
 | non =>
  cases rx
  cases y with
  | non => cases ry; exact PySem.EqNone.ne_none_none (Zek I q (by simp))
  | bl j => cases ry; exact PySem.EqNone.ne_none_bool (Zek I q (by simp))
  | int j => obtain ⟨t', rfl⟩ := ry; exact PySem.EqNone.ne_none_int (Zek I q (by simp))
  | str j => obtain ⟨t', rfl⟩ := ry; exact PySem.EqNone.ne_none_str (Zek I q (by simp))
  | _ => exact absurd (show false = true from hs) ZcX
 | bl i =>
  cases rx
  cases y with
  | non => cases ry; exact PySem.EqNone.ne_bool_none (Zek I q (by simp))
  | bl j => cases ry; exact ne_bool (Zek I q (congrArg not Zn5))
  | str j => obtain ⟨t', rfl⟩ := ry; exact PySem.EqMixed.ne_bool_str (Zek I q (by simp))
  | _ => exact absurd (show false = true from hs) ZcX
 | int i =>
  obtain ⟨t, rfl⟩ := rx
  cases y with
  | non => cases ry; exact PySem.EqNone.ne_int_none (Zek I q (by simp))
  | int j => obtain ⟨t', rfl⟩ := ry; exact ne_int (Zek I q (congrArg not ZlV))
  | str j => obtain ⟨t', rfl⟩ := ry; exact PySem.EqMixed.ne_int_str (Zek I q (by simp))
  | _ => exact absurd (show false = true from hs) ZcX
 | str i =>
  obtain ⟨t, rfl⟩ := rx
  cases y with
  | non => cases ry; exact PySem.EqNone.ne_str_none (Zek I q (by simp))
  | bl j => cases ry; exact PySem.EqMixed.ne_str_bool (Zek I q (by simp))
  | int j => obtain ⟨t', rfl⟩ := ry; exact PySem.EqMixed.ne_str_int (Zek I q (by simp))
  | str j => obtain ⟨t', rfl⟩ := ry; exact ne_str (Zek I q (congrArg not ZlW))
  | _ => exact absurd (show false = true from hs) ZcX
 | byt i =>
  obtain ⟨t, rfl⟩ := rx
  cases y with
  | byt j => obtain ⟨t', rfl⟩ := ry; exact PySem.W.ne_bytes (Zek I q (congrArg not ZlX))
  | _ => exact absurd (show false = true from hs) ZcX
 | _ => cases y <;> exact absurd (show false = true from hs) ZcX
theorem Zq8 : OpR X (compareOp .Lt) (rI0 fun i j => .bl (decide (i < j))) := opB0 fun _ _ _ _ _ _ _ q => lt_int q
theorem Zd3 (b : Expr) {op : CmpOp} (h : autoParam (op ≠ .In) L2.Internal.auD._auto_1) (h2 : autoParam (op ≠ .NotIn) L2.Internal.auD._auto_1) : behindInMarks op b = false := by
 have e1 : (op == CmpOp.In) = false := by cases op <;> first | rfl | exact absurd rfl h
 have e2 : (op == CmpOp.NotIn) = false := by cases op <;> first | rfl | exact absurd rfl h2
 cases b <;> simp [behindInMarks, e1, e2]
theorem ZlY {op : CmpOp} {r : R2} (ho : OpR X (compareOp op) r) (ha : PE X a ta) (hb : PE X b tb) (hm : behindInMarks op b = false) : PE X (.Compare a [op] [b] pos) (tOp r ta tb) := by
 intro pins s σ H Q I h
 exact wpAny_Compare1 (Zq6 ha hb I h fun v u s2 x y H2 I2 rx ry q => ho pins s2 σ H2 x y v u Q I2 rx ry q) hm
def Zq9 (t : TE) : TT := fun σ H Q => t σ H fun x H' => ∃ k, x = .bl k /\ Q k H'
theorem Zg1 {op : CmpOp} {r : R2} (ho : OpR X (compareOp op) r) (ha : PE X a ta) (hb : PE X b tb) (hm : behindInMarks op b = false) : PT X (.Compare a [op] [b] pos) (Zq9 (tOp r ta tb)) := by
 intro pins s σ H Q I h
 refine wpAny_isTrue_Compare1 (thn (ha pins s σ H _ I h) fun v s1 ⟨x, H1, I1, r1, q1⟩ => thn (hb pins s1 σ H1 _ I1 q1) fun u s2 ⟨y, H2, I2, r2, q2⟩ =>
  thn (ho pins s2 σ H2 x y v u _ I2 r1 r2 q2) fun c s3 ⟨z, H3, I3, r3, k, e, q3⟩ => ?_) hm
 subst e
 cases r3
 exact wpAny_truthy_bool ⟨H3, I3, q3⟩
theorem Zjj : (sizeLine : Nat) < 2 ^ 63 := by rw [sizeLine_eq]; decide
theorem Zlg : OpR X (binaryOp .Add) (fun x y H Q => ∃ i j, x = .str i /\ y = .str j /\ i.length + j.length <= sizeLine /\ Q (.str (i ++ j)) H) := by
 intro pins s σ H x y v u Q I rx ry h
 obtain ⟨i, j, rfl, rfl, hz, q⟩ := h
 obtain ⟨t, rfl⟩ := rx
 obtain ⟨t', rfl⟩ := ry
 exact add_str (fun t' tk => ⟨.str (i ++ j), H, I.tok _, ⟨_, rfl⟩, q⟩) hz
theorem Zg2 {x : V} {us : List Value} (r : Ze0 [x] us) : ∃ u, us = [u] /\ ZeL x u := by
 cases r with
 | cons r1 r2 => cases r2; exact ⟨_, rfl, r1⟩
theorem ZpZ {x y : V} {us : List Value} (r : Ze0 [x, y] us) : ∃ u w', us = [u, w'] /\ ZeL x u /\ ZeL y w' := by
 cases r with
 | cons r1 r2 =>
  cases r2 with
  | cons r3 r4 => cases r4; exact ⟨_, _, rfl, r1, r3⟩
theorem ZlZ : ZgK X (.type "int") (fun xs H Q => (∃ i, xs = [.int i] /\ Q (.int i) H) \/ ∃ k, xs = [.bl k] /\ Q (.int (if k then 1 else 0)) H) := by
 intro pins s σ H xs us Q I r h
 rcases h with ⟨i, rfl, q⟩ | ⟨k, rfl, q⟩
 ·obtain ⟨u, rfl, t, rfl⟩ := Zg2 r
  exact call_int_int ⟨.int i, H, I, ⟨_, rfl⟩, q⟩
 ·obtain ⟨u, rfl, r1⟩ := Zg2 r
  cases r1
  exact call_int_bool ⟨.int (if k then 1 else 0), H, I.tok _, ⟨_, rfl⟩, q⟩
end
end L2.Internal
namespace L2.Internal
open PySem PySem.Spec PyProof.Rows
structure ZoF (h : Heap) (x dx C : Addr) (mA : Str -> Option Value) : Prop where
 obj : h.get? x = some (Zcl C dx)
 ns : h.Ns1 dx mA
 ne : dx ≠ x
theorem Zl0 {h : Heap} {dx : Addr} {mA : Str -> Option Value} (n : h.Ns1 dx mA) : ∃ od, h.get? dx = some od /\ ∀ name, Zcn name od = some (mA name) := by
 obtain ⟨o, es, ep, ho, hd, hk, _, hm⟩ := n
 refine ⟨o, ho, fun name => ?_⟩
 have e := hm name
 unfold nsFind findBy at e
 rw [<- Array.find?_toList] at e
 unfold Zcn
 rw [hd]
 dsimp only
 split
 ·rename_i y q
  rw [q] at e
  exact congrArg some e
 ·rename_i q
  rw [q] at e
  have a : es.toList.any (·.refKey) = false := by
   rw [List.any_eq_false]
   intro y hy
   obtain ⟨z, t, hkey⟩ := hk y (Array.mem_toList_iff.mp hy)
   simp [DictEntry.refKey, hkey]
  have a' : ¬ es.toList.any (·.refKey) = true := by rw [a]; exact ZcX
  rw [if_neg a']
  exact congrArg some e
theorem ZoF.look {h : Heap} {x dx C : Addr} {mA : Str -> Option Value} (I : ZoF h x dx C mA) : ∃ od, PySem.W.InstAt h x (Zcl C dx) C (some od) /\ ∀ name, Zcn name od = some (mA name) :=
 let ⟨od, ho, hl⟩ := Zl0 I.ns
 ⟨od, ⟨I.obj, rfl, rfl, ho⟩, hl⟩
section
variable {prog : Program} {w : World} {A : Around} {E : Value -> Shared -> Prop} {s : Shared} {K : PySem.W.Frag} {x dx C f : Addr} {mA : Str -> Option Value} {name : Str} {v : Value}
theorem ZoG {expr : Bool} {Q : Value -> Shared -> Prop} (X : K.In s.heap) (I : ZoF s.heap x dx C mA) (hg : Zco K C name = true) (hh : Zcp K C = true)
  (ha : Zcq K (.ref C) name = some none) (hv : mA name = some v) (hv' : PySem.W.handedIn v = true) (h : Q v { s with toks := s.toks + 1 }) :
  wpAny (model prog w) A (getAttr (.ref x) name expr) Q E s := by
 obtain ⟨od, J, hl⟩ := I.look
 exact PySem.W.get_value X J (Zcr hg).1 (PySem.W.findObj_own hh ha rfl (by rw [hl, hv])) hv' h
theorem Znq {pl : Sem Bool} {Q : Value × List Value -> Shared -> Prop} (X : K.In s.heap) (I : ZoF s.heap x dx C mA) (hg : Zco K C name = true)
  (hf : Zcq K (.ref C) name = some (some (.ref f))) (ht : Zcs K (.ref f) = true) (hv : mA name = none) (h : Q (.ref f, [.ref x]) s) :
  wpAny (model prog w) A (getMethod (.ref x) name pl) Q E s := by
 obtain ⟨od, J, hl⟩ := I.look
 exact PySem.W.method_fn X J (Zcr hg).1 (Zcr hg).2 hf (beq_iff_eq.mp ht) (by show (Zcn name od).map (·.isSome) = some false; rw [hl, hv]; rfl) h
theorem ZoH {ns : List Str} {Q : Unit -> Shared -> Prop} (X : K.In s.heap) (I : ZoF s.heap x dx C mA)
  (hs : Zcq K (.ref C) "__setattr__" = some (some (.builtin "object.__setattr__"))) (hp : Zct K C = true) (ht : Zcu K C name = some none) (hh : Zcp K C = true)
  (hw : PySem.Within mA ns) (hsz : ns.length <= sizeLine)
  (h : ∀ h', ZoF h' x dx C (fun y => if y = name then some v else mA y) -> Heap.SameBut dx s.heap h' -> Q () { s with heap := h', toks := s.toks + 2 }) :
  wpAny (model prog w) A (setAttr (.ref x) name v) Q E s := by
 obtain ⟨od, J, hl⟩ := I.look
 refine PySem.W.set_plain X J hs (PySem.W.osa_open (s := { s with toks := s.toks + 1 }) (r := none) X J hp ht fun b => ?_)
 obtain ⟨cd, hc, hd'⟩ := PySem.W.any_some hh
 have hx : s.heap.get? x = some ⟨.ref C, some dx, .plain, #[]⟩ := I.obj
 refine wpAny_bind (wpAny_pure (wpAny_bind (wpAny_bind (wpAny_loadPart hx (wpAny_bind (PySem.W.Looks.here (s := { s with toks := s.toks + 1 }) (PySem.W.looks_clsIn X hc) ?_))))))
 rw [hd']
 refine wpAny_pure (a := some dx) (wpAny_bind (wpAny_pure (wpAny_bind ?_)))
 refine wpAny_nsSet1 (s := { s with toks := s.toks + 1 }) I.ns fun h' hn2 hs2 => ?_
 obtain ⟨oD, esD, epD, hoD, hdD, hcD⟩ := hn2.count (PySem.Within.cons name v hw)
 refine wpAny_bind (wpAny_lookBehind hoD (by rw [hdD]; exact pastItsLine_dict (ZbH hcD (by rw [Zao]; omega))) ?_)
 exact wpAny_pure (h _ ⟨(hs2.2 _ (Ne.symm I.ne)).trans I.obj, hn2, I.ne⟩ hs2)
theorem Znr {R : Result -> Shared -> Prop} {vs : List Value} {kw : List (Str × Value)} (X : K.In s.heap) (hm : Zcv K C = true)
  (hi : Zcq K (.ref C) "__init__" = some (some (.ref f))) (hf : PySem.W.typeIn K (.ref f) = some (.type "function"))
  (h : codeAny (model prog w) (A.under (.builtin "type.__call__" ⟨.ref C :: vs, kw⟩)) (.call (.ref f) ⟨.ref (s.heap.objs.size + 1) :: vs, kw⟩) (PySem.W.InitBack (s.heap.objs.size + 1) R)
   { s with heap := (s.heap.push Zcw).push (Zcl C s.heap.objs.size) }) :
  codeAny (model prog w) A (.call (.ref C) ⟨vs, kw⟩) R s := by
 obtain ⟨hh, g, d, t, os⟩ := s
 exact PySem.W.make_core (PySem.W.makes_of X hm) (PySem.W.looks_findIn X hi) (fun self => PySem.W.bind_fn X self hf) (.inl rfl) h
end
noncomputable def ZfQ (f : Str) (v : V) : List (Str × V) -> List (Str × V)
 | [] => [(f, v)]
 | (g, x) :: r => if g = f then (g, v) :: r else (g, x) :: ZfQ f v r
theorem Zhs (f g : Str) (v : V) : ∀ fs : List (Str × V), (ZfQ f v fs).lookup g = if g = f then some v else fs.lookup g
 | [] => by
  show Zap g [(f, v)] = _
  by_cases h : g = f
  ·have hb : (g == f) = true := beq_iff_eq.mpr h
   simp only [Zap, hb, if_pos h]
  ·have hb : (g == f) = false := beq_eq_false_iff_ne.mpr h
   simp only [Zap, hb, if_neg h]
 | (k, x) :: r => by
  have ih := Zhs f g v r
  rw [show ZfQ f v ((k, x) :: r) = (if k = f then (k, v) :: r else (k, x) :: ZfQ f v r) from rfl]
  by_cases hk : k = f
  ·rw [if_pos hk]
   by_cases h : g = k
   ·have hb : (g == k) = true := beq_iff_eq.mpr h
    simp only [Zap, hb, if_pos (h.trans hk)]
   ·have hb : (g == k) = false := beq_eq_false_iff_ne.mpr h
    simp only [Zap, hb, if_neg (fun e : g = f => h (e.trans hk.symm))]
  ·rw [if_neg hk]
   by_cases h : g = k
   ·have hb : (g == k) = true := beq_iff_eq.mpr h
    simp only [Zap, hb, if_neg (fun e : g = f => hk (h.symm.trans e))]
   ·have hb : (g == k) = false := beq_eq_false_iff_ne.mpr h
    simp only [Zap, hb]
    exact ih
theorem Zht (f : Str) (v : V) : ∀ fs : List (Str × V), f ∈ (ZfQ f v fs).map (·.1) /\ ∀ g, g ∈ fs.map (·.1) -> g ∈ (ZfQ f v fs).map (·.1)
 | [] => ⟨by simp [ZfQ], fun g h => by simp at h⟩
 | (k, x) :: r => by
  obtain ⟨i1, i2⟩ := Zht f v r
  rw [show ZfQ f v ((k, x) :: r) = (if k = f then (k, v) :: r else (k, x) :: ZfQ f v r) from rfl]
  by_cases hk : k = f
  ·rw [if_pos hk]
   subst hk
   exact ⟨by simp, fun g h => by simpa using h⟩
  ·rw [if_neg hk]
   refine ⟨?_, fun g h => ?_⟩
   ·rw [Zaq]
    exact Zaf _ i1
   ·rw [Zaq] at h ⊢
    rcases Zag.mp h with e | e
    ·exact Zag.mpr (.inl e)
    ·exact Zaf _ (i2 g e)
theorem ZgA (f : Str) (v : V) : ∀ fs : List (Str × V), (ZfQ f v fs).length <= fs.length + 1
 | [] => by simp [ZfQ]
 | (k, x) :: r => by
  have ih := ZgA f v r
  rw [show ZfQ f v ((k, x) :: r) = (if k = f then (k, v) :: r else (k, x) :: ZfQ f v r) from rfl]
  by_cases hk : k = f
  ·rw [if_pos hk, Zao, Zao]; omega
  ·rw [if_neg hk, Zao, Zao]; omega
theorem Zjc.some_of {v : V} {o : Option Value} (r : Zjc (some v) o) : ∃ u, o = some u /\ ZeL v u := by
 cases o with
 | none => exact (show False from r).elim
 | some u => exact ⟨u, rfl, r⟩
theorem Zjc.none_of {o : Option Value} (r : Zjc none o) : o = none := by
 cases o with
 | none => rfl
 | some u => exact (show False from r).elim
theorem Zl1 {v : V} {u : Value} (r : ZeL v u) : PySem.W.handedIn u = true := by
 cases v with
 | non => cases (show u = Value.none from r); rfl
 | bl b => cases (show u = Value.bool b from r); rfl
 | int i => obtain ⟨t, e⟩ := (show ∃ t, u = Value.int i t from r); cases e; rfl
 | str x => obtain ⟨t, e⟩ := (show ∃ t, u = Value.str x t from r); cases e; rfl
 | byt b => obtain ⟨t, e⟩ := (show ∃ t, u = Value.bytes b t from r); cases e; rfl
 | flt b => obtain ⟨t, e⟩ := (show ∃ t, u = Value.float b t from r); cases e; rfl
 | ref a => cases (show u = Value.ref a from r); rfl
 | ty n => cases (show u = Value.type n from r); rfl
section
variable {P : Program} {w : World} {H H' : Hp} {h h' : Heap} {a C dx : Addr} {fs fs' : List (Str × V)}
theorem Zin (hok : HOk P w H h) (e : H a = some (.ins C dx fs)) : ∃ mA, ZoF h a dx C mA /\ (∀ f, Zjc (fs.lookup f) (mA f)) /\ PySem.Within mA (fs.map (·.1)) /\ fs.length <= 1000 /\ H dx = some (.own a) := by
 obtain ⟨d, z, ne, ob, mA, n, r, q⟩ := (show Ze4 P w H h a (.ins C dx fs) from hok a _ e)
 exact ⟨mA, ⟨ob, n, ne⟩, r, q, z, d⟩
end
structure Cls (K : PySem.W.Frag) (C : Addr) : Prop where
 pg : Zco K C Str.empty = true
 hd : Zcp K C = true
 po : Zct K C = true
 sa : Zcq K (.ref C) "__setattr__" = some (some (.builtin "object.__setattr__"))
theorem Cls.get {K : PySem.W.Frag} {C : Addr} (c : Cls K C) (f : Str) : Zco K C f = true := c.pg
def ZdP (K : PySem.W.Frag) (C : Addr) (f : Str) : Prop := Zcq K (.ref C) f = some none
theorem ZdP.taker {K : PySem.W.Frag} {C : Addr} {f : Str} (n : ZdP K C f) : Zcu K C f = some none := by
 unfold Zcu
 rw [show Zcq K (.ref C) f = some none from n]
 rfl
structure Zjk (K : PySem.W.Frag) (C : Addr) (m : Str) (f : Addr) : Prop where
 at_ : Zcq K (.ref C) m = some (some (.ref f))
 fn : Zcs K (.ref f) = true
 kp : Zcx K (.ref f) = true
section
variable {X : Cx} {pins : List (Addr × Obj)} {σ : St} {H : Hp} {s : Shared} {a C dx : Addr} {fs : List (Str × V)} {f : Str} {v : V} {A : Around} {E : Value -> Shared -> Prop}
theorem Zlh {b : Bool} {Q : Value -> Shared -> Prop} (I : Inv X pins σ H s) (e : H a = some (.ins C dx fs)) (c : Cls X.K C) (n : ZdP X.K C f) (l : fs.lookup f = some v)
  (h : ∀ u s', Inv X pins σ H s' -> ZeL v u -> Q u s') : wpAny (model X.prog X.w) A (getAttr (.ref a) f b) Q E s := by
 obtain ⟨mA, O, r, _, _, _⟩ := Zin I.hok e
 obtain ⟨u, hu, ru⟩ := Zjc.some_of (v := v) (o := mA f) (by rw [<- l]; exact r f)
 exact ZoG I.kIn O (c.get f) c.hd n hu (Zl1 ru) (h u _ (I.tok _) ru)
theorem Zli {m : Str} {g : Addr} {pl : Sem Bool} {Q : Value × List Value -> Shared -> Prop} (I : Inv X pins σ H s) (e : H a = some (.ins C dx fs)) (c : Cls X.K C) (k : Zjk X.K C m g) (l : fs.lookup m = none)
  (h : Q (.ref g, [.ref a]) s) : wpAny (model X.prog X.w) A (getMethod (.ref a) m pl) Q E s := by
 obtain ⟨mA, O, r, _, _, _⟩ := Zin I.hok e
 have hn : mA m = none := Zjc.none_of (by rw [<- l]; exact r m)
 exact Znq I.kIn O (c.get m) k.at_ k.fn hn h
theorem Zlj {y : V} {u : Value} {Q : Unit -> Shared -> Prop} (I : Inv X pins σ H s) (e : H a = some (.ins C dx fs)) (c : Cls X.K C) (n : ZdP X.K C f) (hl : fs.length < 1000) (ry : ZeL y u)
  (h : ∀ s', Inv X pins σ (upd H a (.ins C dx (ZfQ f y fs))) s' -> Q () s') : wpAny (model X.prog X.w) A (setAttr (.ref a) f u) Q E s := by
 obtain ⟨mA, O, r, wi, _, ho⟩ := Zin I.hok e
 have hz : (fs.map (·.1)).length <= sizeLine := by rw [Zar, sizeLine_eq]; omega
 refine ZoH I.kIn O c.sa c.po n.taker c.hd wi hz fun h' O' sb => h _ ?_
 have hd : ∃ o, h'.get? dx = some o := let ⟨o, _, _, e', _⟩ := O'.ns; ⟨o, e'⟩
 refine I.write (x := a) (e := dx) (by rw [e]; exact True.intro) (.inr ho) (fun b q hb z => (sb.2 b hb).trans z) hd ?_
 refine ⟨by rw [ZdA O.ne]; exact ho, ?_, O.ne, O'.obj, _, O'.ns, fun g => ?_, fun g hg => ?_⟩
 ·have := ZgA f y fs; omega
 ·show Zjc ((ZfQ f y fs).lookup g) (if g = f then some u else mA g)
  rw [Zhs]
  by_cases q : g = f
  ·rw [if_pos q, if_pos q]; exact ry
  ·rw [if_neg q, if_neg q]; exact r g
 ·by_cases q : g = f
  ·rw [q]; exact (Zht f y fs).1
  ·refine (Zht f y fs).2 g (wi g fun z => hg ?_)
   show (if g = f then some u else mA g) = none
   rw [if_neg q]; exact z
theorem Inv.made (I : Inv X pins σ H s) : Inv X pins σ (upd (upd H s.heap.objs.size (.own (s.heap.objs.size + 1))) (s.heap.objs.size + 1) (.ins C s.heap.objs.size []))
  { s with heap := (s.heap.push Zcw).push (Zcl C s.heap.objs.size) } := by
 have e1 : (s.heap.push Zcw).get? s.heap.objs.size = some Zcw := Zdl s.heap rfl
 have e2 : ((s.heap.push Zcw).push (Zcl C s.heap.objs.size)).get? (s.heap.objs.size + 1) = some (Zcl C s.heap.objs.size) := by
  have := Zdl (s.heap.push Zcw) (o := Zcl C s.heap.objs.size) rfl
  rwa [Zdn] at this
 have e3 : (s.heap.push Zcw).Ns s.heap.objs.size (fun _ => none) := ⟨Zcw, #[], _, e1, rfl, (fun e he => absurd he (by simp)), fun _ => rfl⟩
 have I1 := I.laid (a := s.heap.objs.size) (o := .own (s.heap.objs.size + 1)) (h' := s.heap.push Zcw) (t' := s.toks) (fun b u q => Zdm _ q) (ZbK _) ⟨_, e1⟩
 refine I1.laid (a := s.heap.objs.size + 1) (o := .ins C s.heap.objs.size []) (t' := s.toks) (fun b u q => Zdm _ q) (ZbM (Zdn _ _)) ?_
 have ne : s.heap.objs.size ≠ s.heap.objs.size + 1 := ZbG (ZbN _)
 refine ⟨by rw [ZdA ne, Zdt], ZbL _, ne, e2, fun _ => none, (Heap.Ns1.of_empty e3).at fun o q => Zdm _ q, fun _ => True.intro, fun y hy => absurd rfl hy⟩
theorem ZoI {prog : Program} {w : World} {env : Env} {e : Expr} {f : Str} {pos : Pos} {s : Shared} {Q : Value -> Shared -> Prop} (hb : attributeBase e f env (eval e env) = eval e env)
  (h : wpAny (model prog w) A (eval e env) (fun o s₁ => wpAny (model prog w) A (getAttr o f true) Q E s₁) E s) : wpAny (model prog w) A (eval (.Attribute e f pos) env) Q E s :=
 Attribute_any_ h (by rw [arm_eval_Attribute, hb])
end
def tFld (K : PySem.W.Frag) (ta : TE) (f : Str) : TE := fun σ H Q => ta σ H fun x H1 => ∃ a C dx fs v, x = .ref a /\ H1 a = some (.ins C dx fs) /\ Cls K C /\ ZdP K C f /\ fs.lookup f = some v /\ Q v H1
noncomputable def ZrT (K : PySem.W.Frag) (ta tv : TE) (f : Str) : TS.Internal := fun D σ H => tv σ H fun y H1 => ta σ H1 fun x H2 => ∃ a C dx fs, x = .ref a /\ H2 a = some (.ins C dx fs) /\ Cls K C /\ ZdP K C f /\ fs.length < 1000 /\
 D.nx σ (upd H2 a (.ins C dx (ZfQ f y fs)))
section
variable {X : Cx} {o e value : Expr} {f : Str} {pos pos' tpos : Pos} {ta tv : TE}
theorem Zex (he : PE X e ta) (hb : attributeBase e f X.env (eval e X.env) = eval e X.env) : PE X (.Attribute e f pos) (tFld X.K ta f) := by
 intro pins s σ H Q I h
 refine ZoI hb (thn (he pins s σ H _ I h) fun u s1 ⟨x, H1, I1, rx, a, C, dx, fs, v, ex, ea, c, n, l, q⟩ => ?_)
 subst ex
 obtain rfl : u = Value.ref a := rx
 exact Zlh I1 ea c n l fun u' s2 I2 ru => ⟨v, H1, I2, ru, q⟩
theorem ZeA (ha : PE X o ta) (hv : PE X value tv) (hs : swapsWith value (some (.Attribute o f pos')) pos.line X.env = pure false) : PS X (.Assign [.Attribute o f pos'] value pos) (ZrT X.K ta tv f) := by
 intro pins s σ H D I h
 refine plainObj_wpAny_Assign_Attribute (thn (hv pins s σ H _ I h) fun u s1 ⟨y, H1, I1, ry, q⟩ => thn (ha pins s1 σ H1 _ I1 q) fun ov s2 ⟨x, H2, I2, rx, a, C, dx, fs, ex, ea, c, n, l, q2⟩ => ?_) hs
 subst ex
 obtain rfl : ov = Value.ref a := rx
 exact Zlj I2 ea c n l ry fun s3 I3 => ⟨σ, _, I3, q2⟩
end
section
variable {X : Cx} {pins : List (Addr × Obj)} {σ : St} {H : Hp} {s : Shared} {A : Around} {E : Value -> Shared -> Prop} {Q : Value -> Shared -> Prop} {c : Value} {b : Bool}
inductive Zhu (K : PySem.W.Frag) (H : Hp) : V -> Value -> Prop where
 | non : Zhu K H .non (.type "NoneType")
 | bl (x : Bool) : Zhu K H (.bl x) (.type "bool")
 | int (i : Int) : Zhu K H (.int i) (.type "int")
 | str (x : Str) : Zhu K H (.str x) (.type "str")
 | flt (x : UInt64) : Zhu K H (.flt x) (.type "float")
 | lst {a : Addr} {xs : List V} (e : H a = some (.lst xs)) : Zhu K H (.ref a) (.type "list")
 | frz {a : Addr} {o : Obj} {xs : List V} (e : H a = some (.frz o (.lst xs))) : Zhu K H (.ref a) (.type "list")
 | tup {a : Addr} {xs : List V} (e : H a = some (.tup xs)) : Zhu K H (.ref a) (.type "tuple")
 | dK {a : Addr} {kvs : List (Key × V)} (e : H a = some (.dK kvs)) : Zhu K H (.ref a) (.type "dict")
 | dT {a : Addr} {kvs : List (List Key × V)} (e : H a = some (.dT kvs)) : Zhu K H (.ref a) (.type "dict")
 | ins {a C dx : Addr} {fs : List (Str × V)} (e : H a = some (.ins C dx fs)) (cl : Cls K C) (ha : Zcq K (.ref C) "__class__" = some (some (.builtin "object.__class__")))
   (hn : Zcy K (.builtin "object.__class__") "__get__" = some (some (.builtin "getset_descriptor.__get__"))) (htk : Zcz K (.builtin "object.__class__") = some true)
   (hm : ZcA K C (.type "object") = some true) : Zhu K H (.ref a) (.ref C)
theorem Zl2 {x : V} {u t : Value} (I : Inv X pins σ H s) (rx : ZeL x u) (ty : Zhu X.K H x t) (e : PySem.W.kitOne X.K t c = some b) (h : ∀ tk, Q (.bool b) { s with toks := tk }) :
  wpAny (model X.prog X.w) A (call (.builtin "isinstance") [u, c]) Q E s := by
 cases ty with
 | non => cases (show u = Value.none from rx); exact ZcB PySem.W.kitx_none I.kIn True.intro e (fun z => nomatch z) h
 | bl y => cases (show u = Value.bool y from rx); exact ZcB PySem.W.kitx_bool I.kIn True.intro e (fun z => nomatch z) h
 | int i => obtain ⟨t, q⟩ := (show ∃ t, u = Value.int i t from rx); cases q; exact ZcB PySem.W.kitx_int I.kIn True.intro e (fun z => nomatch z) h
 | str y => obtain ⟨t, q⟩ := (show ∃ t, u = Value.str y t from rx); cases q; exact ZcB PySem.W.kitx_str I.kIn True.intro e (fun z => nomatch z) h
 | flt y => obtain ⟨t, q⟩ := (show ∃ t, u = Value.float y t from rx); cases q; exact ZcB PySem.W.kitx_float I.kIn True.intro e (fun z => nomatch z) h
 | @lst a xs ea =>
  cases (show u = Value.ref a from rx)
  obtain ⟨_, _, n, _, h1⟩ := (show Ze4 X.prog X.w H s.heap a (.lst xs) from I.hok a _ ea)
  exact ZcB ZcC I.kIn ⟨_, h1, rfl⟩ e (fun z => nomatch z) h
 | @frz a ob xs ea =>
  cases (show u = Value.ref a from rx)
  obtain ⟨_, _, _, n, _, h1⟩ := (show Ze4 X.prog X.w H s.heap a (.frz ob (.lst xs)) from I.hok a _ ea)
  exact ZcB ZcC I.kIn ⟨_, h1, rfl⟩ e (fun z => nomatch z) h
 | @tup a xs ea =>
  cases (show u = Value.ref a from rx)
  obtain ⟨_, _, _, p⟩ := (show Ze4 X.prog X.w H s.heap a (.tup xs) from I.hok a _ ea)
  obtain ⟨o, h1, h2, _⟩ := p
  exact ZcB PySem.W.kitx_tuple I.kIn ⟨o, h1, h2⟩ e (fun z => nomatch z) h
 | @dK a kvs ea =>
  cases (show u = Value.ref a from rx)
  obtain ⟨_, _, vs, _, p⟩ := (show Ze4 X.prog X.w H s.heap a (.dK kvs) from I.hok a _ ea)
  obtain ⟨o, es, ep, h1, h2, _⟩ := p
  exact ZcB ZcD I.kIn ⟨o, h1, h2.1⟩ e (fun z => nomatch z) h
 | @dT a kvs ea =>
  cases (show u = Value.ref a from rx)
  obtain ⟨_, _, xs, _, o, es, ep, h1, h2, _⟩ := (show Ze4 X.prog X.w H s.heap a (.dT kvs) from I.hok a _ ea)
  exact ZcB ZcD I.kIn ⟨o, h1, h2.1⟩ e (fun z => nomatch z) h
 | @ins a C dx fs ea cl ha hn htk hm =>
  cases (show u = Value.ref a from rx)
  obtain ⟨mA, O, _⟩ := Zin I.hok ea
  obtain ⟨od, J, _⟩ := O.look
  exact ZcB (PySem.W.kitx_own (cl.get _) cl.hd ha hn htk hm) I.kIn J e (fun z => nomatch z) h
end
end L2.Internal
namespace L2.Internal
open PySem PySem.Spec PyProof.Rows
structure Zg0 (k : Nat) (A : Around) : Prop where
 hd : A.handled = none
 dp : A.depth + 3 * k + 5 < recursionLimit
 un : A.units + 16 * k + 200 < cLine
theorem Zg0.mono {j k : Nat} {A : Around} (r : Zg0 k A) (h : j <= k) : Zg0 j A := ⟨r.hd, by have := r.dp; omega, by have := r.un; omega⟩
theorem Zg0.deeper {k : Nat} {A : Around} (r : Zg0 (k + 1) A) (env : Env) : Zg0 k (A.deeper env) :=
 ⟨r.hd, by have := r.dp; show A.depth + 1 + 3 * k + 5 < _; omega, by have := r.un; show A.units + 3 + 16 * k + 200 < _; omega⟩
theorem Zlk {A : Around} {C : Addr} {us : List Value} {kw : List (Str × Value)} : (A.under (.builtin "type.__call__" ⟨.ref C :: us, kw⟩)).depth = A.depth + 1 := by
 first | rfl | simp [Around.under, Code.weight, Code.isCreation, Code.isGuard, Code.isCaller, Code.frames, Code.isFrame, guardIds]
theorem Zll {A : Around} {C : Addr} {us : List Value} {kw : List (Str × Value)} : (A.under (.builtin "type.__call__" ⟨.ref C :: us, kw⟩)).units = A.units + 1 := by
 first | rfl | simp [Around.under, Code.cUnits, Code.frames, Code.isFrame]
theorem Zg0.make {k : Nat} {A : Around} (r : Zg0 (k + 1) A) (C : Addr) (us : List Value) (kw : List (Str × Value)) : Zg0 k (A.under (.builtin "type.__call__" ⟨.ref C :: us, kw⟩)) :=
 ⟨r.hd, by have := r.dp; rw [Zlk]; omega, by have := r.un; rw [Zll]; omega⟩
theorem Zg0.depth {k : Nat} {A : Around} (r : Zg0 k A) : A.depth < recursionLimit := by have := r.dp; omega
theorem Zg0.units {k : Nat} {A : Around} (r : Zg0 k A) : A.units + 64 < cLine := by have := r.un; omega
def ZpG : TA := fun _ H Q => Q [] H
def Zhg (ta : TE) (tr : TA) : TA := fun σ H Q => ta σ H fun x H1 => tr σ H1 fun xs H2 => Q (x :: xs) H2
section
variable {X : Cx} {e : Expr} {es : List Expr} {te : TE} {t : TA} {pos : Pos}
theorem Zdu : PA X [] ZpG := fun _ _ _ _ H Q I h => Calls.spliced_nil ⟨[], H, I, .nil, h⟩
theorem Zds (ha : PE X e te) (hr : PA X es t) (hs : autoParam (starEach (e :: es) X.env = (false, eval e X.env) :: starEach es X.env) L2.Internal.auR._auto_1) : PA X (e :: es) (Zhg te t) := by
 intro pos pins s σ H Q I h
 rw [hs]
 show wpAny _ _ (spliced ((false, eval e X.env) :: backTo pos (starEach es X.env))) _ _ s
 refine Calls.spliced_cons (thn (ha pins s σ H _ I h) fun u s1 ⟨x, H1, I1, r1, q1⟩ => ?_)
 exact thn (hr pos pins s1 σ H1 _ I1 q1) fun us s2 ⟨xs, H2, I2, r2, q2⟩ => ⟨x :: xs, H2, I2, .cons r1 r2, q2⟩
def ZrU (t : TA) : TE := fun σ H Q => t σ H fun xs H1 => xs.length <= sizeLine /\ ∀ p, H1 p = none -> Q (.ref p) (upd H1 p (.tup xs))
def tLst (t : TA) : TE := fun σ H Q => t σ H fun xs H1 => xs.length <= sizeLine /\ ∀ p, H1 p = none -> Q (.ref p) (upd H1 p (.lst xs))
theorem Zel {x1} (h : PA X es t) : PE X (.Tuple es x1 pos) (ZrU t) := by
 intro pins s σ H Q I hq
 refine wpAny_Tuple_spliced (thn (h pos pins s σ H _ I hq) fun us s1 ⟨xs, H1, I1, r, z, q⟩ => ⟨by rw [<- r.length]; exact z, ?_⟩)
 have hf : H1 s1.heap.objs.size = none := I1.hok.fresh (ZbK _)
 refine ⟨.ref s1.heap.objs.size, upd H1 s1.heap.objs.size (.tup xs), I1.laid (t' := s1.toks) (fun b u e => Zdm _ e) (ZbK _) ?_, rfl, q _ hf⟩
 exact ⟨z, us, r, ⟨_, Zdl _ rfl, rfl, _, rfl, rfl⟩⟩
theorem Zem (h : PA X es t) : PE X (.List es pos) (tLst t) := by
 intro pins s σ H Q I hq
 refine wpAny_List_spliced (thn (h pos pins s σ H _ I hq) fun us s1 ⟨xs, H1, I1, r, z, q⟩ => ⟨by rw [<- r.length]; exact z, ?_⟩)
 have hf : H1 s1.heap.objs.size = none := I1.hok.fresh (ZbK _)
 refine ⟨.ref s1.heap.objs.size, upd H1 s1.heap.objs.size (.lst xs), I1.laid (t' := s1.toks) (fun b u e => Zdm _ e) (ZbK _) ?_, rfl, q _ hf⟩
 exact ⟨z, us, 0, r, Zdl _ rfl⟩
end
noncomputable abbrev Sp := List V -> Hp -> VK -> XK -> Prop
noncomputable abbrev CXT := List Env -> Hp -> Shared -> XK -> Value -> Shared -> Prop
structure ZoJ (P : Program) (w : World) (K : PySem.W.Frag) (mg : Str -> Option Value) (base : Heap) (A : Around) (outer : List Env) (s : Shared) (H : Hp) : Prop where
 frames : A.frames = some outer
 mod : Mod K mg base
 bs : ∀ b o, base.get? b = some o -> s.heap.get? b = some o /\ H b = none
 bsz : base.objs.size <= s.heap.objs.size
 funs : s.heap.FunFrames base outer
 frf : ∀ b ∈ frs outer, H b = none
 hok : HOk P w H s.heap
 bare : AllBare s.gens
def CE (outer : List Env) (P : Program) (w : World) (H : Hp) (s : Shared) (Q : VK) (u : Value) (s' : Shared) : Prop :=
 ∃ v H', s'.os = s.os /\ AllBare s'.gens /\ Un (frs outer) [] H H' s.heap s'.heap /\ HOk P w H' s'.heap /\ ZeL v u /\ Q v H'
def CR (CX : CXT) (outer : List Env) (P : Program) (w : World) (H : Hp) (s : Shared) (Q : VK) (E : XK) (r : Result) (s' : Shared) : Prop :=
 match r with
 | .ok (.ret u) => CE outer P w H s Q u s'
 | .ok _ => False
 | .error e => CX outer H s E e s'
structure Zfi (P : Program) (w : World) (K : PySem.W.Frag) (mg : Str -> Option Value) (base : Heap) (CX : CXT) (k : Nat) (f : Addr) (fd : FuncData) (ps : List Str) (sp : Sp) : Prop where
 len : ∀ vs H Q E, sp vs H Q E -> vs.length = ps.length
 run : ∀ (A : Around) (outer : List Env) (s : Shared) (H : Hp) (args : Args) (us : List Value) (vs : List V) (Q : VK) (E : XK), Zg0 k A -> ZoJ P w K mg base A outer s H -> BindsTo s fd args (ps.zip us) -> Ze0 vs us -> sp vs H Q E ->
  codeAny (model P w) A (.call (.ref f) args) (CR CX outer P w H s Q E) s
theorem ZoJ.make {P : Program} {w : World} {K : PySem.W.Frag} {mg : Str -> Option Value} {base : Heap} {A : Around} {outer : List Env} {s : Shared} {H : Hp} (e : ZoJ P w K mg base A outer s H) (C : Addr) (us : List Value) (kw : List (Str × Value)) :
  ZoJ P w K mg base (A.under (.builtin "type.__call__" ⟨.ref C :: us, kw⟩)) outer s H := ⟨by first | exact e.frames | (simpa [Around.under, Code.envs, Code.isFrame, pushEnvs] using e.frames), e.mod, e.bs, e.bsz, e.funs, e.frf, e.hok, e.bare⟩
section
variable {X : Cx} {pins : List (Addr × Obj)} {σ : St} {H : Hp} {s s' : Shared}
theorem Inv.env0 (I : Inv X pins σ H s) : ZoJ X.prog X.w X.K X.mg X.base X.A X.stack s H :=
 ⟨I.ok.frames, I.ok.mod, I.bs, ZbH I.ok.bsz I.sz, I.stack, I.stkFree, I.hok, I.bare⟩
theorem Inv.after {Q : VK} {u : Value} (I : Inv X pins σ H s) (h : CE X.stack X.prog X.w H s Q u s') : EP X pins σ Q u s' := by
 obtain ⟨v, H', os, bare, un, hok, r, q⟩ := h
 obtain ⟨hh, g, d, t, os'⟩ := s'
 obtain rfl : os' = s.os := os
 exact ⟨v, H', I.call (h' := hh) (g' := g) (d' := d) (t' := t) (ch := []) un hok bare (fun b z => absurd z (by simp)), r, q⟩
end
def Zl3 (sp : Sp) (dvs : List V) (E : XK) (t : TA) : TE := fun σ H Q => t σ H fun vs H1 => sp (vs ++ dvs) H1 Q E
def Zp0 (C : Addr) (m : Str) (sp : Sp) (dvs : List V) (E : XK) (ta : TE) (t : TA) : TE := fun σ H Q => ta σ H fun x H1 => ∃ a dx fs, x = .ref a /\ H1 a = some (.ins C dx fs) /\ fs.lookup m = none /\
 t σ H1 fun vs H2 => sp (x :: (vs ++ dvs)) H2 Q E
def Zp1 (C : Addr) (sp : Sp) (dvs : List V) (E : XK) (t : TA) : TE := fun σ H Q => t σ H fun vs H1 => ∀ x dx, H1 x = none -> H1 dx = none -> dx ≠ x ->
 sp (.ref x :: (vs ++ dvs)) (upd (upd H1 dx (.own x)) x (.ins C dx [])) (fun v H2 => v = .non /\ Q (.ref x) H2) E
def Zd8 (K : PySem.W.Frag) (fd : FuncData) (ps : List Str) (ds : List Value) : Prop :=
 ∀ (s : Shared) (us : List Value), K.In s.heap -> (us ++ ds).length = ps.length -> BindsTo s fd ⟨us, []⟩ (ps.zip (us ++ ds))
theorem Zd8.all {K : PySem.W.Frag} {fd : FuncData} {ps : List Str} (h : ∀ us : List Value, us.length = ps.length -> bindArgs fd ⟨us, []⟩ = pure (ps.zip us)) : Zd8 K fd ps [] := fun s us _ hl => by
 rw [Zas] at hl ⊢
 exact .of_eq (h us hl)
def Zhb (CX : CXT) (X : Cx) (E : XK) : Prop := ∀ (pins : List (Addr × Obj)) (σ : St) (H : Hp) (s : Shared) (e : Value) (s' : Shared), Inv X pins σ H s -> CX X.stack H s E e s' -> X.xe e s'
section
variable {X : Cx} {CX : CXT} {k : Nat} {f C : Addr} {fd : FuncData} {ps : List Str} {sp : Sp} {dvs : List V} {ds : List Value} {E : XK} {x m : Str} {p pos apos : Pos} {e o : Expr} {es : List Expr} {ta : TE} {t : TA}
theorem Zl4 {pins : List (Addr × Obj)} {σ : St} {H : Hp} {s : Shared} {Q : VK} {us : List Value} {vs : List V} (F : Zfi X.prog X.w X.K X.mg X.base CX k f fd ps sp) (hr : Zg0 k X.A) (hb : Zd8 X.K fd ps ds) (hd : Ze0 dvs ds) (hx : Zhb CX X E)
  (I : Inv X pins σ H s) (r : Ze0 vs us) (h : sp (vs ++ dvs) H Q E) : wpAny (model X.prog X.w) X.A (call (.ref f) us) (EP X pins σ Q) X.xe s := by
 have r2 : Ze0 (vs ++ dvs) (us ++ ds) := r.append hd
 have hl : (us ++ ds).length = ps.length := by rw [<- r2.length]; exact F.len _ _ _ _ h
 refine wpAny_call (codeAny_mono (F.run X.A X.stack s H ⟨us, []⟩ (us ++ ds) (vs ++ dvs) Q E hr I.env0 (hb s us I.kIn hl) r2 h) fun r s' hq => ?_)
 cases r with
 | error e => exact hx pins σ H s e s' I hq
 | ok fl =>
  cases fl with
  | ret u => exact I.after hq
  | next => exact False.elim hq
  | brk => exact False.elim hq
  | cont => exact False.elim hq
theorem ZdM (F : Zfi X.prog X.w X.K X.mg X.base CX k f fd ps sp) (hr : Zg0 k X.A) (hg : Gl X x) (hm : X.mg x = some (.ref f)) (hk : Zcx X.K (.ref f) = true) (hb : Zd8 X.K fd ps ds) (hd : Ze0 dvs ds) (hx : Zhb CX X E)
  (ha : PA X (e :: es) t) (hdb : autoParam ((x == ("__debug__" : Str)) = false) L2.Internal.auD._auto_1) (he : autoParam (starEach (e :: es) X.env = (false, eval e X.env) :: starEach es X.env) L2.Internal.auR._auto_1) (hpl : autoParam ((backTo pos (starEach es X.env)).any (·.1) = false) L2.Internal.auR._auto_1) :
  PE X (.Call (.Name x p) (e :: es) [] pos) (Zl3 sp dvs E t) := by
 intro pins s σ H Q I h
 refine wpAny_Call_Name_kw (Zil I hg hm ?_ hdb)
 refine ZcE (h₀ := X.base) I.ok.mod.kin hk (thn (ha pos pins s σ H _ I h) fun us s1 ⟨vs, H1, I1, r, q⟩ => ⟨I1.kIn, ?_⟩) he hpl
 exact Zl4 F hr hb hd hx I1 r q
theorem ZeD {pl : Sem Bool} (he : PE X o ta) (c : Cls X.K C) (hm : Zjk X.K C m f) (F : Zfi X.prog X.w X.K X.mg X.base CX k f fd ps sp) (hr : Zg0 k X.A) (hb : Zd8 X.K fd ps ds) (hd : Ze0 dvs ds) (hx : Zhb CX X E) (ha : PA X (e :: es) t)
  (hst : autoParam (starEach (e :: es) X.env = (false, eval e X.env) :: starEach es X.env) L2.Internal.auR._auto_1) (hpl : autoParam ((backTo pos (starEach es X.env)).any (·.1) = false) L2.Internal.auR._auto_1)
  (ht : eval (.Call (.Attribute o m apos) (e :: es) [] pos) X.env = (do
   let ov <- eval o X.env
   standAt apos.atName
   let (f, first) <- holding [ov] (getMethod ov m pl)
   callWith pos f first (backTo pos (starEach (e :: es) X.env)) (backToKw pos (keywordEach [] X.env))) := by rfl) :
  PE X (.Call (.Attribute o m apos) (e :: es) [] pos) (Zp0 C m sp dvs E ta t) := by
 intro pins s σ H Q I h
 refine ZcF (pl := pl) (thn (he pins s σ H _ I h) fun u s1 ⟨x, H1, I1, rx, a, dx, fs, ex, ea, l, q⟩ => ?_) ht
 subst ex
 obtain rfl : u = Value.ref a := rx
 refine Zli I1 ea c hm l ?_
 refine ZcE (first := [.ref a]) (h₀ := X.base) I.ok.mod.kin hm.kp (thn (ha pos pins s1 σ H1 _ I1 q) fun us s2 ⟨vs, H2, I2, r, q2⟩ => ⟨I2.kIn, ?_⟩) hst hpl
 exact Zl4 (us := .ref a :: us) (vs := .ref a :: vs) F hr hb hd hx I2 (.cons rfl r) q2
structure Mk (K : PySem.W.Frag) (C f : Addr) : Prop where
 makes : Zcv K C = true
 init : Zcq K (.ref C) "__init__" = some (some (.ref f))
 fn : Zcs K (.ref f) = true
 kp : Zcx K (.ref C) = true
theorem ZkD {pins : List (Addr × Obj)} {σ : St} {H : Hp} {s : Shared} {Q : VK} {us : List Value} {vs : List V} (M : Mk X.K C f) (F : Zfi X.prog X.w X.K X.mg X.base CX k f fd ps sp) (hr : Zg0 (k + 1) X.A) (hb : Zd8 X.K fd ps ds) (hd : Ze0 dvs ds)
  (hx : Zhb CX X E) (I : Inv X pins σ H s) (r : Ze0 vs us)
  (h : ∀ x dx, H x = none -> H dx = none -> dx ≠ x -> sp (.ref x :: (vs ++ dvs)) (upd (upd H dx (.own x)) x (.ins C dx [])) (fun v H2 => v = .non /\ Q (.ref x) H2) E) :
  wpAny (model X.prog X.w) X.A (call (.ref C) us) (EP X pins σ Q) X.xe s := by
 have hq := h (s.heap.objs.size + 1) s.heap.objs.size (I.hok.fresh (Nat.le_succ _)) (I.hok.fresh (ZbK _)) (ZbG (ZbN _))
 have I2 := Inv.made (C := C) I
 have r2 : Ze0 (V.ref (s.heap.objs.size + 1) :: (vs ++ dvs)) (Value.ref (s.heap.objs.size + 1) :: (us ++ ds)) := .cons rfl (r.append hd)
 have hl : (Value.ref (s.heap.objs.size + 1) :: us ++ ds).length = ps.length := by
  have e := r2.length
  rw [F.len _ _ _ _ hq] at e
  exact e.symm
 refine wpAny_call (Znr (f := f) I.kIn M.makes M.init (beq_iff_eq.mp M.fn) (codeAny_mono (F.run _ X.stack _ _ ⟨Value.ref (s.heap.objs.size + 1) :: us, []⟩ (Value.ref (s.heap.objs.size + 1) :: (us ++ ds)) _ _ E (hr.make C us [])
  (I2.env0.make C us []) (hb _ (Value.ref (s.heap.objs.size + 1) :: us) I2.kIn hl) r2 hq) fun r s' hq' => ?_))
 cases r with
 | error e => exact hx pins σ _ _ e s' I2 hq'
 | ok fl =>
  cases fl with
  | ret u =>
   obtain ⟨v, H', I3, rv, ev, q3⟩ := I2.after hq'
   subst ev
   exact ⟨rv, ⟨V.ref (s.heap.objs.size + 1), H', I3, rfl, q3⟩⟩
  | next => exact False.elim hq'
  | brk => exact False.elim hq'
  | cont => exact False.elim hq'
theorem ZfR (M : Mk X.K C f) (F : Zfi X.prog X.w X.K X.mg X.base CX k f fd ps sp) (hr : Zg0 (k + 1) X.A) (hg : Gl X x) (hm : X.mg x = some (.ref C)) (hb : Zd8 X.K fd ps ds) (hd : Ze0 dvs ds) (hx : Zhb CX X E)
  (ha : PA X (e :: es) t) (hdb : autoParam ((x == ("__debug__" : Str)) = false) L2.Internal.auD._auto_1) (he : autoParam (starEach (e :: es) X.env = (false, eval e X.env) :: starEach es X.env) L2.Internal.auR._auto_1) (hpl : autoParam ((backTo pos (starEach es X.env)).any (·.1) = false) L2.Internal.auR._auto_1) :
  PE X (.Call (.Name x p) (e :: es) [] pos) (Zp1 C sp dvs E t) := by
 intro pins s σ H Q I h
 refine wpAny_Call_Name_kw (Zil I hg hm ?_ hdb)
 refine ZcE (h₀ := X.base) I.ok.mod.kin M.kp (thn (ha pos pins s σ H _ I h) fun us s1 ⟨vs, H1, I1, r, q⟩ => ⟨I1.kIn, ?_⟩) he hpl
 exact ZkD M F hr hb hd hx I1 r q
theorem Zns (M : Mk X.K C f) (F : Zfi X.prog X.w X.K X.mg X.base CX k f fd ps sp) (hr : Zg0 (k + 1) X.A) (hg : Gl X x) (hm : X.mg x = some (.ref C)) (hb : Zd8 X.K fd ps ds) (hd : Ze0 dvs ds) (hx : Zhb CX X E)
  (hdb : autoParam ((x == ("__debug__" : Str)) = false) L2.Internal.auD._auto_1) : PE X (.Call (.Name x p) [] [] pos) (Zp1 C sp dvs E ZpG) := by
 intro pins s σ H Q I h
 refine wpAny_Call_Name_kw (Zil I hg hm ?_ hdb)
 exact PySem.W.callWith_K0 I.kIn M.kp (ZkD (us := []) M F hr hb hd hx I .nil h)
end
section
variable {X : Cx} {CX : CXT} {k : Nat} {f C : Addr} {fd : FuncData} {ps ks : List Str} {sp : Sp} {E : XK} {x m : Str} {p pos apos kpos : Pos} {e o : Expr} {es : List Expr} {kws : List Keyword} {te ta : TE} {t tk : TA} {nm : Option Str}
variable {g : List Value -> List Value -> List Value} {gV : List V -> List V -> List V}
end
structure ZdL (N P : List Str) (sc : Scope) : Prop where
 kind : sc.kind = .function
 co : sc.isCoroutine = false
 gen : sc.isGenerator = false
 nd : N.Nodup
 pre : N.take P.length = P
 par : ∀ x ∈ P, sc.names.lookup x = some .local \/ sc.names.lookup x = some .cell
 nofree : ∀ y ∈ sc.names, y.2 ≠ .free
theorem Zjl {kindOf : Str -> Option NameKind} {x : Str} : ∀ {binds : List (Str × Value)} {m : Str -> Option Value}, (∀ v, (x, v) ∉ binds) -> bindL kindOf binds m x = m x
 | [], _, _ => rfl
 | (n, v) :: r, m, h => by
  unfold bindL
  rw [Zjl fun w hw => h w (Zaf _ hw)]
  split
  ·have : x ≠ n := by rintro rfl; exact h v Zae
   simp [this]
  ·rfl
theorem Zjm {kindOf : Str -> Option NameKind} {x : Str} : ∀ {binds : List (Str × Value)} {m : Str -> Option Value}, (∀ v, (x, v) ∉ binds) -> bindC kindOf binds m x = m x
 | [], _, _ => rfl
 | (n, v) :: r, m, h => by
  unfold bindC
  rw [Zjm fun w hw => h w (Zaf _ hw)]
  split
  ·rfl
  ·have : x ≠ n := by rintro rfl; exact h v Zae
   simp [this]
theorem Zjn {kindOf : Str -> Option NameKind} {x : Str} {v : Value} : ∀ {P : List Str} {vs : List Value} {i : Nat} {m : Str -> Option Value}, P.Nodup -> P[i]? = some x -> vs[i]? = some v -> kindOf x = some .local ->
  bindL kindOf (P.zip vs) m x = some v
 | [], _, _, _, _, h, _, _ => by simp at h
 | _ :: _, [], _, _, _, _, h, _ => by simp at h
 | p :: P, w :: vs, 0, m, nd, h1, h2, hk => by
  simp at h1 h2; subst h1; subst h2
  show bindL kindOf ((p, w) :: P.zip vs) m p = _
  unfold bindL
  rw [Zjl fun v hv => (Zat.mp nd).1 (Zau hv).1, if_pos hk]
  simp
 | p :: P, w :: vs, i + 1, m, nd, h1, h2, hk => by
  show bindL kindOf ((p, w) :: P.zip vs) m x = _
  unfold bindL
  exact Zjn (i := i) (Zat.mp nd).2 (by simpa using h1) (by simpa using h2) hk
theorem Zjo {kindOf : Str -> Option NameKind} {x : Str} {v : Value} : ∀ {P : List Str} {vs : List Value} {i : Nat} {m : Str -> Option Value}, P.Nodup -> P[i]? = some x -> vs[i]? = some v -> kindOf x ≠ some .local ->
  bindC kindOf (P.zip vs) m x = some v
 | [], _, _, _, _, h, _, _ => by simp at h
 | _ :: _, [], _, _, _, _, h, _ => by simp at h
 | p :: P, w :: vs, 0, m, nd, h1, h2, hk => by
  simp at h1 h2; subst h1; subst h2
  show bindC kindOf ((p, w) :: P.zip vs) m p = _
  unfold bindC
  rw [Zjm fun v hv => (Zat.mp nd).1 (Zau hv).1, if_neg hk]
  simp
 | p :: P, w :: vs, i + 1, m, nd, h1, h2, hk => by
  show bindC kindOf ((p, w) :: P.zip vs) m x = _
  unfold bindC
  exact Zjo (i := i) (Zat.mp nd).2 (by simpa using h1) (by simpa using h2) hk
noncomputable def Zjp (N : List Str) (vs : List V) : St := vs.map some ++ Zav (N.length - vs.length) none
noncomputable def ZpH (CX : CXT) (P : Program) (w : World) (K : PySem.W.Frag) (mg : Str -> Option Value) (base : Heap) (N : List Str) (qual : Str) (scope : Scope) (f : Addr) (cd : Value) (A : Around) (outer : List Env) (s : Shared) (H : Hp) (E : XK) : Cx where
 prog := P
 w := w
 K := K
 mg := mg
 base := base
 A := A.deeper (envOfC qual scope s.heap.objs.size f cd)
 N := N
 s₀ := s
 H₀ := H
 env := envOfC qual scope s.heap.objs.size f cd
 outer := outer
 stack := envOfC qual scope s.heap.objs.size f cd :: outer
 ex := []
 calm := true
 fn := fun _ => true
 pn := []
 xe := fun e s' => wpAny (model P w) (A.deeper (envOfC qual scope s.heap.objs.size f cd)) (leaving (envOfC qual scope s.heap.objs.size f cd) e) (fun _ s'' => CX outer H s E e s'') (fun e' s'' => CX outer H s E e' s'') s'
theorem ZkE {sc : Scope} {n : Nat} {x : Str} (h : sc.names.lookup x = some .cell) : ∃ c, (cellsFrom n sc.names []).lookup x = some c := by
 have q := ZcG sc.names n [] (.inl h)
 exact Zcf.mp q
theorem Zl5 {CX : CXT} {P : Program} {w : World} {K : PySem.W.Frag} {mg : Str -> Option Value} {base : Heap} {N ps : List Str} {qual : Str} {scope : Scope} {f : Addr} {cd : Value} {A : Around} {outer : List Env} {s s1 : Shared} {H : Hp} {E : XK} {us : List Value} {vs : List V}
  (S : ZdL N ps scope) (hd : A.handled = none) (e0 : ZoJ P w K mg base A outer s H) (hl : vs.length = ps.length) (r : Ze0 vs us)
  (x : InCallC s s.heap.objs.size (bindL (envOfC qual scope s.heap.objs.size f cd).kindOf (ps.zip us) fun _ => none) (cellsFrom (s.heap.objs.size + 1) scope.names []) (bindC (envOfC qual scope s.heap.objs.size f cd).kindOf (ps.zip us) fun _ => none) s1) :
  Inv (ZpH CX P w K mg base N qual scope f cd A outer s H E) [] (Zjp N vs) H s1 := by
 have hpl : ps.length <= N.length := by have := congrArg Zaw S.pre; rw [Zax] at this; omega
 obtain ⟨h1, tk, rfl, hk⟩ := x.done
 have noA : ∀ b : Addr, b ∉ (ZpH CX P w K mg base N qual scope f cd A outer s H E).ex := fun b z => absurd (show b ∈ ([] : List Addr) from z) (by simp)
 refine ⟨⟨e0.mod, S.kind, rfl, rfl, ZbK _, fun y z c h1 h2 => ?_, fun y hy => ?_, fun y c _ h => ?_, fun _ => hd, Around.frames_deeper e0.frames, .inr ⟨rfl, rfl⟩, fun b z => absurd z (noA b), e0.bs, e0.bsz, fun b _ _ => noA b, fun b z => absurd z (noA b), e0.funs, e0.frf⟩,
  rfl, e0.bare, Un.kept hk, ⟨_, x.toInCall.ns, fun i y v h1 h2 h3 => ?_⟩, fun y c h => ⟨_, x.cell y c h⟩, e0.hok.fresh (ZbK _), fun y c h => ?_, fun p hp => absurd (show p ∈ ([] : List (Addr × Obj)) from hp) (by simp), e0.hok.kept hk, ?_⟩
 ·exact name_of_addr x.apart (PySem.mem_of_lookup h1) (PySem.mem_of_lookup h2)
 ·have hy : scope.names.lookup y = some .cell \/ scope.names.lookup y = some .free := hy
  rcases hy with hy | hy
  ·exact ZkE hy
  ·exact absurd rfl (S.nofree _ (PySem.mem_of_lookup hy))
 ·exact ZbI (x.above y c (PySem.mem_of_lookup h))
 ·have hi : i < vs.length := by
   unfold Zjp at h2
   by_cases hi : i < vs.length
   ·exact hi
   ·rw [Zay (by simpa using hi)] at h2
    rw [List.getElem?_replicate] at h2
    split at h2 <;> cases h2
  have ha : vs[i]? = some v := by
   unfold Zjp at h2
   rw [Zaz (by simpa using hi), ZaA] at h2
   cases e : vs[i]? with
   | none => rw [e] at h2; cases h2
   | some a => rw [e] at h2; cases h2; rfl
  obtain ⟨u, hu, rv⟩ := r.get ha
  have hp : ps[i]? = some y := by
   rw [<- S.pre, List.getElem?_take_of_lt (by omega)]; exact h1
  have ndP : ps.Nodup := by rw [<- S.pre]; exact S.nd.sublist (List.take_sublist _ _)
  refine ⟨u, rv, ?_⟩
  rcases S.par y (ZaB hp) with k | k
  ·exact .inl ⟨k, Zjn ndP hp hu k⟩
  ·obtain ⟨c, e⟩ := ZkE (n := s.heap.objs.size + 1) k
   refine .inr ⟨.inl k, c, e, ?_⟩
   have q := x.cell y c e
   rw [Zjo ndP hp hu (by show scope.names.lookup y ≠ _; rw [k]; decide)] at q
   exact q
 ·exact e0.hok.fresh (ZbI (x.above y c (PySem.mem_of_lookup h)))
 ·unfold Zjp
  show _ = N.length
  rw [ZaC, Zar, List.length_replicate]
  omega
theorem Zra {CX : CXT} {P : Program} {w : World} {K : PySem.W.Frag} {mg : Str -> Option Value} {base : Heap} {k : Nat} {f : Addr} {name qual : Str} {params : Arguments} {body : List Stmt} {scope : Scope} {dV kV doc pm cdv ct oc : Value} {an od : Option Addr}
  {osl : Array (Option Value)} {N ps : List Str} {sp : Sp} (lk : K.lookup f = some ⟨oc, od, .func (ZcH name qual params body scope dV kV doc pm an cdv ct), osl⟩) (hcd : ZcI K cdv qual = true) (S : ZdL N ps scope)
  (len : ∀ vs H Q E, sp vs H Q E -> vs.length = ps.length)
  (hbody : ∀ (A : Around) (outer : List Env) (s : Shared) (H : Hp) (vs : List V) (Q : VK) (E : XK), Zg0 k (A.deeper (envOfC qual scope s.heap.objs.size f cdv)) -> sp vs H Q E ->
   ∃ t, PSs (ZpH CX P w K mg base N qual scope f cdv A outer s H E) body t /\ t { nx := fun _ H' => Q .non H', rt := Q } (Zjp N vs) H) :
  Zfi P w K mg base CX (k + 1) f (ZcH name qual params body scope dV kV doc pm an cdv ct) ps sp := by
 refine ⟨len, fun A outer s H args us vs Q E hr e0 hb r hsp => ?_⟩
 have hl := len _ _ _ _ hsp
 have KX : K.In s.heap := e0.mod.kin.keeps fun b o e => (e0.bs b o e).1
 have lim : s.heap.NoLimit := e0.mod.nolimit.keeps fun b o e => (e0.bs b o e).1
 have hkind : ∀ y ∈ ps.zip us, scope.names.lookup y.1 = some .local \/ (scope.names.lookup y.1 = some .cell /\ ((cellsFrom (s.heap.objs.size + 1) scope.names []).lookup y.1).isSome = true) := fun ⟨n, v⟩ hy => by
  rcases S.par n (Zau hy).1 with q | q
  ·exact .inl q
  ·exact .inr ⟨q, ZcG _ _ _ (.inl q)⟩
 refine codeAny_call_function hr.depth (KX _ _ lk) rfl S.co S.gen rfl (PySem.W.codeRec_of KX hcd) (hb _ _ _ _ ?_)
 refine wpAny_newFunctionEnv_cells S.kind hkind fun env he s1 x => ?_
 subst he
 refine ⟨lim.keeps x.toInCall.keep, codeAny_func ?_⟩
 obtain ⟨t, ht, hq⟩ := hbody A outer s H vs Q E (hr.deeper _) hsp
 have I : Inv (ZpH CX P w K mg base N qual scope f cdv A outer s H E) [] (Zjp N vs) H s1 := Zl5 S hr.hd e0 hl r x
 refine wpAny_mono (ht [] s1 (Zjp N vs) H _ I hq) (fun fl s' hs => ?_) fun e s' hs => hs
 have fin : ∀ {σ' : St} {H' : Hp} {v : V} {u : Value}, Inv (ZpH CX P w K mg base N qual scope f cdv A outer s H E) [] σ' H' s' -> ZeL v u -> Q v H' -> CE outer P w H s Q u s' :=
  fun {σ' H' v u} J rv q => ⟨v, H', J.os, J.bare, J.base, J.hok, rv, q⟩
 cases fl with
 | ret u =>
  obtain ⟨v, σ', H', J, rv, q⟩ := hs
  exact fin J rv q
 | next =>
  obtain ⟨σ', H', J, q⟩ := hs
  exact fin (v := V.non) (u := Value.none) J rfl q
 | brk =>
  obtain ⟨_, _, _, q⟩ := hs
  exact False.elim q
 | cont =>
  obtain ⟨_, _, _, q⟩ := hs
  exact False.elim q
end L2.Internal
namespace L2.Internal
open PySem PySem.Spec PyProof.Rows
section
variable {X : Cx} {x : Str} {p pos : Pos} {e : Expr} {es : List Expr} {t : TA} {id T : String} {r : List V -> Hp -> VK -> Prop}
def tCB (r : List V -> Hp -> VK -> Prop) (t : TA) : TE := fun σ H Q => t σ H fun vs H1 => r vs H1 Q
theorem Zd0 (hc : ZgK X (.builtin id) r) (hg : Gl X x) (hm : X.mg x = none) (hv : bootBuiltins x = some (.builtin id)) (ha : PA X (e :: es) t) (hn : autoParam (x ≠ "__name__") L2.Internal.auD._auto_1) (hdb : autoParam ((x == ("__debug__" : Str)) = false) L2.Internal.auD._auto_1)
  (he : autoParam (starEach (e :: es) X.env = (false, eval e X.env) :: starEach es X.env) L2.Internal.auR._auto_1) (hpl : autoParam ((backTo pos (starEach es X.env)).any (·.1) = false) L2.Internal.auR._auto_1) : PE X (.Call (.Name x p) (e :: es) [] pos) (tCB r t) := by
 intro pins s σ H Q I h
 refine wpAny_Call_Name_kw (Zjf I hg hm hv ?_ hn hdb)
 exact PyProof.Rows.callWith_builtin1 (thn (ha pos pins s σ H _ I h) fun us s1 ⟨vs, H1, I1, r1, q1⟩ => hc pins s1 σ H1 vs us Q I1 r1 q1) he hpl
theorem Zfj (hc : ZgK X (.type T) r) (hg : Gl X x) (hm : X.mg x = none) (hv : bootBuiltins x = some (.type T)) (ha : PA X (e :: es) t) (hn : autoParam (x ≠ "__name__") L2.Internal.auD._auto_1) (hdb : autoParam ((x == ("__debug__" : Str)) = false) L2.Internal.auD._auto_1)
  (he : autoParam (starEach (e :: es) X.env = (false, eval e X.env) :: starEach es X.env) L2.Internal.auR._auto_1) (hpl : autoParam ((backTo pos (starEach es X.env)).any (·.1) = false) L2.Internal.auR._auto_1) : PE X (.Call (.Name x p) (e :: es) [] pos) (tCB r t) := by
 intro pins s σ H Q I h
 refine wpAny_Call_Name_kw (Zjf I hg hm hv ?_ hn hdb)
 exact Zdp (thn (ha pos pins s σ H _ I h) fun us s1 ⟨vs, H1, I1, r1, q1⟩ => hc pins s1 σ H1 vs us Q I1 r1 q1) he hpl
end
end L2.Internal
namespace L2.Internal
open PySem PySem.Spec PyProof.Rows
section
variable {κ : Type} [DecidableEq κ]
noncomputable def Zfs (kvs : List (κ × V)) (k : κ) : Option V := (kvs.find? fun kv => decide (kv.1 = k)).map (·.2)
noncomputable def ZfM (kvs : List (κ × V)) (k : κ) (v : V) : List (κ × V) :=
 if (kvs.any fun kv => decide (kv.1 = k)) = true then kvs.map (fun kv => if kv.1 = k then (kv.1, v) else kv) else kvs ++ [(k, v)]
theorem Ze6 {p : κ × V} {r : List (κ × V)} {k : κ} (e : p.1 = k) : Zfs (p :: r) k = some p.2 := by simp [Zfs, ZaD, e]
theorem Ze7 {p : κ × V} {r : List (κ × V)} {k : κ} (e : ¬ p.1 = k) : Zfs (p :: r) k = Zfs r k := by simp [Zfs, ZaD, e]
theorem ZgL (k : κ) : ∀ kvs : List (κ × V), (kvs.any fun kv => decide (kv.1 = k)) = (Zfs kvs k).isSome
 | [] => rfl
 | p :: r => by
  rw [ZaE]
  by_cases e : p.1 = k
  ·simp only [Ze6 e, decide_eq_true e, Bool.true_or, Option.isSome_some]
  ·rw [Ze7 e, decide_eq_false e, Bool.false_or]; exact ZgL k r
theorem ZkF (k j : κ) (y : V) : ∀ kvs : List (κ × V), Zfs (kvs.map fun kv => if kv.1 = k then (kv.1, y) else kv) j = (Zfs kvs j).map fun x => if j = k then y else x
 | [] => rfl
 | p :: r => by
  have ih := ZkF k j y r
  rw [Zaq]
  by_cases h : p.1 = k
  ·rw [if_pos h]
   by_cases e : p.1 = j
   ·rw [Ze6 (p := (p.1, y)) e, Ze6 e, Zcg, if_pos (e.symm.trans h)]
   ·rw [Ze7 (p := (p.1, y)) e, Ze7 e, ih]
  ·rw [if_neg h]
   by_cases e : p.1 = j
   ·rw [Ze6 (p := p) e, Ze6 e, Zcg, if_neg (fun z => h (e.trans z))]
   ·rw [Ze7 (p := p) e, Ze7 e, ih]
theorem Zjq (k j : κ) (y : V) : ∀ kvs : List (κ × V), Zfs kvs k = none -> Zfs (kvs ++ [(k, y)]) j = if j = k then some y else Zfs kvs j
 | [], _ => by
  by_cases e : k = j
  ·rw [if_pos e.symm]; exact Ze6 (p := (k, y)) e
  ·rw [if_neg (fun z => e z.symm)]; exact Ze7 (p := (k, y)) e
 | p :: r, hn => by
  rw [ZaF]
  have hk : ¬ p.1 = k := fun z => by rw [Ze6 z] at hn; cases hn
  rw [Ze7 hk] at hn
  have ih := Zjq k j y r hn
  by_cases e : p.1 = j
  ·rw [Ze6 e, Ze6 e, if_neg (fun z => hk (e.trans z))]
  ·rw [Ze7 e, Ze7 e, ih]
theorem Zhm (kvs : List (κ × V)) (k j : κ) (y : V) : Zfs (ZfM kvs k y) j = if j = k then some y else Zfs kvs j := by
 unfold ZfM
 by_cases a : (kvs.any fun kv => decide (kv.1 = k)) = true
 ·rw [if_pos a, ZkF]
  rw [ZgL] at a
  by_cases e : j = k
  ·obtain ⟨x, hx⟩ := Zcf.mp a
   rw [if_pos e, e, hx, Zcg, if_pos rfl]
  ·rw [if_neg e]
   cases Zfs kvs j with
   | none => rfl
   | some x => rw [Zcg, if_neg e]
 ·rw [if_neg a]
  refine Zjq k j y kvs ?_
  rw [ZgL] at a
  cases q : Zfs kvs k with
  | none => rfl
  | some x => rw [q] at a; exact (a rfl).elim
theorem Zfa (kvs : List (κ × V)) (k : κ) (v : V) : (ZfM kvs k v).length <= kvs.length + 1 := by
 unfold ZfM
 split
 ·rw [Zar]; omega
 ·rw [ZaC, Zao, ZaG]; omega
theorem Zjc.isSome_eq {o : Option V} {u : Option Value} (r : Zjc o u) : o.isSome = u.isSome := by
 cases o with
 | none => cases u with
  | none => rfl
  | some _ => exact (show False from r).elim
 | some _ => cases u with
  | none => exact (show False from r).elim
  | some _ => rfl
theorem Zjc.getD {o : Option V} {u : Option Value} {d : V} {d' : Value} (r : Zjc o u) (rd : ZeL d d') : ZeL (o.getD d) (u.getD d') := by
 cases o with
 | none => cases u with
  | none => exact rd
  | some _ => exact (show False from r).elim
 | some _ => cases u with
  | none => exact (show False from r).elim
  | some _ => exact r
theorem KV.val {kvs : List (κ × V)} {vs : List (κ × Value)} (r : KV kvs vs) (k : κ) : Zjc (Zfs kvs k) (valueAt vs k) := by
 unfold KV at r
 induction r with
 | nil => exact True.intro
 | @cons p q ps qs h t ih =>
  obtain ⟨h1, h2⟩ := h
  by_cases e : p.1 = k
  ·have e' : q.1 = k := h1.symm.trans e
   have b : valueAt (q :: qs) k = some q.2 := by simp [valueAt, ZaD, e']
   rw [Ze6 e, b]; exact h2
  ·have e' : ¬ q.1 = k := fun z => e (h1.trans z)
   have b : valueAt (q :: qs) k = valueAt qs k := by simp [valueAt, ZaD, e']
   rw [Ze7 e, b]; exact ih
theorem KV.any {kvs : List (κ × V)} {vs : List (κ × Value)} (r : KV kvs vs) (k : κ) : (kvs.any fun kv => decide (kv.1 = k)) = vs.any fun kv => decide (kv.1 = k) := by
 unfold KV at r
 induction r with
 | nil => rfl
 | cons h t ih => rw [ZaE, ZaE, ih, h.1]
theorem KV.repl {kvs : List (κ × V)} {vs : List (κ × Value)} (r : KV kvs vs) (k : κ) {y : V} {u : Value} (ry : ZeL y u) :
  KV (kvs.map fun kv => if kv.1 = k then (kv.1, y) else kv) (vs.map fun kv => if kv.1 = k then (kv.1, u) else kv) := by
 unfold KV at r ⊢
 induction r with
 | nil => exact .nil
 | @cons p q ps qs h t ih =>
  rw [Zaq, Zaq]
  refine .cons ?_ ih
  obtain ⟨h1, h2⟩ := h
  by_cases e : p.1 = k
  ·rw [if_pos e, if_pos (h1.symm.trans e)]; exact ⟨h1, ry⟩
  ·rw [if_neg e, if_neg (fun z => e (h1.trans z))]; exact ⟨h1, h2⟩
theorem KV.put {kvs : List (κ × V)} {vs : List (κ × Value)} (r : KV kvs vs) (k : κ) {y : V} {u : Value} (ry : ZeL y u) : KV (ZfM kvs k y) (stored vs k u) := by
 unfold ZfM stored
 rw [r.any k]
 by_cases e : (vs.any fun kv => decide (kv.1 = k)) = true
 ·rw [if_pos e, if_pos e]; exact r.repl k ry
 ·rw [if_neg e, if_neg e]; exact Paired.snoc r ⟨rfl, ry⟩
theorem KV.length {kvs : List (κ × V)} {vs : List (κ × Value)} (r : KV kvs vs) : kvs.length = vs.length := Paired.length r
end
theorem Zj7 {P : Program} {w : World} {k : Key} {u : Value} (r : ZeL (kV k) u) : (ZeM P w).is k u = true := by
 cases k with
 | inl i => obtain ⟨t, e⟩ := (show ∃ t, u = Value.int i t from r); subst e; exact Zj3 P w i t
 | inr x => obtain ⟨t, e⟩ := (show ∃ t, u = Value.str x t from r); subst e; exact Zj4 P w x t
theorem Zjr {P : Program} {w : World} : ∀ {ks : List Key} {us : List Value}, Ze0 (ks.map kV) us -> ItemsAre (ZeM P w) ks us
 | [], _, r => by rw [ZaH] at r; cases r; exact .nil
 | k :: ks, _, r => by
  rw [Zaq] at r
  cases r with
  | cons h t => exact .cons (Zj7 h) (Zjr t)
noncomputable abbrev KT (H : Hp) : List (List Key × V) -> List (List Key × Addr × Value) -> Prop := Paired fun p q => p.1 = q.1 /\ H q.2.1 = some (.tup (p.1.map kV)) /\ ZeL p.2 q.2.2
theorem KT.val {H : Hp} {kvs : List (List Key × V)} {xs : List (List Key × Addr × Value)} (r : KT H kvs xs) (k : List Key) : Zjc (Zfs kvs k) ((atKey xs k).map (·.2)) := by
 induction r with
 | nil => exact True.intro
 | @cons p q ps qs h t ih =>
  obtain ⟨h1, _, h2⟩ := h
  by_cases e : p.1 = k
  ·have e' : q.1 = k := h1.symm.trans e
   have b : atKey (q :: qs) k = some q.2 := by simp [atKey, ZaD, e']
   rw [Ze6 e, b]; exact h2
  ·have e' : ¬ q.1 = k := fun z => e (h1.trans z)
   have b : atKey (q :: qs) k = atKey qs k := by simp [atKey, ZaD, e']
   rw [Ze7 e, b]; exact ih
theorem KT.repl {H : Hp} {kvs : List (List Key × V)} {xs : List (List Key × Addr × Value)} (r : KT H kvs xs) (k : List Key) {y : V} {u : Value} (ry : ZeL y u) :
  KT H (kvs.map fun kv => if kv.1 = k then (kv.1, y) else kv) (xs.map (putAt k u)) := by
 induction r with
 | nil => exact .nil
 | @cons p q ps qs h t ih =>
  rw [Zaq, Zaq]
  refine .cons ?_ ih
  obtain ⟨h1, h2, h3⟩ := h
  unfold putAt
  by_cases e : p.1 = k
  ·rw [if_pos e, if_pos (h1.symm.trans e)]; exact ⟨h1, h2, ry⟩
  ·rw [if_neg e, if_neg (fun z => e (h1.trans z))]; exact ⟨h1, h2, h3⟩
theorem KT.put {H : Hp} {kvs : List (List Key × V)} {xs : List (List Key × Addr × Value)} (r : KT H kvs xs) (k : List Key) {b : Addr} {y : V} {u : Value} (hb : H b = some (.tup (k.map kV))) (ry : ZeL y u) :
  KT H (ZfM kvs k y) (storedH xs k b u) := by
 have e : (kvs.any fun kv => decide (kv.1 = k)) = (atKey xs k).isSome := by
  rw [ZgL, (r.val k).isSome_eq, Option.isSome_map]
 unfold ZfM storedH
 rw [e]
 by_cases q : (atKey xs k).isSome = true
 ·rw [if_pos q, if_pos q]; exact r.repl k ry
 ·rw [if_neg q, if_neg q]; exact Paired.snoc r ⟨rfl, hb, ry⟩
theorem KT.keeps {H H' : Hp} {kvs : List (List Key × V)} {xs : List (List Key × Addr × Value)} (r : KT H kvs xs) (ht : ∀ b ys, H b = some (.tup ys) -> H' b = some (.tup ys)) : KT H' kvs xs :=
 Paired.mapP r fun _ _ z => ⟨z.1, ht _ _ z.2.1, z.2.2⟩
section
variable {P : Program} {w : World} {H : Hp} {h : Heap} {a : Addr}
theorem Zp2 {u : HO} (ok : HOk P w H h) (e : Rd H a u) : Ze4 P w H h a u := e.ok ok
theorem Zlm {kvs : List (Key × V)} (ok : HOk P w H h) (e : Rd H a (.dK kvs)) : kvs.length <= sizeLine /\ (a == sysModules) = false /\ ∃ vs, KV kvs vs /\ h.DictOf (ZeM P w) a vs :=
 show Ze4 P w H h a (.dK kvs) from Zp2 ok e
theorem ZoK {kvs : List (Key × V)} (ok : HOk P w H h) (e : H a = some (.dK kvs)) : kvs.length <= sizeLine /\ (a == sysModules) = false /\ ∃ vs, KV kvs vs /\ h.DictOf (ZeM P w) a vs := Zlm ok (.inl e)
theorem Zjs {ks : List Key} (ok : HOk P w H h) (e : H a = some (.tup (ks.map kV))) : (tupleKind (ZeM P w)).is h ks a := by
 obtain ⟨_, its, r, o, h1, h2, n, h3, _⟩ := (show Ze4 P w H h a (.tup (ks.map kV)) from ok a _ e)
 exact ⟨o, its.toArray, n, h1, h2, h3, by simpa using Zjr r⟩
theorem Zln {kvs : List (List Key × V)} (ok : HOk P w H h) (e : Rd H a (.dT kvs)) : kvs.length <= sizeLine /\ (a == sysModules) = false /\
  ∃ xs, KT H kvs xs /\ h.DictOfH (tupleKind (ZeM P w)) a xs := by
 obtain ⟨z, y, xs, r, o, es, ep, h1, h2, h3, h4, h5⟩ := (show Ze4 P w H h a (.dT kvs) from Zp2 ok e)
 refine ⟨z, y, xs, r, o, es, ep, h1, h2, h3, h4, fun x hx => ?_, h5⟩
 have all : ∀ {l : List (List Key × V)} {m : List (List Key × Addr × Value)}, KT H l m -> ∀ x ∈ m, (tupleKind (ZeM P w)).is h x.1 x.2.1 := by
  intro l m q
  induction q with
  | nil => intro x hx; exact nomatch hx
  | @cons p q ps qs hq t ih =>
   intro x hx
   rcases Zag.mp hx with e | hx
   ·subst e
    exact Zjs ok (by rw [<- hq.1]; exact hq.2.1)
   ·exact ih x hx
 exact all r x hx
theorem Zrb {kvs : List (List Key × V)} (ok : HOk P w H h) (e : H a = some (.dT kvs)) : kvs.length <= sizeLine /\ (a == sysModules) = false /\
  ∃ xs, KT H kvs xs /\ h.DictOfH (tupleKind (ZeM P w)) a xs := Zln ok (.inl e)
end
def Zh9 (H : Hp) (a : Addr) (y : V) (r : Option V) : Prop :=
 (∃ kvs k, Rd H a (.dK kvs) /\ y = kV k /\ r = Zfs kvs k) \/ ∃ kvs k b, Rd H a (.dT kvs) /\ y = .ref b /\ H b = some (.tup (k.map kV)) /\ r = Zfs kvs k
def Znt (H : Hp) (a : Addr) (y v : V) (H' : Hp) : Prop :=
 (∃ kvs k, H a = some (.dK kvs) /\ y = kV k /\ kvs.length < sizeLine /\ H' = upd H a (.dK (ZfM kvs k v))) \/
 ∃ kvs k b, H a = some (.dT kvs) /\ y = .ref b /\ H b = some (.tup (k.map kV)) /\ kvs.length < sizeLine /\ H' = upd H a (.dT (ZfM kvs k v))
theorem Zh9.k {H : Hp} {a : Addr} {kvs : List (Key × V)} {k : Key} (e : H a = some (.dK kvs)) : Zh9 H a (kV k) (Zfs kvs k) := .inl ⟨kvs, k, .inl e, rfl, rfl⟩
theorem Zh9.t {H : Hp} {a b : Addr} {kvs : List (List Key × V)} {k : List Key} (e : H a = some (.dT kvs)) (eb : H b = some (.tup (k.map kV))) : Zh9 H a (.ref b) (Zfs kvs k) := .inr ⟨kvs, k, b, .inl e, rfl, eb, rfl⟩
theorem Znt.k {H : Hp} {a : Addr} {kvs : List (Key × V)} {k : Key} {v : V} (e : H a = some (.dK kvs)) (hl : kvs.length < sizeLine) : Znt H a (kV k) v (upd H a (.dK (ZfM kvs k v))) := .inl ⟨kvs, k, e, rfl, hl, rfl⟩
theorem Znt.t {H : Hp} {a b : Addr} {kvs : List (List Key × V)} {k : List Key} {v : V} (e : H a = some (.dT kvs)) (eb : H b = some (.tup (k.map kV))) (hl : kvs.length < sizeLine) :
  Znt H a (.ref b) v (upd H a (.dT (ZfM kvs k v))) := .inr ⟨kvs, k, b, e, rfl, eb, hl, rfl⟩
section
variable {X : Cx} {pins : List (Addr × Obj)} {σ : St} {H : Hp} {s : Shared} {a : Addr} {y v : V} {u r : Value} {o : Option V} {A : Around} {E : Value -> Shared -> Prop}
theorem Inv.big (I : Inv X pins σ H s) : sysModules < s.heap.objs.size := by
 have h : mainGlobals < s.heap.objs.size := (I.mod.glob.keeps I.bk).lt
 exact Nat.lt_trans (by decide) h
theorem Zl6 {Q : Value -> Shared -> Prop} (hu : A.units + 1 < cLine) (I : Inv X pins σ H s) (g : Zh9 H a y (some v)) (ry : ZeL y u) (h : ∀ w' s', Inv X pins σ H s' -> ZeL v w' -> Q w' s') :
  wpAny (model X.prog X.w) A (getItem (.ref a) u) Q E s := by
 rcases g with ⟨kvs, k, e, ey, l⟩ | ⟨kvs, k, b, e, ey, eb, l⟩
 ·subst ey
  obtain ⟨z, hd, vs, rel, dd⟩ := Zlm I.hok e
  obtain ⟨w', hw, rw'⟩ := Zjc.some_of (v := v) (o := valueAt vs k) (by rw [l]; exact rel.val k)
  exact wpAny_getItem_of (Zj7 ry) dd.mapOf hw (h w' _ (I.tok _) rw')
 ·subst ey
  cases (show u = Value.ref b from ry)
  obtain ⟨z, hd, xs, rel, dd⟩ := Zln I.hok e
  obtain ⟨w', hw, rw'⟩ := Zjc.some_of (v := v) (o := (atKey xs k).map (·.2)) (by rw [l]; exact rel.val k)
  obtain ⟨p, hp, hp2⟩ := Zch.mp hw
  refine wpAny_getItem_heap (tupleKind_room_in1 hu) (Zjs I.hok eb) dd hp ?_
  rw [hp2]
  exact h w' _ (I.tok _) rw'
theorem ZoL {Q : Value -> Shared -> Prop} (hu : A.units + 1 < cLine) (I : Inv X pins σ H s) (g : Zh9 H a y o) (ry : ZeL y u) (h : ∀ s', Inv X pins σ H s' -> Q (.bool (!o.isSome)) s') :
  wpAny (model X.prog X.w) A (compareOp .NotIn u (.ref a)) Q E s := by
 rcases g with ⟨kvs, k, e, ey, l⟩ | ⟨kvs, k, b, e, ey, eb, l⟩
 ·subst ey
  obtain ⟨z, hd, vs, rel, dd⟩ := Zlm I.hok e
  refine wpAny_notIn_of (Zj7 ry) hd dd.mapOf ?_
  rw [<- (rel.val k).isSome_eq, <- l]
  exact h _ (I.tok _)
 ·subst ey
  cases (show u = Value.ref b from ry)
  obtain ⟨z, hd, xs, rel, dd⟩ := Zln I.hok e
  refine wpAny_notIn_heap (tupleKind_room_in1 hu) (Zjs I.hok eb) hd dd ?_
  have q := (rel.val k).isSome_eq
  rw [Option.isSome_map] at q
  rw [<- q, <- l]
  exact h _ (I.tok _)
theorem Zio {h' : Heap} {t' : Nat} {ob : HO} (I : Inv X pins σ H s) (mu : Mut (H a)) (hs : Heap.SameBut a s.heap h') (he : ∃ q, h'.get? a = some q) (new : Ze4 X.prog X.w (upd H a ob) h' a ob) :
  Inv X pins σ (upd H a ob) { s with heap := h', toks := t' } :=
 I.write (x := a) (e := a) mu (.inl rfl) (fun b q hb z => (hs.2 b hb).trans z) he new
theorem ZkG {P : Program} {w : World} {H' : Hp} {h' : Heap} {kvs : List (Key × V)} {vs : List (Key × Value)} (z : kvs.length <= sizeLine) (hd : (a == sysModules) = false) (rel : KV kvs vs) (dd : h'.DictOf (ZeM P w) a vs) :
  Ze4 P w H' h' a (.dK kvs) := ⟨z, hd, vs, rel, dd⟩
theorem Zl7 {H' : Hp} {Q : Unit -> Shared -> Prop} (hu : A.units + 1 < cLine) (I : Inv X pins σ H s) (g : Znt H a y v H') (ry : ZeL y u) (rv : ZeL v r) (h : ∀ s', Inv X pins σ H' s' -> Q () s') :
  wpAny (model X.prog X.w) A (setItem (.ref a) u r) Q E s := by
 rcases g with ⟨kvs, k, e, ey, l, eH⟩ | ⟨kvs, k, b, e, ey, eb, l, eH⟩
 ·subst ey eH
  obtain ⟨z, hd, vs, rel, dd⟩ := ZoK I.hok e
  have hz : vs.length <= sizeLine := by rw [<- rel.length]; exact z
  have hl : (ZfM kvs k v).length <= sizeLine := by have := Zfa kvs k v; omega
  refine wpAny_setItem_pairs (hsz := hz) (Zj7 ry) dd fun h' dd' hs => h _ ?_
  have he : ∃ q, h'.get? a = some q := let ⟨q, _, _, hq, _⟩ := dd'; ⟨q, hq⟩
  exact Zio I (by rw [e]; exact True.intro) hs he (ZkG hl hd (rel.put k rv) dd')
 ·subst ey eH
  cases (show u = Value.ref b from ry)
  obtain ⟨z, hd, xs, rel, dd⟩ := Zrb I.hok e
  have hz : xs.length <= sizeLine := by rw [<- Paired.length rel]; exact z
  have hl : (ZfM kvs k v).length <= sizeLine := by have := Zfa kvs k v; omega
  refine wpAny_setItem_heap (hsz := hz) (tupleKind_room_in1 hu) (Zjs I.hok eb) dd fun h' dd' hs => h _ ?_
  obtain ⟨q, es, ep, hq, h2, h3, h4, _, h5⟩ := dd'
  refine Zio I (by rw [e]; exact True.intro) hs ⟨q, hq⟩ ⟨hl, hd, _, (rel.put k eb rv).keeps fun c ys ec => ?_, q, es, ep, hq, h2, h3, h4, h5⟩
  rw [ZdA (ZdY ec e (fun z => nomatch z))]
  exact ec
end
section
variable {X : Cx} {pins : List (Addr × Obj)} {σ : St} {H : Hp} {s : Shared} {a : Addr} {kvs : List (Key × V)} {k : Key} {u : Value} {A : Around} {E : Value -> Shared -> Prop}
end
def ZrV (i : Expr) : Prop := ∀ ov iv, subscripted i false ov iv = operate [ov, iv] (getItem ov iv)
theorem ZoM {prog : Program} {w : World} {A : Around} {E : Value -> Shared -> Prop} {s : Shared} {env : Env} {value slice : Expr} {pos : Pos} {T id : String} {Q : Value -> Shared -> Prop}
  (hl : typeLookup (.type T) "__getitem__" = pure (some (.builtin id))) (hs : ZrV slice)
  (h : wpAny (model prog w) A (eval value env) (fun o s₁ => wpAny (model prog w) A (eval slice env) (fun i s₂ => s₂.TypeIs o T /\ wpAny (model prog w) A (getItem o i) Q E s₂) E s₁) E s) :
  wpAny (model prog w) A (eval (.Subscript value slice pos) env) Q E s := by
 refine Subscript_ (wpAny_mono h (fun o s₁ h₁ => wpAny_mono h₁ (fun i s₂ h₂ => ?_) fun _ _ x => x) fun _ _ x => x)
 obtain ⟨hT, h₂⟩ := h₂
 unfold subscriptTail
 refine wpAny_bind ?_
 rw [getitemInPython_of_ne hT.not_modules]
 refine wpAny_bind (wpAny_specialOf hT hl ?_)
 have fin : wpAny (model prog w) A (subscripted slice false o i) (fun r s₃ => wpAny (model prog w) A (letTemporaryGo value o r >>= fun _ => pure r) Q E s₃) E s₂ := by
  rw [hs o i]
  exact wpAny_operating (wpAny_mono h₂ (fun r s₃ h₃ => wpAny_bind (wpAny_letTemporaryGo (wpAny_pure h₃))) fun _ _ x => x)
 first
  | exact wpAny_pure (wpAny_bind fin)
  | exact wpAny_bind (wpAny_pure (wpAny_bind fin))
  | exact wpAny_bind fin
theorem Zj8 {X : Cx} {pins : List (Addr × Obj)} {σ : St} {H : Hp} {s : Shared} {a : Addr} {y : V} {o : Option V} (I : Inv X pins σ H s) (g : Zh9 H a y o) : s.TypeIs (.ref a) "dict" := by
 rcases g with ⟨kvs, k, e, _, _⟩ | ⟨kvs, k, b, e, _, _, _⟩
 ·obtain ⟨_, _, vs, _, dd⟩ := Zlm I.hok e
  exact dd.typeIs
 ·obtain ⟨_, _, xs, _, dd⟩ := Zln I.hok e
  exact dd.typeIs
def Zrc (td ty : TE) : TE := fun σ H Q => td σ H fun x H1 => ty σ H1 fun y H2 => ∃ a v, x = .ref a /\ Zh9 H2 a y (some v) /\ Q v H2
def ZoN (ty td : TE) : TE := fun σ H Q => ty σ H fun y H1 => td σ H1 fun x H2 => ∃ a o, x = .ref a /\ Zh9 H2 a y o /\ Q (.bl (!o.isSome)) H2
noncomputable def Zrd (td ty tv : TE) : TS.Internal := fun D σ H => tv σ H fun v H1 => td σ H1 fun x H2 => ty σ H2 fun y H3 => ∃ a H4, x = .ref a /\ Znt H3 a y v H4 /\ D.nx σ H4
section
variable {X : Cx} {o i e value : Expr} {pos pos' tpos : Pos} {td ty tv : TE}
theorem Zl8 (hu : X.A.units + 1 < cLine) (ho : PE X o td) (hi : PE X i ty) (hs : ZrV i) : PE X (.Subscript o i pos) (Zrc td ty) := by
 intro pins s σ H Q I h
 refine ZoM PySem.F.slot_dict_getitem.lookup hs (thn (ho pins s σ H _ I h) fun u s1 ⟨x, H1, I1, rx, q1⟩ => thn (hi pins s1 σ H1 _ I1 q1) fun iv s2 ⟨y, H2, I2, ry, a, v, ex, g, q2⟩ => ?_)
 subst ex
 obtain rfl : u = Value.ref a := rx
 exact ⟨Zj8 I2 g, Zl6 hu I2 g ry fun w' s3 I3 rw' => ⟨v, H2, I3, rw', q2⟩⟩
theorem Zhv (hu : X.A.units + 1 < cLine) (hi : PE X i ty) (ho : PE X o td) : PC X .NotIn i o (ZoN ty td) := by
 intro pins s σ H Q I h
 refine thn (hi pins s σ H _ I h) fun iv s1 ⟨y, H1, I1, ry, q1⟩ => thn (ho pins s1 σ H1 _ I1 q1) fun u s2 ⟨x, H2, I2, rx, a, ov, ex, g, q2⟩ => ?_
 subst ex
 obtain rfl : u = Value.ref a := rx
 exact ZoL hu I2 g ry fun s3 I3 => ⟨.bl (!ov.isSome), H2, I3, rfl, q2⟩
theorem Zip (hu : X.A.units + 1 < cLine) (ho : PE X o td) (hi : PE X i ty) (hv : PE X value tv) (hs : swapsWith value (some (.Subscript o i pos')) pos.line X.env = pure false) :
  PS X (.Assign [.Subscript o i pos'] value pos) (Zrd td ty tv) := by
 intro pins s σ H D I h
 refine wpAny_Assign_Subscript (thn (hv pins s σ H _ I h) fun r s1 ⟨v, H1, I1, rv, q1⟩ => thn (ho pins s1 σ H1 _ I1 q1) fun u s2 ⟨x, H2, I2, rx, q2⟩ => thn (hi pins s2 σ H2 _ I2 q2) fun iv s3 ⟨y, H3, I3, ry, a, H4, ex, g, q3⟩ => ?_) hs
 subst ex
 obtain rfl : u = Value.ref a := rx
 exact Zl7 hu I3 g ry rv fun s4 I4 => ⟨σ, H4, I4, q3⟩
end
theorem Znu {P : Program} {w : World} {H : Hp} (h : Heap) (hb : sysModules < h.objs.size) : Ze4 P w H (h.push { cls := .type "dict", data := .dict #[] }) h.objs.size (.dK []) :=
 ⟨ZbL _, beq_eq_false_iff_ne.mpr (Ne.symm (ZbG hb)), [], .nil, Heap.DictOf.new h⟩
theorem Znv {P : Program} {w : World} {H : Hp} (h : Heap) (hb : sysModules < h.objs.size) : Ze4 P w H (h.push { cls := .type "dict", data := .dict #[] }) h.objs.size (.dT []) :=
 ⟨ZbL _, beq_eq_false_iff_ne.mpr (Ne.symm (ZbG hb)), [], .nil, _, #[], 0, Zdl _ rfl, ⟨rfl, rfl, rfl⟩, rfl, rfl, ZaI⟩
def Zp3 : TE := fun _ H Q => ∀ p, H p = none -> Q (.ref p) (upd H p (.dK []))
def Zp4 : TE := fun _ H Q => ∀ p, H p = none -> Q (.ref p) (upd H p (.dT []))
section
variable {X : Cx} {pos : Pos}
theorem Ziq : PE X (.Dict [] [] pos) Zp3 := fun pins s σ H Q I h =>
 wpAny_Dict_empty ⟨.ref s.heap.objs.size, _, I.laid (a := s.heap.objs.size) (o := .dK []) (t' := s.toks) (fun _ _ q => Zdm _ q) (ZbK _) (Znu s.heap I.big), rfl, h _ (I.hok.fresh (ZbK _))⟩
theorem ZkH : PE X (.Dict [] [] pos) Zp4 := fun pins s σ H Q I h =>
 wpAny_Dict_empty ⟨.ref s.heap.objs.size, _, I.laid (a := s.heap.objs.size) (o := .dT []) (t' := s.toks) (fun _ _ q => Zdm _ q) (ZbK _) (Znv s.heap I.big), rfl, h _ (I.hok.fresh (ZbK _))⟩
end
noncomputable def Zfx (kvs more : List (Key × V)) : List (Key × V) := more.foldl (fun acc kv => ZfM acc kv.1 kv.2) kvs
structure M1 (X : Cx) (o : Expr) (m : Str) (apos : Pos) (e : Expr) (cpos : Pos) : Prop where
 base : attributeBase o m X.env (eval o X.env) = eval o X.env
 few : ((backTo cpos (starEach [e] X.env)).all (fun x => !x.1) && (backToKw cpos (keywordEach [] X.env)).all (fun x => x.1.isSome)
  && decide (([e] : List Expr).length + ([] : List Keyword).length + (if ([] : List Keyword).isEmpty then 0 else 1) < 30)) = true
 line : (apos.endLine == cpos.line) = true
 trees : backTo cpos (starEach [e] X.env) = [(false, eval e X.env)]
structure M2 (X : Cx) (o : Expr) (m : Str) (apos : Pos) (e f : Expr) (cpos : Pos) : Prop where
 base : attributeBase o m X.env (eval o X.env) = eval o X.env
 few : ((backTo cpos (starEach [e, f] X.env)).all (fun x => !x.1) && (backToKw cpos (keywordEach [] X.env)).all (fun x => x.1.isSome)
  && decide (([e, f] : List Expr).length + ([] : List Keyword).length + (if ([] : List Keyword).isEmpty then 0 else 1) < 30)) = true
 line : (apos.endLine == cpos.line) = true
 trees : backTo cpos (starEach [e, f] X.env) = [(false, eval e X.env), (false, eval f X.env)]
def IsD (H : Hp) (a : Addr) : Prop := (∃ kvs, Rd H a (.dK kvs)) \/ ∃ kvs, Rd H a (.dT kvs)
theorem Zn6 {X : Cx} {pins : List (Addr × Obj)} {σ : St} {H : Hp} {s : Shared} {a : Addr} (I : Inv X pins σ H s) (d : IsD H a) :
  s.TypeIs (.ref a) "dict" /\ (∀ b, Value.ref a = .ref b -> ∃ ob, s.heap.get? b = some ob /\ ob.dict = none) /\ (a == sysModules) = false := by
 rcases d with ⟨kvs, e⟩ | ⟨kvs, e⟩
 ·obtain ⟨_, hd, vs, _, dd⟩ := Zlm I.hok e
  refine ⟨dd.typeIs, fun b q => ?_, hd⟩
  cases q
  obtain ⟨ob, _, _, h1, h2, _⟩ := dd
  exact ⟨ob, h1, h2.2.1⟩
 ·obtain ⟨_, hd, xs, _, dd⟩ := Zln I.hok e
  refine ⟨dd.typeIs, fun b q => ?_, hd⟩
  cases q
  obtain ⟨ob, _, _, h1, h2, _⟩ := dd
  exact ⟨ob, h1, h2.2.1⟩
section
variable {X : Cx} {pins : List (Addr × Obj)} {σ : St} {H : Hp} {s : Shared} {a : Addr} {y d : V} {u r : Value} {o : Option V} {A : Around} {E : Value -> Shared -> Prop}
theorem Zp5 {Q : Value -> Shared -> Prop} (hu : A.units + 1 < cLine) (I : Inv X pins σ H s) (g : Zh9 H a y o) (ry : ZeL y u) (rd : ZeL d r) (h : ∀ w' s', Inv X pins σ H s' -> ZeL (o.getD d) w' -> Q w' s') :
  wpAny (model X.prog X.w) A (call (.builtin "dict.get") [.ref a, u, r]) Q E s := by
 rcases g with ⟨kvs, k, e, ey, l⟩ | ⟨kvs, k, b, e, ey, eb, l⟩
 ·subst ey
  obtain ⟨z, hd, vs, rel, dd⟩ := Zlm I.hok e
  refine call_meetsIn ZcM dd.typeIs ZcN (ZcO _ _ _) (meets_dict_get_default (ZeM X.prog X.w) a (Zj7 ry) hd r) ⟨_, dd.mapOf, h _ _ (I.tok _) ?_⟩
  rw [l]
  exact (rel.val k).getD rd
 ·subst ey
  cases (show u = Value.ref b from ry)
  obtain ⟨z, hd, xs, rel, dd⟩ := Zln I.hok e
  refine call_meetsIn ZcM dd.typeIs ZcN (ZcO _ _ _) (meetsH_dict_get_default (tupleKind (ZeM X.prog X.w)) a b hd r) ⟨tupleKind_room_in1 hu, k, xs, Zjs I.hok eb, dd, h _ _ (I.tok _) ?_⟩
  rw [l]
  exact (rel.val k).getD rd
end
def Zp6 (td ty tx : TE) : TE := fun σ H Q => td σ H fun x H1 => ∃ a, x = .ref a /\ IsD H1 a /\ ty σ H1 fun y H2 => tx σ H2 fun z H3 => ∃ o, Zh9 H3 a y o /\ Q (o.getD z) H3
section
variable {X : Cx} {o e f : Expr} {apos cpos : Pos} {td ty tx : TE}
theorem Zhn (hu : X.A.units + 1 < cLine) (ho : PE X o td) (he : PE X e ty) (hf : PE X f tx) (m : M2 X o "get" apos e f cpos) : PE X (.Call (.Attribute o "get" apos) [e, f] [] cpos) (Zp6 td ty tx) := by
 intro pins s σ H Q I h
 refine wpAny_Call_method m.base m.few m.line ZcP ZcM PySem.F.type_dict_get (thn (ho pins s σ H _ I h) fun u s1 ⟨x, H1, I1, rx, a, ex, d, q1⟩ => ?_)
 subst ex
 obtain rfl : u = Value.ref a := rx
 obtain ⟨t1, t2, _⟩ := Zn6 I1 d
 refine ⟨t1, t2, ?_⟩
 rw [m.trees]
 refine Calls.callWith_builtin rfl (Calls.evalArgs_plain (Calls.spliced_cons (thn (he pins s1 σ H1 _ I1 q1) fun iv s2 ⟨y, H2, I2, ry, q2⟩ =>
  Calls.spliced_cons (thn (hf pins s2 σ H2 _ I2 q2) fun fv s3 ⟨z, H3, I3, rz, ov, g, q3⟩ => Calls.spliced_nil ?_))))
 exact Zp5 hu I3 g ry rz fun w' s4 I4 rw' => ⟨_, H3, I4, rw', q3⟩
end
section
variable {X : Cx} {pins : List (Addr × Obj)} {σ : St} {H : Hp} {s : Shared} {a : Addr} {kvs : List (Key × V)} {A : Around} {E : Value -> Shared -> Prop}
end
section
variable {X : Cx} {pins : List (Addr × Obj)} {σ : St} {H : Hp} {s : Shared} {a : Addr} {y : V} {u : Value} {A : Around} {E : Value -> Shared -> Prop}
end
end L2.Internal
namespace HT.Internal
open PySem PyProof.Rows
section
open PySem.SeqAt
open PySem.AutoSeq1 (wpAny_loadPart')
open PySem.MeetsSeq PySem.MeetsSeq2 PySem.MeetsSeq3
end
section
variable {prog : Program} {w : World} {A : Around} {E : Value -> Shared -> Prop} {s : Shared}
theorem cat_tup {t b : Addr} {vs ws : List Value} {Q : Value -> Shared -> Prop} (ht : IsTup s.heap t vs.toArray) (hb : IsTup s.heap b ws.toArray) (hv : vs ≠ [])
  (h1 : ws = [] -> Q (.ref t) s) (h2 : ws ≠ [] -> Q (.ref s.heap.objs.size) { s with heap := s.heap.push { cls := .type "tuple", data := .seq (vs ++ ws).toArray } })
  (hsz : vs.length + ws.length <= sizeLine) : wpAny (model prog w) A (binaryOp .Add (.ref t) (.ref b)) Q E s := by
 obtain ⟨⟨cls, dd, data, sl⟩, ho, hc, n, hd⟩ := id ht
 obtain ⟨⟨cls2, dd2, data2, sl2⟩, ho2, hc2, n2, hd2⟩ := id hb
 simp only at hc hd hc2 hd2
 subst hc hd hc2 hd2
 have e : vs.toArray ++ ws.toArray = (vs ++ ws).toArray := by simp
 by_cases hw : ws = []
 ·exact concat_meets ⟨_, ho, rfl⟩ ⟨_, ho2, rfl⟩ noFill_tuple_add seq_tuple_add ZcQ ZcR (ZcS _ _)
   (tuple_addW1 t b vs.toArray ws.toArray n n2 dd dd2 sl sl2 (by simpa using hv) (by simp [hw])) ⟨ho, ho2, h1 hw⟩
 ·refine concat_meets ⟨_, ho, rfl⟩ ⟨_, ho2, rfl⟩ noFill_tuple_add seq_tuple_add ZcQ ZcR (ZcS _ _)
   (tuple_addW2 t b vs.toArray ws.toArray n n2 dd dd2 sl sl2 (by simpa using hv) (by simpa using hw) (by rw [ZaJ, ZaJ]; exact hsz)) ⟨ho, ho2, ?_⟩
  rw [e]
  exact h2 hw
noncomputable def sIx (n d : Nat) : Option Int -> Nat
 | none => d
 | some v => if v < 0 then (v + (n : Int)).toNat else min v.toNat n
theorem sIx_nat (n d k : Nat) : sIx n d (some (k : Int)) = min k n := by
 show (if (k : Int) < 0 then ((k : Int) + (n : Int)).toNat else min (k : Int).toNat n) = min k n
 rw [if_neg (by omega), Zdh]
end
end HT.Internal
namespace L2.Internal
open PySem PySem.Spec PyProof.Rows
noncomputable abbrev TO := St -> Hp -> (Option Int -> Hp -> Prop) -> Prop
def PO (X : Cx) (e : Option Expr) (t : TO) : Prop :=
 ∀ (pins : List (Addr × Obj)) (s : Shared) (σ : St) (H : Hp) (Q : Option Int -> Hp -> Prop), Inv X pins σ H s -> t σ H Q ->
  wpAny (model X.prog X.w) X.A (evalPart e X.env) (fun u s' => ∃ o H', Inv X pins σ H' s' /\ IsPart u o /\ Q o H') X.xe s
def ZoO : TO := fun _ H Q => Q none H
def Zre (t : TE) : TO := fun σ H Q => t σ H fun x H1 => ∃ i, x = .int i /\ Q (some i) H1
theorem Zlo {ns : List Int} : ∀ {us : List Value}, Ze0 (ns.map V.int) us -> IntsAre us ns := by
 induction ns with
 | nil => intro us r; rw [ZaH] at r; cases r; exact .nil
 | cons n ns ih =>
  intro us r
  rw [Zaq] at r
  cases r with
  | cons r1 r2 =>
   obtain ⟨t, e⟩ := r1
   subst e
   exact .cons n t (ih r2)
section
variable {X : Cx} {e : Expr} {te : TE} {lo hi : Option Expr} {tl th : TO} {pos p2 : Pos}
theorem Zir : PO X none ZoO := by
 intro pins s σ H Q I h
 rw [evalPart_none]
 exact wpAny_pure ⟨none, H, I, .none, h⟩
theorem Zf5 (h : PE X e te) : PO X (some e) (Zre te) := by
 intro pins s σ H Q I hw
 rw [evalPart_some]
 refine thn (h pins s σ H _ I hw) fun u s1 ⟨x, H1, I1, r1, q1⟩ => ?_
 obtain ⟨i, rfl, q⟩ := q1
 obtain ⟨t, rfl⟩ := r1
 exact ⟨some i, H1, I1, .int i t, q⟩
def SlR (X : Cx) (r : V -> Option Int -> Option Int -> Hp -> VK -> Prop) : Prop :=
 ∀ (pins : List (Addr × Obj)) (s : Shared) (σ : St) (H : Hp) (x : V) (v vl vu : Value) (lo hi : Option Int) (sl : Addr) (Q : VK), Inv X pins σ H s -> ZeL x v -> s.heap.IsSliceOf sl vl vu .none -> IsPart vl lo -> IsPart vu hi -> r x lo hi H Q ->
  ∃ T id, typeLookup (.type T) "__getitem__" = pure (some (.builtin id)) /\ s.TypeIs v T /\ wpAny (model X.prog X.w) X.A (getItem v (.ref sl)) (EP X pins σ Q) X.xe s
def tSl (r : V -> Option Int -> Option Int -> Hp -> VK -> Prop) (te : TE) (tl th : TO) : TE := fun σ H Q => te σ H fun x H1 => tl σ H1 fun l H2 => th σ H2 fun u H3 => r x l u H3 Q
theorem Zgl {r : V -> Option Int -> Option Int -> Hp -> VK -> Prop} (hr : SlR X r) (he : PE X e te) (hl : PO X lo tl) (hu : PO X hi th) : PE X (.Subscript e (.Slice lo hi none p2) pos) (tSl r te tl th) := by
 intro pins s σ H Q I h
 refine Subscript_ (thn (he pins s σ H _ I h) fun v s1 ⟨x, H1, I1, r1, q1⟩ => ?_)
 refine wpAny_Slice (thn (hl pins s1 σ H1 _ I1 q1) fun vl s2 ⟨l, H2, I2, pl, q2⟩ => thn (hu pins s2 σ H2 _ I2 q2) fun vu s3 ⟨u, H3, I3, pu, q3⟩ => ?_)
 rw [evalPart_none]
 refine wpAny_pure ?_
 have I4 : Inv X pins σ H3 { s3 with heap := s3.heap.push { cls := .type "slice", data := .fields #[vl, vu, .none] } } := I3.kept (t' := s3.toks) fun b ob q => Zdm _ q
 obtain ⟨T, id, hT, ht, hg⟩ := hr pins { s3 with heap := s3.heap.push { cls := .type "slice", data := .fields #[vl, vu, .none] } } σ H3 x v vl vu l u s3.heap.objs.size Q I4 r1 (Heap.IsSliceOf.new ..) pl pu q3
 show wpAny (model X.prog X.w) X.A (subscriptTail e (.Slice lo hi none p2) v (.ref s3.heap.objs.size)) (EP X pins σ Q) X.xe { s3 with heap := s3.heap.push { cls := .type "slice", data := .fields #[vl, vu, .none] } }
 exact tail_any (ops := [.ref s3.heap.objs.size, v]) ht hT hg (by with_unfolding_all rfl)
noncomputable def ZlL (xs : List V) (lo hi : Option Int) : List V := (xs.drop (HT.Internal.sIx xs.length 0 lo)).take (HT.Internal.sIx xs.length xs.length hi - HT.Internal.sIx xs.length 0 lo)
theorem Zj9 (xs : List V) (lo hi : Option Int) : (ZlL xs lo hi).length <= xs.length := by
 unfold ZlL
 rw [Zax, ZaK]
 omega
def ZoP (K : PySem.W.Frag) : R2 := fun x y H Q => ∃ a b xs ys, x = .ref a /\ y = .ref b /\ SqT K H a xs /\ SqT K H b ys /\ xs ≠ [] /\ xs.length + ys.length <= sizeLine /\
 (ys = [] -> Q (.ref a) H) /\ (ys ≠ [] -> ∀ p, H p = none -> Q (.ref p) (upd H p (.tup (xs ++ ys))))
theorem Ze0.nil_iff {xs : List V} {us : List Value} (r : Ze0 xs us) : us = [] ↔ xs = [] := by
 cases r with
 | nil => simp
 | cons _ _ => simp
theorem Zka : OpR X (binaryOp .Add) (ZoP X.K) := by
 intro pins s σ H x y v u Q I rx ry h
 obtain ⟨a, b, xs, ys, rfl, rfl, ha, hb, hx, hz, q1, q2⟩ := h
 cases rx
 cases ry
 obtain ⟨its, r1, p1, _⟩ := I.tuple ha
 obtain ⟨its2, r2, p2, _⟩ := I.tuple hb
 refine HT.Internal.cat_tup p1 p2 (fun z => hx (r1.nil_iff.mp z)) (fun z => ⟨.ref a, H, I, rfl, q1 (r2.nil_iff.mp z)⟩) (fun z => ?_) (by rw [<- r1.length, <- r2.length]; exact hz)
 refine ⟨.ref s.heap.objs.size, _, I.laid (t' := s.toks) (o := .tup (xs ++ ys)) (fun b ob q => Zdm _ q) (ZbK _) ?_, rfl, q2 (fun w => z (r2.nil_iff.mpr w)) _ (I.hok.fresh (ZbK _))⟩
 exact ⟨by rw [ZaC]; exact hz, _, r1.append r2, ZlP.new _ _⟩
end
end L2.Internal
namespace L2.Internal
open PySem PySem.Spec PyProof.Rows
noncomputable def ixN (n : Nat) (i : Int) : Option Nat := if 0 <= i then (if i < n then some i.toNat else none) else if -(n : Int) <= i then some (i + n).toNat else none
noncomputable def atI {α : Type} (xs : List α) (i : Int) : Option α := (ixN xs.length i).bind fun j => xs[j]?
theorem ZoQ {n : Nat} {i : Int} {j : Nat} (h : ixN n i = some j) : seqIndex? i n = some j /\ j < n /\ -(n : Int) <= i /\ i < n := by
 unfold ixN at h
 by_cases h0 : 0 <= i
 ·rw [if_pos h0] at h
  by_cases h1 : i < n
  ·rw [if_pos h1] at h
   have e : i.toNat = j := Zce.inj h
   exact ⟨by rw [seqIndex_of h0 h1, e], by omega, by omega, h1⟩
  ·rw [if_neg h1] at h; cases h
 ·rw [if_neg h0] at h
  by_cases h1 : -(n : Int) <= i
  ·rw [if_pos h1] at h
   have e : (i + n).toNat = j := Zce.inj h
   exact ⟨by rw [seqIndex_neg (by omega) h1, e], by omega, h1, by omega⟩
  ·rw [if_neg h1] at h; cases h
theorem Zkb {α : Type} {xs : List α} {i : Int} {v : α} (h : atI xs i = some v) : ∃ j, seqIndex? i xs.length = some j /\ xs[j]? = some v /\ j < xs.length /\ -(xs.length : Int) <= i /\ i < xs.length := by
 unfold atI at h
 cases e : ixN xs.length i with
 | none => rw [e] at h; cases h
 | some j =>
  rw [e] at h
  obtain ⟨h1, h2, h3, h4⟩ := ZoQ e
  exact ⟨j, h1, h, h2, h3, h4⟩
theorem Zdy {α : Type} {xs : List α} {j : Nat} {v : α} (h : xs[j]? = some v) : atI xs (j : Int) = some v := by
 have hj : j < xs.length := (Zaj.mp h).1
 have e : ixN xs.length (j : Int) = some j := by
  unfold ixN
  rw [if_pos (by omega), if_pos (by omega)]; simp
 unfold atI; rw [e]; exact h
def ZoR (b : Expr) : Prop := ∀ o i, subscripted b false o i = operate [o, i] (getItem o i)
def IxR (X : Cx) (r : R2) : Prop :=
 ∀ (value slice : Expr) (pins : List (Addr × Obj)) (s : Shared) (σ : St) (H : Hp) (x y : V) (v u : Value) (Q : VK), Inv X pins σ H s -> ZeL x v -> ZeL y u -> r x y H Q ->
  subscripted slice false v u = operate [v, u] (getItem v u) -> wpAny (model X.prog X.w) X.A (subscriptTail value slice v u) (EP X pins σ Q) X.xe s
def MtR (X : Cx) (id : String) (r : V -> List V -> Hp -> VK -> Prop) : Prop :=
 ∀ (pins : List (Addr × Obj)) (s : Shared) (σ : St) (H : Hp) (x : V) (xs : List V) (v : Value) (us : List Value) (Q : VK), Inv X pins σ H s -> ZeL x v -> Ze0 xs us -> r x xs H Q ->
  wpAny (model X.prog X.w) X.A (call (.builtin id) (v :: us)) (EP X pins σ Q) X.xe s
section
variable {X : Cx} {a b : Expr} {ta tb : TE} {pos : Pos}
theorem ZdF {r : R2} (hr : IxR X r) (ha : PE X a ta) (hb : PE X b tb) (hs : ZoR b) : PE X (.Subscript a b pos) (tOp r ta tb) := by
 intro pins s σ H Q I h
 exact Subscript_ (Zq6 ha hb I h fun v u s2 x y H2 I2 rx ry q => hr a b pins s2 σ H2 x y v u Q I2 rx ry q (hs _ _))
def rIxL (K : PySem.W.Frag) : R2 := fun x y H Q => ∃ p xs i v, x = .ref p /\ y = .int i /\ SqL K H p xs /\ atI xs i = some v /\ Q v H
def rIxT (K : PySem.W.Frag) : R2 := fun x y H Q => ∃ p xs i v, x = .ref p /\ y = .int i /\ SqT K H p xs /\ atI xs i = some v /\ Q v H
def rIxS : R2 := fun x y H Q => ∃ z i c, x = .str z /\ y = .int i /\ z.length <= sizeLine /\ atI z.cps.toList i = some c /\ Q (.str ⟨#[c]⟩) H
theorem ZoS : IxR X (rIxL X.K) := by
 intro value slice pins s σ H x y v u Q I rx ry h hs
 obtain ⟨p, xs, i, z, rfl, rfl, hq, he, q⟩ := h
 cases rx
 obtain ⟨t, rfl⟩ := ry
 obtain ⟨its, r, pl, hz⟩ := I.list hq
 obtain ⟨j, h1, h2, h3, h4, h5⟩ := Zkb he
 obtain ⟨w, ew, rw'⟩ := r.get h2
 have hl := r.length
 have hn := Zjj
 have fin : EP X pins σ Q w s := ⟨z, H, I, rw', q⟩
 by_cases h0 : 0 <= i
 ·have hj : i.toNat = j := by
   rw [seqIndex_of h0 h5] at h1
   exact Zce.inj h1
  exact item_listR pl.isList h0 (by omega) (by rw [hj]; simpa using ew) fin hs
 ·have hj : (i + (its.toArray.size : Int)).toNat = j := by
   rw [seqIndex_neg (by omega) h4] at h1
   rw [ZaJ, <- hl]
   exact Zce.inj h1
  exact subscriptTail_builtinR (x := w) pl.isList.typeIs slot_list_getitem.lookup
   (wpAny_getItem_list_neg (Q := fun r s' => r = w /\ EP X pins σ Q r s') pl.isList (by omega) (by rw [ZaJ] <;> omega) (by omega) (by rw [hj]; simpa using ew) ⟨rfl, fin⟩) hs
theorem Zgt : IxR X (rIxT X.K) := by
 intro value slice pins s σ H x y v u Q I rx ry h hs
 obtain ⟨p, xs, i, z, rfl, rfl, hq, he, q⟩ := h
 cases rx
 obtain ⟨t, rfl⟩ := ry
 obtain ⟨its, r, pl, hz⟩ := I.tuple hq
 obtain ⟨j, h1, h2, h3, h4, h5⟩ := Zkb he
 obtain ⟨w, ew, rw'⟩ := r.get h2
 have hl := r.length
 have hn := Zjj
 have fin : EP X pins σ Q w s := ⟨z, H, I, rw', q⟩
 exact subscriptTail_builtinR (x := w) pl.typeIs slot_tuple_getitem.lookup
  (getItem_tuple (j := j) (Q := fun r s' => r = w /\ EP X pins σ Q r s') pl (by omega) (by omega) (by rw [ZaJ, <- hl]; exact h1) (by simpa using ew) ⟨rfl, fin⟩) hs
theorem Zp7 : IxR X rIxS := by
 intro value slice pins s σ H x y v u Q I rx ry h hs
 obtain ⟨z, i, c, rfl, rfl, hz, he, q⟩ := h
 obtain ⟨t, rfl⟩ := rx
 obtain ⟨t', rfl⟩ := ry
 obtain ⟨j, h1, h2, h3, h4, h5⟩ := Zkb he
 have hl : z.cps.toList.length = z.length := by simp [Str.length]
 rw [hl] at h1 h4 h5
 have hn := Zjj
 exact tail_any (typeIs_str s z t) slot_str_getitem.lookup (getItem_str (c := c) (by
  have e1 : decide (i < -(2 ^ 63 : Int)) = false := decide_eq_false (by omega)
  have e2 : decide (i ≥ 2 ^ 63) = false := decide_eq_false (by omega)
  rw [e1, e2, Bool.or_false]) (by rw [h1]; simpa using h2) ⟨.str ⟨#[c]⟩, H, I.tok _, ⟨_, rfl⟩, q⟩) hs
theorem Zjt (lo hi : Option Int) (n : Nat) : (sliceBounds lo hi none n).1 = ((HT.Internal.sIx n 0 lo : Nat) : Int) /\ (sliceBounds lo hi none n).2.1 = ((HT.Internal.sIx n n hi : Nat) : Int) /\ (sliceBounds lo hi none n).2.2 = 1 := by
 refine ⟨?_, ?_, rfl⟩
 ·cases lo with
  | none => simp [sliceBounds, HT.Internal.sIx]
  | some i =>
   simp only [sliceBounds, HT.Internal.sIx, Option.getD_none, show (1 : Int) > 0 by decide, if_true]
   by_cases h : i < 0
   ·simp only [h, if_true] <;> omega
   ·simp only [h, if_false] <;> omega
 ·cases hi with
  | none => simp [sliceBounds, HT.Internal.sIx]
  | some i =>
   simp only [sliceBounds, HT.Internal.sIx, Option.getD_none, show (1 : Int) > 0 by decide, if_true]
   by_cases h : i < 0
   ·simp only [h, if_true] <;> omega
   ·simp only [h, if_false] <;> omega
theorem Zis (its : List Value) (lo hi : Option Int) : slicePick its.toArray lo hi none = ((its.drop (HT.Internal.sIx its.length 0 lo)).take (HT.Internal.sIx its.length its.length hi - HT.Internal.sIx its.length 0 lo)).toArray := by
 obtain ⟨h1, h2, h3⟩ := Zjt lo hi its.toArray.size
 unfold slicePick
 rw [h1, h2, h3]
 simp only [sliceRange_one, pick_run, ZaJ] <;> rfl
def rSlL (K : PySem.W.Frag) : V -> Option Int -> Option Int -> Hp -> VK -> Prop := fun x lo hi H Q => ∃ a xs, x = .ref a /\ SqL K H a xs /\ ∀ p, H p = none -> Q (.ref p) (upd H p (.lst (ZlL xs lo hi)))
theorem Zit : SlR X (rSlL X.K) := by
 intro pins s σ H x v vl vu lo hi sl Q I rx hs pl pu h
 obtain ⟨a, xs, rfl, hx, q⟩ := h
 cases rx
 obtain ⟨its, r, ht, hz⟩ := I.list hx
 have hlen := r.length
 refine ⟨"list", _, slot_list_getitem.lookup, ht.isList.typeIs, ?_⟩
 refine wpAny_getItem_list_slice ht.isList hs pl pu .none (by simp) ?_ (by rw [ZaJ] <;> omega)
 rw [Zis, <- hlen]
 refine ⟨.ref s.heap.objs.size, _, I.laid (t' := s.toks) (o := .lst (ZlL xs lo hi)) (fun b ob q => Zdm _ q) (ZbK _) ?_, rfl, q _ (I.hok.fresh (ZbK _))⟩
 exact ⟨ZbH (Zj9 xs lo hi) hz, _, 0, (r.drop (HT.Internal.sIx xs.length 0 lo)).take (HT.Internal.sIx xs.length xs.length hi - HT.Internal.sIx xs.length 0 lo), Zdl _ rfl⟩
noncomputable def Znw : V -> Bool
 | .non => true
 | .bl _ => true
 | .int _ => true
 | .str _ => true
 | _ => false
noncomputable def eqV : V -> V -> Bool
 | .non, .non => true
 | .bl a, .bl b => a == b
 | .bl a, .int b => (if a then 1 else 0) == b
 | .int a, .bl b => a == (if b then 1 else 0)
 | .int a, .int b => a == b
 | .str a, .str b => a == b
 | _, _ => false
theorem Zn7 {A : Around} {s : Shared} {y x : V} {u v : Value} (ry : ZeL y u) (rx : ZeL x v) (fy : Znw y = true) (fx : Znw x = true) : SeqAt.EqAt A s u v (eqV y x) := by
 cases y with
 | non =>
  cases ry
  cases x with
  | non => cases rx; exact SeqAt.EqAt.same _
  | bl b => cases rx; exact SeqAt.EqAt.none_bool b
  | int b => obtain ⟨t, rfl⟩ := rx; exact SeqAt.EqAt.none_int b t
  | str b => obtain ⟨t, rfl⟩ := rx; exact SeqAt.EqAt.none_str b t
  | _ => exact absurd (show false = true from fx) ZcX
 | bl a =>
  cases ry
  cases x with
  | non => cases rx; exact SeqAt.EqAt.bool_none a
  | bl b => cases rx; exact SeqAt.EqAt.bool_bool a b
  | int b => obtain ⟨t, rfl⟩ := rx; exact SeqAt.EqAt.bool_int a b t
  | str b => obtain ⟨t, rfl⟩ := rx; exact SeqAt.EqAt.bool_str a b t
  | _ => exact absurd (show false = true from fx) ZcX
 | int a =>
  obtain ⟨t', rfl⟩ := ry
  cases x with
  | non => cases rx; exact SeqAt.EqAt.int_none a t'
  | bl b => cases rx; exact SeqAt.EqAt.int_bool a t' b
  | int b => obtain ⟨t, rfl⟩ := rx; exact SeqAt.EqAt.int_int a t' b t
  | str b => obtain ⟨t, rfl⟩ := rx; exact SeqAt.EqAt.int_str a t' b t
  | _ => exact absurd (show false = true from fx) ZcX
 | str a =>
  obtain ⟨t', rfl⟩ := ry
  cases x with
  | non => cases rx; exact SeqAt.EqAt.str_none a t'
  | bl b => cases rx; exact SeqAt.EqAt.str_bool a t' b
  | int b => obtain ⟨t, rfl⟩ := rx; exact SeqAt.EqAt.str_int a t' b t
  | str b => obtain ⟨t, rfl⟩ := rx; exact SeqAt.EqAt.str_str a t' b t
  | _ => exact absurd (show false = true from fx) ZcX
 | _ => exact absurd (show false = true from fy) ZcX
theorem Zfh : ZgK X (.builtin "len") (fun xs H Q => ∃ p ys, xs = [.ref p] /\ (SqL X.K H p ys \/ SqT X.K H p ys) /\ Q (.int ys.length) H) := by
 intro pins s σ H xs us Q I r h
 obtain ⟨p, ys, rfl, hq, q⟩ := h
 obtain ⟨u, rfl, rx⟩ := Zg2 r
 cases rx
 have hn := Zjj
 rcases hq with hq | hq
 ·obtain ⟨its, r', pl, hz⟩ := I.list hq
  have hlen := r'.length
  exact Calls.call_len_list pl.isList (by simp only [ZaJ] <;> omega) ⟨.int ys.length, H, I.tok _, ⟨s.toks + 1, by rw [ZaJ, hlen]⟩, q⟩
 ·obtain ⟨its, r', pl, hz⟩ := I.tuple hq
  have hlen := r'.length
  exact len_tuple pl (by simp only [ZaJ] <;> omega) ⟨.int ys.length, H, I.tok _, ⟨s.toks + 1, by rw [ZaJ, hlen]⟩, q⟩
theorem Zju : ZgK X (.builtin "len") (fun xs H Q => ∃ z, xs = [.str z] /\ z.length <= sizeLine /\ Q (.int z.length) H) := by
 intro pins s σ H xs us Q I r h
 obtain ⟨z, rfl, hz, q⟩ := h
 obtain ⟨u, rfl, t, rfl⟩ := Zg2 r
 have hn := Zjj
 exact len_str (by omega) ⟨.int z.length, H, I.tok _, ⟨_, rfl⟩, q⟩
theorem Zhc : ZgK X (.type "list") (fun xs H Q => ∃ p ys, xs = [.ref p] /\ (SqL X.K H p ys \/ SqT X.K H p ys) /\ ∀ l, H l = none -> Q (.ref l) (upd H l (.lst ys))) := by
 intro pins s σ H xs us Q I r h
 obtain ⟨p, ys, rfl, hq, q⟩ := h
 obtain ⟨u, rfl, rx⟩ := Zg2 r
 cases rx
 have fin : ∀ (its : List Value), Ze0 ys its -> ys.length <= sizeLine -> ∀ (h' : Heap) (c' : Nat), (∀ b o', s.heap.get? b = some o' -> h'.get? b = some o') ->
   h'.get? s.heap.objs.size = some { cls := .type "list", dict := none, data := .seq its.toArray c', slots := #[] } -> EP X pins σ Q (.ref s.heap.objs.size) { s with heap := h' } := fun its r' hz h' c' kp e =>
  ⟨.ref s.heap.objs.size, _, I.laid (t' := s.toks) kp (ZbK _) (show Ze4 X.prog X.w _ h' _ (.lst ys) from ⟨hz, its, c', r', e⟩), rfl, q _ (I.hok.fresh (ZbK _))⟩
 rcases hq with hq | hq
 ·obtain ⟨its, r', pl, hz⟩ := I.list hq
  have hlen := r'.length
  obtain ⟨o, ho, hc, n, hd⟩ := pl.isList
  exact call_list_seq p (.inl rfl) ho hc hd (fun h' c' kp e => fin its r' hz h' c' kp e) (by simp only [ZaJ] <;> omega)
 ·obtain ⟨its, r', pl, hz⟩ := I.tuple hq
  have hlen := r'.length
  obtain ⟨o, ho, hc, n, hd⟩ := pl
  exact call_list_seq p (.inr rfl) ho hc hd (fun h' c' kp e => fin its r' hz h' c' kp e) (by simp only [ZaJ] <;> omega)
theorem Ziu : ZgK X (.type "tuple") (fun xs H Q => ∃ p ys, xs = [.ref p] /\ ((SqL X.K H p ys /\ ∀ l, H l = none -> Q (.ref l) (upd H l (.tup ys))) \/ (SqT X.K H p ys /\ Q (.ref p) H))) := by
 intro pins s σ H xs us Q I r h
 obtain ⟨p, ys, rfl, h⟩ := h
 obtain ⟨u, rfl, rx⟩ := Zg2 r
 cases rx
 rcases h with ⟨hq, q⟩ | ⟨hq, q⟩
 ·obtain ⟨its, r', pl, hz⟩ := I.list hq
  have hlen := r'.length
  refine call_tuple_list pl.isList (fun h' kp => ?_) (by simp only [ZaJ] <;> omega)
  have I1 : Inv X pins σ H { s with heap := h' } := I.kept (t' := s.toks) kp
  have I2 : Inv X pins σ (upd H h'.objs.size (.tup ys)) { s with heap := h'.push { cls := .type "tuple", data := .seq its.toArray } } :=
   I1.laid (t' := s.toks) (fun b o e => Zdm _ e) (ZbK _) (show Ze4 X.prog X.w _ _ _ (.tup ys) from ⟨hz, its, r', ZlP.new _ _⟩)
  exact ⟨.ref h'.objs.size, _, I2, rfl, q _ (I1.hok.fresh (ZbK _))⟩
 ·obtain ⟨its, r', pl, hz⟩ := I.tuple hq
  exact call_tuple_same pl ⟨.ref p, H, I, rfl, q⟩
def tyV (K : PySem.W.Frag) (T : String) (x : V) (H : Hp) : Prop := match x with
 | .str _ => T = "str"
 | .int _ => T = "int"
 | .ref p => (T = "list" /\ ∃ xs, SqL K H p xs) \/ (T = "tuple" /\ ∃ o, K.lookup p = some o /\ o.cls = .type "tuple" /\ o.dict = none) \/
   (T = "dict" /\ ((∃ kvs, H p = some (.dK kvs)) \/ ∃ kvs, H p = some (.dT kvs))) \/ (T = "set" /\ ∃ S n, H p = some (.set S n))
 | _ => False
theorem Zp8 {pins : List (Addr × Obj)} {σ : St} {H : Hp} {s : Shared} {T : String} {x : V} {v : Value} (I : Inv X pins σ H s) (r : ZeL x v) (ty : tyV X.K T x H) :
  s.TypeIs v T /\ ∀ a, v = .ref a -> ∃ ob, s.heap.get? a = some ob /\ ob.dict = none := by
 cases x with
 | str z =>
  obtain ⟨t, rfl⟩ := r
  cases (show T = "str" from ty)
  exact ⟨typeIs_str s z t, fun _ e => nomatch e⟩
 | int i =>
  obtain ⟨t, rfl⟩ := r
  cases (show T = "int" from ty)
  exact ⟨typeIs_int s i t, fun _ e => nomatch e⟩
 | ref p =>
  cases r
  rcases ty with ⟨rfl, xs, hq⟩ | ⟨rfl, o, hk, hc, hd⟩ | ⟨rfl, hk⟩ | ⟨rfl, S, n, hk⟩
  ·obtain ⟨its, _, pl, _⟩ := I.list hq
   refine ⟨pl.isList.typeIs, fun a e => ?_⟩
   cases e
   obtain ⟨o, n, e, c, hd, _⟩ := pl
   exact ⟨o, e, hd⟩
  ·refine ⟨⟨o, I.kIn p o hk, hc⟩, fun a e => ?_⟩
   cases e
   exact ⟨o, I.kIn _ o hk, hd⟩
  ·have z : ∃ o, s.heap.get? p = some o /\ o.ExactDict := by
    rcases hk with ⟨kvs, hk⟩ | ⟨kvs, hk⟩
    ·obtain ⟨_, _, _, _, o, _, _, e, ex, _⟩ := I.hok p _ hk
     exact ⟨o, e, ex⟩
    ·obtain ⟨_, _, _, _, o, _, _, e, ex, _⟩ := I.hok p _ hk
     exact ⟨o, e, ex⟩
   obtain ⟨o, e, ex⟩ := z
   refine ⟨⟨o, e, ex.1⟩, fun a e2 => ?_⟩
   cases e2
   exact ⟨o, e, ex.2.1⟩
  ·obtain ⟨o, _, _, _, e, ex, _⟩ := I.hok p _ hk
   refine ⟨⟨o, e, ex.1⟩, fun a e2 => ?_⟩
   cases e2
   exact ⟨o, e, ex.2.1⟩
 | _ => exact False.elim ty
def tBM (K : PySem.W.Frag) (T : String) (r : V -> List V -> Hp -> VK -> Prop) (to : TE) (t : TA) : TE := fun σ H Q => to σ H fun x H1 => tyV K T x H1 /\ t σ H1 fun xs H2 => r x xs H2 Q
variable {o e : Expr} {es : List Expr} {to : TE} {t : TA} {name : Str} {apos cpos : Pos} {T id : String} {r : V -> List V -> Hp -> VK -> Prop}
theorem ZgB (pa : PlainAttrs T) (slot : Slot T name id) (hty : typeOf (.builtin id) = pure (.type "method_descriptor")) (hm : MtR X id r) (ho : PE X o to) (ha : PA X (e :: es) t)
  (hbase : autoParam (attributeBase o name X.env (eval o X.env) = eval o X.env) L2.Internal.auR._auto_1)
  (hfew : ((backTo cpos (starEach (e :: es) X.env)).all (fun x => !x.1) && (backToKw cpos (keywordEach [] X.env)).all (fun x => x.1.isSome)
   && decide ((e :: es).length + ([] : List Keyword).length + (if ([] : List Keyword).isEmpty then 0 else 1) < 30)) = true := by rfl)
  (hline : autoParam ((apos.endLine == cpos.line) = true) L2.Internal.auR._auto_1) (hs : autoParam (starEach (e :: es) X.env = (false, eval e X.env) :: starEach es X.env) L2.Internal.auR._auto_1) (hplain : autoParam ((backTo cpos (starEach es X.env)).any (·.1) = false) L2.Internal.auR._auto_1) :
  PE X (.Call (.Attribute o name apos) (e :: es) [] cpos) (tBM X.K T r to t) := by
 intro pins s σ H Q I h
 refine wpAny_Call_method_late hbase hfew hline rfl (thn (ho pins s σ H _ I h) fun v s1 ⟨x, H1, I1, r1, ty, q1⟩ => ?_)
 obtain ⟨h1, h2⟩ := Zp8 I1 r1 ty
 refine ⟨T, id, pa, slot, hty, h1, h2, ?_⟩
 have hA := ha cpos pins s1 σ H1 _ I1 q1
 rw [hs] at hA ⊢
 refine Calls.callWith_builtin (by show (false || (backTo cpos (starEach es X.env)).any (·.1)) = false; rw [hplain] <;> rfl) (Calls.evalArgs_plain ?_)
 exact thn hA fun us s2 ⟨vs, H2, I2, r2, q2⟩ => hm pins s2 σ H2 x vs v us Q I2 r1 r2 q2
end
end L2.Internal
namespace L2.Internal
open PySem PySem.Spec PyProof.Rows
def MtM (X : Cx) (id : String) (r : V -> List V -> Hp -> VK -> Prop) : Prop :=
 ∀ (pins : List (Addr × Obj)) (s : Shared) (σ : St) (H : Hp) (x : V) (xs : List V) (v : Value) (us : List Value) (Q : VK), Inv X pins σ H s -> ZeL x v -> Ze0 xs us -> r x xs H Q ->
  wpAny (model X.prog X.w) X.A (call (.builtin id) (v :: us)) (EP X pins σ Q) X.xe s
theorem Ze0.one : ∀ {x : V} {us : List Value}, Ze0 [x] us -> ∃ u, us = [u] /\ ZeL x u
 | _, _, .cons r .nil => ⟨_, rfl, r⟩
section
variable {X : Cx} {pins : List (Addr × Obj)} {σ : St} {H : Hp} {s : Shared} {l b : Addr} {xs ys zs : List V}
theorem Inv.lset {its its' : List Value} {n : Nat} {f : Array Value -> Array Value} {t' : Nat} (I : Inv X pins σ H s) (hH : H l = some (.lst xs))
  (e : s.heap.get? l = some { cls := .type "list", data := .seq its.toArray n }) (hf : f its.toArray = its'.toArray) (hv : Ze0 ys its') (hz : ys.length <= sizeLine) :
  Inv X pins σ (upd H l (.lst ys)) { s with heap := s.heap.update l (Obj.mapSeq f), toks := t' } := by
 have q := PySem.IsL.update e f
 rw [hf] at q
 refine I.write (x := l) (e := l) (by rw [hH]; exact trivial) (.inl rfl) (fun b' u hb hu => (Heap.get?_update_other s.heap (Obj.mapSeq f) (Ne.symm hb)).trans hu) ⟨_, q⟩ ?_
 exact ⟨hz, its', _, hv, q⟩
theorem Inv.lnew {its : List Value} {t' : Nat} (I : Inv X pins σ H s) (hv : Ze0 ys its) (hz : ys.length <= sizeLine) :
  Inv X pins σ (upd H s.heap.objs.size (.lst ys)) { s with heap := s.heap.push { cls := .type "list", data := .seq its.toArray }, toks := t' } :=
 I.laid (fun _ _ q => Zdm _ q) (ZbK _) ⟨hz, its, 0, hv, Zdl _ rfl⟩
theorem Inv.fresh (I : Inv X pins σ H s) : H s.heap.objs.size = none := I.hok.fresh (ZbK _)
theorem Inv.lstM (I : Inv X pins σ H s) (hH : H l = some (.lst xs)) : xs.length <= sizeLine /\ ∃ (its : List Value) (n : Nat), Ze0 xs its /\ xs.length = its.length /\ s.heap.get? l = some { cls := .type "list", data := .seq its.toArray n } := by
 obtain ⟨z, its, n, r, e⟩ := I.hok l _ hH
 exact ⟨z, its, n, r, r.length, e⟩
end
section
variable {X : Cx}
def Zl9 : V -> List V -> Hp -> VK -> Prop := fun x vs H Q => ∃ l xs y, x = .ref l /\ vs = [y] /\ H l = some (.lst xs) /\ xs.length < sizeLine /\ Q .non (upd H l (.lst (xs ++ [y])))
theorem Zea : MtM X "list.append" Zl9 := by
 intro pins s σ H x vs v us Q I rx rv h
 obtain ⟨l, xs, y, rfl, rfl, hH, hz, q⟩ := h
 cases rx
 obtain ⟨u, rfl, ru⟩ := rv.one
 obtain ⟨z, its, n, r, hl, e⟩ := I.lstM hH
 refine call_meets F.slot_list_append ⟨_, e, rfl⟩ F.entry_list_append (F.args_list_append_2 _ _) (PySem.list_append l its.toArray n u (by rw [ZaJ]; omega)) ⟨e, ?_⟩
 refine ⟨.non, _, I.lset (its' := its ++ [u]) hH e (by simp) (r.append (.cons ru .nil)) ?_, rfl, q⟩
 rw [ZaC, ZaL]
 omega
end
section
variable {prog : Program} {w : World} {A : Around} {E : Value -> Shared -> Prop} {s : Shared}
set_option maxRecDepth 100000 in
end
section
variable {X : Cx}
end
end L2.Internal
namespace Att.Internal
open PySem PySem.W PySem.Calls PyProof.Rows
theorem Zhw {P : Params} {h : Heap} : ∀ (ns : List Int) (vs : List Value), WellAll P h vs (ns.map WData.int) -> IntsAre vs ns := by
 intro ns
 induction ns with
 | nil =>
  intro vs w
  rw [ZaH] at w
  cases w
  exact .nil
 | cons n ns ih =>
  intro vs w
  rw [Zaq] at w
  cases w with
  | cons a b =>
   cases a
   exact .cons _ _ (ih _ b)
theorem Zma {l : OpenLaw} {n : Nat} (hn : l.most = some n) {P : Params} {h : Heap} {args : List WData} {vals : List Value}
  (hpre : l.row.toRowW.claim.pre args = true) (hwl : WellAll P h vals args) :
  ∃ a vs ns, vals = [Value.ref a] /\ args = [WData.list (ns.map WData.int)] /\ h.get? a = some { cls := .type "list", data := .seq vs.toArray } /\ IntsAre vs ns /\ ns.length <= n := by
 have hsh : WShape.hasAll [] args [.list .int] = true := (pre_splitW hpre).1
 have hc : l.pre.holds [] { args := args } = true := (pre_splitW hpre).2
 obtain ⟨d, r, rfl, h1, h2⟩ := hasAllW_cons hsh
 obtain rfl := hasAllW_nil h2
 obtain ⟨xs, rfl, h3⟩ := hasW_list h1
 obtain ⟨ns, rfl⟩ := items_int h3
 have hlen : ns.length <= n := by
  unfold OpenLaw.pre at hc
  have h4 : (WTm.not (.lt (.lit (.int (n : Int))) (.len (.arg 0)))).holds [] { args := [.list (ns.map .int)] } = true := by
   have h4 := (holds_andW hc).1
   rw [hn] at h4
   exact h4
  have h5 := condW_of h4 (w_not (w_lt w_lit (w_len_list (w_arg rfl))))
  rw [Zar] at h5
  refine ZbO fun q => ?_
  have q' : (n : Int) < ((ns.length : Nat) : Int) := by omega
  first
   | (rw [decide_eq_true q'] at h5; exact absurd h5 (by decide))
   | (simp at h5; omega)
 cases hwl with
 | cons w1 w2 =>
  cases w2
  cases w1 with
  | list ho hall => exact ⟨_, _, ns, rfl, rfl, ho, Zhw ns _ hall, hlen⟩
theorem Zmb (l : OpenLaw) (args : List WData) : l.row.toRowW.claim.post args (.bool true) args = true :=
 postW_of (r := l.row.toRowW) (X := (true == true))
  (show WShape.has [] (.bool true) .bool = true by first | rfl | decide | simp [WShape.has, WShape.arms, WShape.armsAll])
  (show (WTm.eq .res (.lit (.bool true))).value [] { args := args, res := some (.bool true), after := args } = some (.bool (true == true)) from w_eq_bool (w_res rfl) w_lit) rfl
theorem attach_call {l : OpenLaw} {n : Nat} {q : Program} {loose : List Str} {XP : (Str -> Option Value) -> Heap -> Prop} {YP : World -> Heap -> Prop} {d : DefRec}
  (hn : l.most = some n) (hdf : d.params.defaults = [])
  (call : ∀ (w : World) (s₀ s₁ : Shared) (mg mb : Str -> Option Value) (fa : Addr) (o : Obj) (pm cd doc : Value) (a : Addr) (vs : List Value) (ns : List Int),
   Ground q loose [] XP w s₀ mg mb s₁.heap -> YP w s₁.heap ->
   s₁.heap.get? fa = some o -> o.data = .func (docDef d.name d.params d.body d.scope pm cd doc) -> s₁.heap.CodeRec cd d.name -> mg d.name = some (.ref fa) ->
   s₁.heap.get? a = some { cls := .type "list", data := .seq vs.toArray } -> IntsAre vs ns -> ns.length <= n -> s₁.gens = #[] ->
   codeAny (model l.prog w) callerA (.call (.ref fa) ⟨[.ref a], []⟩) (fun r s' => r = .ok (.ret (.bool true)) /\ OldK s₁.heap s'.heap /\ s'.os = s₁.os /\ AllBare s'.gens) s₁) :
  WalkO q loose XP YP l.row.toRowW d [] (fun f vs => PySem.call f vs) := by
 intro w s₀ s₁ mg mb G Y fa o pm cd doc dV kV ho hd hcd hD hmg hg args vals as hpre hlay hrd hwl hlo
 obtain rfl : dV = .none := Dflts.none hD hdf
 obtain rfl : kV = .none := Dflts.noKw hD
 obtain ⟨a, vs, ns, rfl, rfl, hobj, hints, hlen⟩ := Zma hn hpre hwl
 refine enter_call (codeAny_mono (call w s₀ s₁ mg mb fa o pm cd doc a vs ns G Y ho (fd_plain hd) hcd hmg hobj hints hlen hg) fun r s' hq => ?_)
 obtain ⟨rfl, h2, h3, h4⟩ := hq
 exact ⟨.inl ⟨.bool true, .bool true, [], rfl, fun _ => rfl, .bool true, Zmb l _, fun _ => ⟨List.Pairwise.nil, fun _ hm => (nomatch hm)⟩⟩, h2, h3, h4⟩
section
variable {prog : Program} {w : World} {A : Around} {E : Value -> Shared -> Prop} {s : Shared} {K : Frag}
end
end Att.Internal
namespace L2.Internal
open PySem PySem.Spec PyProof.Rows
theorem Zjv : ∀ {vs : List Value} {ns : List Int}, IntsAre vs ns -> Ze0 (ns.map V.int) vs
 | _, _, .nil => .nil
 | _, _, .cons n t h => .cons ⟨t, rfl⟩ (Zjv h)
def Zrf (H : Hp) : Prop := ∀ b, H b = none \/ ∃ o xs, H b = some (.frz o (.lst xs))
theorem Znx {P : Program} {w : World} {K : PySem.W.Frag} {mg mb : Str -> Option Value} {CX : CXT} {k : Nat} {fa a : Addr} {fd : FuncData} {x : Str} {sp : Sp} {s₁ : Shared} {vs : List Value} {ns : List Int}
  (KX : K.In s₁.heap) (hns : s₁.heap.Ns mainGlobals mg) (hb : s₁.heap.Ns builtinsNs mb) (hbb : ∀ x : Str, x ≠ "__name__" -> mb x = bootBuiltins x) (hlim : s₁.heap.NoLimit) (hg : s₁.gens = #[])
  (ha : s₁.heap.get? a = some { cls := .type "list", data := .seq vs.toArray }) (hi : IntsAre vs ns) (hl : ns.length <= sizeLine) (hr : Zg0 k callerA)
  (F : ∀ base : Heap, K.In base -> base.Ns mainGlobals mg -> Zfi P w K mg base CX k fa fd [x] sp) (hbind : ∀ (s : Shared) (u : Value), BindsTo s fd ⟨[u], []⟩ [(x, u)])
  (hsp : ∀ H : Hp, Zrf H -> SqL K H a (ns.map V.int) -> sp [.ref a] H (fun v _ => v = .bl true) fun _ _ _ => False)
  (hCX : ∀ H e s', CX [] H s₁ (fun _ _ _ => False) e s' -> False) :
  codeAny (model P w) callerA (.call (.ref fa) ⟨[.ref a], []⟩) (fun r s' => r = .ok (.ret (.bool true)) /\ OldK s₁.heap s'.heap /\ s'.os = s₁.os /\ AllBare s'.gens) s₁ := by
 have rv := Zjv hi
 have lenV := hi.length
 have core : ∀ H : Hp, Zrf H -> SqL K H a (ns.map V.int) -> HOk P w H s₁.heap -> (∀ b, H b ≠ none -> b = a) -> (H a ≠ none -> K.lookup a = none) ->
   codeAny (model P w) callerA (.call (.ref fa) ⟨[.ref a], []⟩) (fun r s' => r = .ok (.ret (.bool true)) /\ OldK s₁.heap s'.heap /\ s'.os = s₁.os /\ AllBare s'.gens) s₁ := by
  intro H hO hS hok hA hK
  have base_of : ∀ {b : Addr} {o : Obj}, s₁.heap.get? b = some o -> H b = none -> (Znk s₁.heap H).get? b = some o := fun e n => Znl e n
  have noA : ∀ {b : Addr} {o : Obj} {es : Array DictEntry} {ep : Nat}, s₁.heap.get? b = some o -> o.data = .dict es ep -> H b = none := fun {b o es ep} e d => by
   cases q : H b with
   | none => rfl
   | some u =>
    have e' : b = a := hA b (by rw [q]; simp)
    subst e'
    rw [ha] at e; cases e
    have d' : Data.seq vs.toArray _ = Data.dict es ep := d
    cases d'
  have nsK : ∀ {b : Addr} {m : Str -> Option Value}, s₁.heap.Ns b m -> (Znk s₁.heap H).Ns b m := fun {b m} ⟨o, es, ep, e, d, r⟩ => ⟨o, es, ep, base_of e (noA e d), d, r⟩
  have hKb : K.In (Znk s₁.heap H) := fun b o e => base_of (KX b o e) (by
   cases q : H b with
   | none => rfl
   | some u =>
    have e' : b = a := hA b (by rw [q]; simp)
    subst e'
    rw [hK (by rw [q]; simp)] at e; cases e)
  have hM : Mod K mg (Znk s₁.heap H) := ⟨hKb, nsK hns, ⟨mb, nsK hb, hbb⟩, let ⟨mc, h1, h2⟩ := hlim; ⟨mc, nsK h1, h2⟩⟩
  have e0 : ZoJ P w K mg (Znk s₁.heap H) callerA [] s₁ H := ⟨rfl, hM, fun b o e => Zoz e, ZbM (ZlQ _ _), trivial, fun b hb => absurd (show b ∈ ([] : List Addr) from hb) (by simp), hok, .of_eq hg⟩
  refine codeAny_mono ((F _ hKb (nsK hns)).run callerA [] s₁ H ⟨[.ref a], []⟩ [.ref a] [.ref a] _ _ hr e0 (hbind s₁ (.ref a)) (.cons rfl .nil) (hsp H hO hS)) fun r s' h => ?_
  cases r with
  | error e => exact (hCX H e s' h).elim
  | ok fl =>
   cases fl with
   | next => exact False.elim h
   | brk => exact False.elim h
   | cont => exact False.elim h
   | ret u =>
    obtain ⟨v, H', os, bare, un, hok', r', q⟩ := h
    have q' : v = .bl true := q
    subst q'
    obtain rfl : u = Value.bool true := r'
    refine ⟨rfl, OldK.of_keep fun b o e => ?_, os, bare⟩
    cases q : H b with
    | none => exact un.keep b o e q (by intro z; exact absurd (show b ∈ ([] : List Addr) from z) (by simp)) (by simp)
    | some u =>
     rcases hO b with z | ⟨ob, xs, z⟩
     ·rw [q] at z; cases z
     ·have z2 := un.frzs b ob _ z
      obtain ⟨e1, _⟩ := hok b _ z
      obtain ⟨e2, _⟩ := hok' b _ z2
      rw [e] at e1; cases e1
      exact e2
 cases hk : K.lookup a with
 | some o =>
  have e := KX a o hk
  rw [ha] at e
  cases e
  refine core (fun _ => none) (fun _ => .inl rfl) (.inr ⟨_, vs.toArray, _, hk, rfl, rfl, rfl, by rw [ZaJ, lenV]; exact hl, by simpa using rv⟩) (fun b u z => by have z' : (none : Option HO) = some u := z; cases z') (fun b z => absurd rfl z) fun z => absurd rfl z
 | none =>
  refine core (fun b => if b = a then some (.frz { cls := .type "list", data := .seq vs.toArray } (.lst (ns.map V.int))) else none) (fun b => ?_) (.inl (.inr ⟨{ cls := .type "list", data := .seq vs.toArray }, if_pos rfl⟩)) (fun b u z => ?_) (fun b z => ?_) fun _ => hk
  ·by_cases hb : b = a
   ·exact .inr ⟨_, _, if_pos hb⟩
   ·exact .inl (if_neg hb)
  ·by_cases hb : b = a
   ·have z' := (if_pos hb).symm.trans z
    cases z'
    subst hb
    exact ⟨ha, by rw [Zar]; exact hl, vs, _, rv, ha⟩
   ·have z' := (if_neg hb).symm.trans z
    cases z'
  ·by_cases hb : b = a
   ·exact hb
   ·exact absurd (if_neg hb) z
end L2.Internal
namespace L2.Internal
open PySem PySem.Spec PyProof.Rows
theorem walk_of {l : PySem.W.OpenLaw} {n k : Nat} {q : Program} {loose : List Str} {XP : (Str -> Option Value) -> Heap -> Prop} {YP : World -> Heap -> Prop} {d : DefRec} {K : Params -> PySem.W.Frag} {CX : World -> CXT} {sp : World -> Sp} {x : Str}
  (hn : l.most = some n) (hn2 : n <= sizeLine) (hdf : d.params.defaults = []) (hr : Zg0 k callerA)
  (hY : ∀ (w : World) (h : Heap), YP w h -> (K w.params).In h)
  (F : ∀ (w : World) (mg : Str -> Option Value) (fa : Addr) (h : Heap), (K w.params).In h -> h.Ns mainGlobals mg -> mg d.name = some (.ref fa) ->
   ∃ fd : FuncData, (∀ (s : Shared) (u : Value), BindsTo s fd ⟨[u], []⟩ [(x, u)]) /\
    ∀ base : Heap, (K w.params).In base -> base.Ns mainGlobals mg -> Zfi l.prog w (K w.params) mg base (CX w) k fa fd [x] (sp w))
  (hsp : ∀ (w : World) (H : Hp) (a : Addr) (ns : List Int), ns.length <= n -> Zrf H -> SqL (K w.params) H a (ns.map V.int) -> sp w [.ref a] H (fun v _ => v = .bl true) fun _ _ _ => False)
  (hCX : ∀ (w : World) (H : Hp) (s : Shared) (e : Value) (s' : Shared), CX w [] H s (fun _ _ _ => False) e s' -> False) :
  PySem.W.WalkO q loose XP YP l.row.toRowW d [] (fun f vs => PySem.call f vs) := by
 refine Att.Internal.attach_call hn hdf fun w s₀ s₁ mg mb fa o pm cd doc a vs ns G Y ho hd hcd hmg hobj hints hlen hg => ?_
 have KX := hY w _ Y
 obtain ⟨fd, hb, hF⟩ := F w mg fa _ KX G.T.g hmg
 exact Znx KX G.T.g G.T.b G.T.builtins G.T.nolimit hg hobj hints (ZbH hlen hn2) hr hF hb (fun H hO hS => hsp w H a ns hlen hO hS) fun H e s' => hCX w H s₁ e s'
end L2.Internal
namespace L2.Internal
open PySem PySem.Spec PyProof.Rows
noncomputable def Zed (s : Stmt) (j : Nat) : Stmt := match s with
 | .ClassDef _ _ _ body _ _ _ _ _ _ _ => body.getD j (.Pass ⟨0, 0, 0, 0⟩)
 | _ => .Pass ⟨0, 0, 0, 0⟩
noncomputable def ZdJ (s : Stmt) : Arguments := match s with
 | .FunctionDef _ a _ _ _ _ _ _ _ _ => a
 | _ => { posonlyargs := [], args := [], vararg := none, kwonlyargs := [], kw_defaults := [], kwarg := none, defaults := [] }
noncomputable def ZdH (s : Stmt) : List Stmt := match s with
 | .FunctionDef _ _ b _ _ _ _ _ _ _ => b
 | _ => []
noncomputable def Zdx (s : Stmt) : Scope := match s with
 | .FunctionDef _ _ _ _ _ _ sc _ _ _ => sc
 | _ => { kind := .function, names := [], isGenerator := false, isCoroutine := false }
noncomputable abbrev CX0 : CXT := fun _ _ _ _ _ _ => False
noncomputable abbrev E0 : XK := fun _ _ _ => False
theorem ZdR {X : Cx} : Zhb CX0 X E0 := fun _ _ _ _ _ _ _ h => h.elim
structure Fun (K : PySem.W.Frag) (x qual : Str) (st : Stmt) (f : Addr) (fd : FuncData) : Prop where
 ex : ∃ (oc : Value) (od : Option Addr) (kV doc pm : Value) (an : Option Addr) (cdv ct : Value) (osl : Array (Option Value)),
  fd = ZcH x qual (ZdJ st) (ZdH st) (Zdx st) .none kV doc pm an cdv ct /\ K.lookup f = some ⟨oc, od, .func fd, osl⟩ /\ ZcI K cdv qual = true
 kp : Zcx K (.ref f) = true
section
variable {P : Program} {w : World} {K : PySem.W.Frag} {mg : Str -> Option Value} {base : Heap}
theorem Fun.ok {x qual : Str} {st : Stmt} {f : Addr} {fd : FuncData} {N ps : List Str} {k : Nat} {sp : Sp} (F : Fun K x qual st f fd) (S : ZdL N ps (Zdx st)) (len : ∀ vs H Q E, sp vs H Q E -> vs.length = ps.length)
  (hbody : ∀ (cdv : Value) (A : Around) (outer : List Env) (s : Shared) (H : Hp) (vs : List V) (Q : VK) (E : XK), Zg0 k (A.deeper (envOfC qual (Zdx st) s.heap.objs.size f cdv)) -> sp vs H Q E ->
   ∃ t, PSs (ZpH CX0 P w K mg base N qual (Zdx st) f cdv A outer s H E).nox (ZdH st) t /\ t { nx := fun _ H' => Q .non H', rt := Q } (Zjp N vs) H) : Zfi P w K mg base CX0 (k + 1) f fd ps sp := by
 obtain ⟨oc, od, kV, doc, pm, an, cdv, ct, osl, rfl, lk, hcd⟩ := F.ex
 refine Zra lk hcd S len fun A outer s H vs Q E hr hsp => ?_
 obtain ⟨t, h, q⟩ := hbody cdv A outer s H vs Q E hr hsp
 exact ⟨t, h.nox, q⟩
theorem Fun.binds {x qual : Str} {st : Stmt} {f : Addr} {fd : FuncData} {ps : List Str} (F : Fun K x qual st f fd)
  (h : ∀ (kV doc pm : Value) (an : Option Addr) (cdv ct : Value) (us : List Value), us.length = ps.length -> bindArgs (ZcH x qual (ZdJ st) (ZdH st) (Zdx st) .none kV doc pm an cdv ct) ⟨us, []⟩ = pure (ps.zip us)) : Zd8 K fd ps [] := by
 obtain ⟨oc, od, kV, doc, pm, an, cdv, ct, osl, rfl, lk, hcd⟩ := F.ex
 exact .all (h kV doc pm an cdv ct)
theorem ZdE {x qual : Str} {st : Stmt} {f : Addr} {oc : Value} {od an : Option Addr} {osl : Array (Option Value)} {kV doc pm cdv ct : Value} (l : K.lookup f = some ⟨oc, od, .func (ZcH x qual (ZdJ st) (ZdH st) (Zdx st) .none kV doc pm an cdv ct), osl⟩)
  (c : ZcI K cdv qual = true) (k : Zcx K (.ref f) = true) : Fun K x qual st f (ZcH x qual (ZdJ st) (ZdH st) (Zdx st) .none kV doc pm an cdv ct) := ⟨⟨oc, od, kV, doc, pm, an, cdv, ct, osl, rfl, l, c⟩, k⟩
end
theorem Zlp {A : Around} {k : Nat} (hr : Zg0 k A) : A.units + 1 < cLine := Nat.lt_of_le_of_lt (Nat.add_le_add_left (by decide : 1 <= 64) _) hr.units
section
variable {X : Cx}
theorem pv (i : Nat) {x : Str} {pos : Pos} (hN : autoParam (X.N[i]? = some x) L2.Internal.auR._auto_1) (hv : Vis X.env.scope x := by first | exact Or.inl rfl | exact Or.inr (.inl rfl) | exact Or.inr (.inr rfl)) (hd : autoParam ((x == ("__debug__" : Str)) = false) L2.Internal.auD._auto_1)
  (hcd : autoParam ((x == ("__classdict__" : Str)) = false) L2.Internal.auD._auto_1) : PE X (.Name x pos) (ZrN i) := ZpP hN hv hd hcd
end
theorem ZfA {A B : Prop} (h : B) : if false = true then A else B := by
 rw [if_neg ZcX]
 exact h
theorem ZgJ {A B : Prop} (h : A) : if true = true then A else B := by
 rw [if_pos rfl]
 exact h
theorem ZqS {c A B : Prop} [Decidable c] (h1 : c -> A) (h2 : ¬ c -> B) : if c then A else B := by
 by_cases h : c
 ·rw [if_pos h]
  exact h1 h
 ·rw [if_neg h]
  exact h2 h
def ZdN (H H' : Hp) : Prop := ∀ b o, H b = some o -> H' b = some o
theorem ZdN.refl (H : Hp) : ZdN H H := fun _ _ h => h
theorem ZdN.trans {H H1 H2 : Hp} (a : ZdN H H1) (b : ZdN H1 H2) : ZdN H H2 := fun c o h => b c o (a c o h)
theorem ZdN.free {H H' : Hp} (e : ZdN H H') {l : Addr} (h : H' l = Option.none) : H l = Option.none := by
 cases q : H l with
 | none => rfl
 | some o =>
  rw [e l o q] at h
  cases h
theorem ZdN.seq {K : PySem.W.Frag} {H H' : Hp} {a : Addr} {xs : List V} (e : ZdN H H') (h : SqL K H a xs) : SqL K H' a xs := by
 rcases h with (h | ⟨o, h⟩) | h
 ·exact .inl (.inl (e _ _ h))
 ·exact .inl (.inr ⟨o, e _ _ h⟩)
 ·exact .inr h
section
variable {X : Cx}
end
section
variable {κ : Type} [DecidableEq κ]
end
end L2.Internal
namespace L2.Internal
open PySem PySem.Spec PyProof.Rows
section
variable {X : Cx}
theorem Zny {x : Str} {a : Addr} {pos : Pos} (hg : Gl X x) (hm : X.mg x = some (.ref a)) (hd : autoParam ((x == ("__debug__" : Str)) = false) L2.Internal.auD._auto_1) : PE X (.Name x pos) (tC (.ref a)) := ZoA hg hm (show ZeL (.ref a) _ from rfl) hd
theorem ZgM {x : Str} {n : String} {pos : Pos} (hg : Gl X x) (hm : X.mg x = none) (hv : bootBuiltins x = some (.type n)) (hn : autoParam (x ≠ "__name__") L2.Internal.auD._auto_1) (hd : autoParam ((x == ("__debug__" : Str)) = false) L2.Internal.auD._auto_1) : PE X (.Name x pos) (tC (.ty n)) := ZoB hg hm hv (show ZeL (.ty n) _ from rfl) hn hd
end
theorem Zhx : bootBuiltins "len" = some (.builtin "len") := by decide +kernel
theorem Zp9 : bootBuiltins "all" = some (.builtin "all") := by decide +kernel
theorem Zmc : bootBuiltins "sum" = some (.builtin "sum") := by decide +kernel
theorem Zee : bootBuiltins "isinstance" = some (.builtin "isinstance") := by decide +kernel
theorem Zn8 : bootBuiltins "int" = some (.type "int") := by decide +kernel
theorem Zqa : bootBuiltins "str" = some (.type "str") := by decide +kernel
theorem ZoT : bootBuiltins "bool" = some (.type "bool") := by decide +kernel
theorem Zhy : bootBuiltins "list" = some (.type "list") := by decide +kernel
theorem Zho : bootBuiltins "tuple" = some (.type "tuple") := by decide +kernel
theorem Zmd : bootBuiltins "dict" = some (.type "dict") := by decide +kernel
noncomputable def Its (x : Str) : It := ⟨fun i _ => i < x.cps.size, fun i H v H' => H' = H /\ ∃ c, x.cps[i]? = some c /\ v = .str ⟨#[c]⟩, fun i _ => i = x.cps.size⟩
theorem ZkI {P : Program} {w : World} {K : PySem.W.Frag} {tg : Expr} (it : Addr) (T : String) (x : Str) (t : Tok)
  (hT : ["enumerate", "zip", "dict_itemiterator", "dict_reverseitemiterator", "odict_iterator", "itertools.zip_longest", "itertools.pairwise"].contains T = false)
  (W : ∀ A : Around, A.handled = none -> Walks P w A it [it] [it] x.cps.size (SignAt x) (fun i h => h.IsStrIter it T x t i))
  (hself : ∀ (A : Around) (i : Nat) (s : Shared) (Q : Value -> Shared -> Prop) (E : Value -> Shared -> Prop), s.heap.IsStrIter it T x t i -> Q (.ref it) s -> wpAny (model P w) A (pyIter (.ref it)) Q E s) :
  ZpF P w K tg (Its x) [it] it (fun i h => h.IsStrIter it T x t i) where
 mem := by simp
 obj := fun i h st b hb => by
  have e : b = it := by simpa using hb
  subst e
  obtain ⟨o, e, c, d⟩ := st
  exact ⟨o, e, fun v z => by rw [d] at z; cases z⟩
 keep := fun i h h' st k => by
  obtain ⟨o, e, r⟩ := st
  exact ⟨o, k it (by simp) o e, r⟩
 item := by
  intro X hP hw hK hc i pins s σ H E I hf st hg
  subst hP hw hK
  obtain ⟨f0, f1, f2, f3, f4, f5⟩ := hf it (by simp)
  refine (W X.A (I.ok.hd hc)).item i s _ _ hg st fun v h' tk hv st' kk => ?_
  obtain ⟨c, u, hc', rfl⟩ := hv
  have I1 : Inv X pins σ H { s with heap := h', toks := tk } := I.turned (fun b o hb e => kk b o (by simpa using hb) e) f0 f1 f3 f4 f5
  obtain ⟨o, e, c1, d⟩ := id st'
  exact ⟨_, rfl, Zno (s := { s with heap := h', toks := tk }) e c1 d hT ⟨.str ⟨#[c]⟩, H, I1, ⟨u, rfl⟩, ⟨rfl, c, hc', rfl⟩, st', fun b hb => (hf b hb).1⟩⟩
 done := by
  intro X hP hw hK hc i pins s σ H E I hf st hg
  subst hP hw hK
  obtain ⟨f0, f1, f2, f3, f4, f5⟩ := hf it (by simp)
  have hg' : i = x.cps.size := hg
  subst hg'
  exact (W X.A (I.ok.hd hc)).done s _ _ st fun h' tk kk => ⟨rfl, I.turned (fun b o hb e => kk b o (by simpa using hb) e) f0 f1 f3 f4 f5⟩
 self := fun A i s Q E st h => hself A i s Q E st h
section
variable {X : Cx} {tg : Expr}
def iStr (tl : TE) : TI := fun σ H R => tl σ H fun v H1 => ∃ x, v = .str x /\ R (Its x) H1
theorem Zqb {l : Expr} {tl : TE} (hl : PE X l tl) : PI X tg l (iStr tl) := by
 intro pins s σ H R I h
 refine thn (hl pins s σ H _ I h) fun v s1 ⟨y, H1, I1, r1, q1⟩ => ?_
 obtain ⟨x, e, q⟩ := q1
 subst e
 obtain ⟨t, rfl⟩ := r1
 have fp : ∀ b ∈ [s1.heap.objs.size], ZkC X pins H1 b := fun b hb => by
  have e : b = s1.heap.objs.size := by simpa using hb
  subst e
  exact I1.fpOk (ZbK _) (I1.hok.fresh (ZbK _))
 cases ha : x.cps.all (· < 128)
 ·refine wpAny_pyIter_wide ha ?_
  exact ⟨s1.heap.objs.size, [s1.heap.objs.size], _, _, H1, rfl, I1.kept (t' := s1.toks) fun b o e => Zdm _ e,
   ZkI _ "str_iterator" x t (by decide) (fun A hA => Walks.strWide hA _ x t) (fun _ _ _ _ _ st h => wpAny_pyIter_striter_wide st h), ⟨_, Zdl _ rfl, rfl, rfl⟩, fp, q⟩
 ·refine wpAny_pyIter_ascii ha ?_
  exact ⟨s1.heap.objs.size, [s1.heap.objs.size], _, _, H1, rfl, I1.kept (t' := s1.toks) fun b o e => Zdm _ e,
   ZkI _ "str_ascii_iterator" x t (by decide) (fun A hA => Walks.strAscii hA _ x t) (fun _ _ _ _ _ st h => wpAny_pyIter_striter_ascii st h), ⟨_, Zdl _ rfl, rfl, rfl⟩, fp, q⟩
end
noncomputable def blk (X : Cx) (N : List Str) (scope : Scope) (cl : List (Str × Addr)) (C : Addr) (s₀ : Shared) (H₀ : Hp) (ex : List Addr) (pins : List (Addr × Obj)) : Cx :=
 { X with N := N, s₀ := s₀, H₀ := H₀, env := compEnvC scope cl C X.env, outer := X.stack, stack := X.stack, ex := ex, fn := fun _ => false, pn := X.pn ++ pins, xe := fun _ _ => False }
def PTs (X : Cx) (cs : List Expr) (t : TT) : Prop :=
 ∀ (pins : List (Addr × Obj)) (s : Shared) (σ : St) (H : Hp) (Q : Bool -> Hp -> Prop), Inv X pins σ H s -> t σ H Q ->
  wpAny (model X.prog X.w) X.A (forIn cs true fun c r => if r = true then do let ok <- isTrue c X.env (eval c X.env); pure (ForInStep.yield ok) else pure (ForInStep.yield r)) (TP X pins σ Q) X.xe s
def Zkc : TT := fun _ H Q => Q true H
theorem ZfS {X : Cx} : PTs X [] Zkc := fun pins s σ H Q I h => wpAny_pure ⟨H, I, h⟩
theorem ZoU {X : Cx} {c : Expr} {t : TT} (h : PT X c t) : PTs X [c] t := fun pins s σ H Q I hw => wpAny_tests_one (h pins s σ H Q I hw)
structure Zme (X : Cx) (N : List Str) (scope : Scope) (cl : List (Str × Addr)) (f : St -> St) (i : Nat) (x : Str) : Prop where
 kind : scope.kind = .function
 cell : ∀ y ∈ scope.names, y.2 ≠ .cell
 names : ∀ y ∈ scope.names, y.2 = .local -> scope.names.lookup y.1 = some .local
 clos : closureFor scope X.env = pure cl
 lk : ∀ y c, cl.lookup y = some c -> X.env.cells.lookup y = some c
 has : ∀ y, ((relabel scope X.env).names.lookup y = some .cell \/ (relabel scope X.env).names.lookup y = some .free) -> ∃ c, cl.lookup y = some c
 nd : N.Nodup
 ix : N[i]? = some x
 loc : scope.names.lookup x = some .local
 len : ∀ σ, σ.length = X.N.length -> (f σ).length = N.length
 val : ∀ (σ : St) (k : Nat) (y : Str) (v : V), N[k]? = some y -> (f σ)[k]? = some (some v) -> ∃ j : Nat, X.N[j]? = some y /\ σ[j]? = some (some v) /\ X.env.scope.names.lookup y = some .cell /\ (relabel scope X.env).names.lookup y = some .cell
theorem Zmf {X : Cx} {N : List Str} {scope : Scope} {cl : List (Str × Addr)} {f : St -> St} {i : Nat} {x : Str} (B : Zme X N scope cl f i x) {pins : List (Addr × Obj)} {σ : St} {H : Hp} {s : Shared} {h₁ : Heap} {tk : Nat} {m : Str -> Option Value} {ex : List Addr}
  (I : Inv X pins σ H s) (hex : ∀ b ∈ ex, ZkC X pins H b /\ b < s.heap.objs.size) (keep : ∀ b o, s.heap.get? b = some o -> h₁.get? b = some o) (hn : h₁.Ns s.heap.objs.size m) :
  Inv (blk X N scope cl s.heap.objs.size s H ex pins) [] (f σ) H { s with heap := h₁, toks := tk } := by
 have nst : ∀ b, b ≠ X.env.locals -> b ∉ X.fs -> b ∉ frs X.stack := fun b h1 h2 hb => (Zag.mp (I.stkSub b hb)).elim h1 h2
 have ltC : ∀ y c, X.env.cells.lookup y = some c -> c < s.heap.objs.size := fun y c e => by
  obtain ⟨v, o, ho, _⟩ := I.cell y c e
  exact Zdk ho
 refine ⟨⟨I.ok.mod, B.kind, I.ok.glob, I.ok.blt, ZbK _, fun y z c h1 h2 => I.ok.inj y z c (B.lk y c h1) (B.lk z c h2), fun y hy => B.has y hy, fun y c h => (nomatch h), I.ok.hd, I.ok.frames, .inl rfl, fun b hb => ?_, I.bs, ZbH I.ok.bsz I.sz, fun b o e hb => ?_, fun b hb => ?_, I.stack, I.stkFree⟩,
  rfl, I.bare, Un.kept keep, ⟨m, hn, fun k y v e1 e2 e3 => ?_⟩, fun y c e => ?_, I.hok.fresh (ZbK _), fun y c e => I.freeC y c (B.lk y c e), fun p hp => ?_, I.hok.kept keep, B.len σ I.len⟩
 ·obtain ⟨⟨_, _, _, _, hc, _⟩, lt⟩ := hex b hb
  exact ⟨ZbG lt, fun y c e => hc y c (B.lk y c e)⟩
 ·obtain ⟨⟨_, _, _, h4, _, _⟩, _⟩ := hex b hb
  rcases h4 with z | z
  ·exact I.ok.noex b o e z
  ·exact absurd (ZbE (Zdk (I.ok.bs b o e).1) z) (ZbF _)
 ·obtain ⟨⟨_, h2, h3, _, _, _⟩, _⟩ := hex b hb
  exact nst b h2 h3
 ·obtain ⟨j, h1, h2, h3, h4⟩ := B.val σ k y v e1 e2
  obtain ⟨m', _, hl⟩ := I.loc
  obtain ⟨u, r, l⟩ := hl j y v h1 h2 (.inr (.inl h3))
  refine ⟨u, r, ?_⟩
  rcases l with ⟨hk, _⟩ | ⟨_, c, hc, z⟩
  ·have hk' : X.env.scope.names.lookup y = some .local := hk
   rw [h3] at hk'
   cases hk'
  ·obtain ⟨c', hc'⟩ := B.has y (.inl h4)
   have e : c' = c := Zce.inj ((B.lk y c' hc').symm.trans hc)
   subst e
   obtain ⟨o, ho, hd⟩ := z
   exact .inr ⟨.inl h4, c', hc', o, keep _ o ho, hd⟩
 ·obtain ⟨v, o, ho, hd⟩ := I.cell y c (B.lk y c e)
  exact ⟨v, o, keep _ o ho, hd⟩
 ·rw [Zas] at hp
  obtain ⟨e, n, ne, nf, d⟩ := I.pin p hp
  exact ⟨keep _ _ e, n, ZbG (Zdk e), nst _ ne nf, d⟩
theorem Ze5 {env : Env} : ∀ {names : List (Str × NameKind)} {x : Str} {k : NameKind},
  (names.map fun (n, k) => if (k == NameKind.free && env.scope.kind == .function && env.kindOf n == some .cell) then (n, NameKind.cell) else (n, k)).lookup x = some k ->
  ∃ k0, names.lookup x = some k0 /\ (k = k0 \/ (k0 = .free /\ k = .cell))
 | [], _, _, h => by simp at h
 | (n, k0) :: r, x, k, h => by
  have ih := @Ze5 env r x k
  have h : Zap x ((if (k0 == NameKind.free && env.scope.kind == .function && env.kindOf n == some .cell) = true then (n, NameKind.cell) else (n, k0)) :: (r.map fun (n, k) => if (k == NameKind.free && env.scope.kind == .function && env.kindOf n == some .cell) then (n, NameKind.cell) else (n, k))) = some k := h
  cases hx : x == n with
  | true =>
   by_cases hc : (k0 == NameKind.free && env.scope.kind == .function && env.kindOf n == some .cell) = true
   ·rw [if_pos hc] at h
    simp only [ZaM, hx] at h ⊢
    have hf : k0 = .free := by
     have hc' := hc
     simp only [ZcZ] at hc'
     exact eq_of_beq hc'.1.1
    exact ⟨k0, rfl, .inr ⟨hf, (Zce.inj h).symm⟩⟩
   ·rw [if_neg hc] at h
    simp only [ZaM, hx] at h ⊢
    exact ⟨k0, rfl, .inl (Zce.inj h).symm⟩
  | false =>
   have h2 : (r.map fun (n, k) => if (k == NameKind.free && env.scope.kind == .function && env.kindOf n == some .cell) then (n, NameKind.cell) else (n, k)).lookup x = some k := by
    by_cases hc : (k0 == NameKind.free && env.scope.kind == .function && env.kindOf n == some .cell) = true
    ·rw [if_pos hc] at h; simp only [ZaM, hx] at h; exact h
    ·rw [if_neg hc] at h; simp only [ZaM, hx] at h; exact h
   obtain ⟨k1, e1, e2⟩ := ih h2
   exact ⟨k1, by simp only [ZaM, hx]; exact e1, e2⟩
theorem ZfC {env : Env} (hk : env.scope.kind = .function) : ∀ {names : List (Str × NameKind)} {x : Str}, env.scope.names.lookup x = some .cell -> names.lookup x = some .free ->
  (names.map fun (n, k) => if (k == NameKind.free && env.scope.kind == .function && env.kindOf n == some .cell) then (n, NameKind.cell) else (n, k)).lookup x = some .cell
 | [], _, _, h => by simp at h
 | (n, k0) :: r, x, hc, h => by
  have ih := @ZfC env hk r x hc
  show Zap x ((if (k0 == NameKind.free && env.scope.kind == .function && env.kindOf n == some .cell) = true then (n, NameKind.cell) else (n, k0)) :: _) = _
  cases hx : x == n with
  | true =>
   simp only [ZaM, hx] at h
   cases h
   have e : x = n := eq_of_beq hx
   have hc' : env.kindOf n = some .cell := by rw [<- e]; exact hc
   simp [ZaM, hx, hk, hc']
  | false =>
   simp only [ZaM, hx] at h
   by_cases hq : (k0 == NameKind.free && env.scope.kind == .function && env.kindOf n == some .cell) = true
   ·rw [if_pos hq]; simp only [ZaM, hx]; exact ih h
   ·rw [if_neg hq]; simp only [ZaM, hx]; exact ih h
theorem ZrW {X : Cx} {scope : Scope} {x : Str} (hk : scope.kind = .function) (hn : ∀ p ∈ scope.names, p.2 ≠ .cell /\ p.2 ≠ .free) (hl : ∀ y ∈ scope.names, y.2 = .local -> scope.names.lookup y.1 = some .local)
  (hx : scope.names.lookup x = some .local) (hc : closureFor scope X.env = pure []) : Zme X [x] scope [] (fun _ => [none]) 0 x where
 kind := hk
 cell := fun y hy => (hn y hy).1
 names := hl
 clos := hc
 lk := fun y c h => by simp at h
 has := fun y h => by
  rcases h with h | h
  ·obtain ⟨k0, e, z⟩ := Ze5 h
   have m := hn _ (PySem.mem_of_lookup e)
   rcases z with z | ⟨z, _⟩
   ·exact absurd z.symm m.1
   ·exact absurd z m.2
  ·obtain ⟨k0, e, z⟩ := Ze5 h
   have m := hn _ (PySem.mem_of_lookup e)
   rcases z with z | ⟨z, _⟩
   ·exact absurd z.symm m.2
   ·exact absurd z m.2
 nd := by simp
 ix := rfl
 loc := hx
 len := fun _ _ => rfl
 val := fun σ k y v h1 h2 => by
  cases k with
  | zero => simp at h2
  | succ k => simp at h2
def LcP (J : It) (i : Nat) (tt : TT) (te : TE) (Q : VK) (τ : St) (H1 : Hp) (D : Addr) : Prop :=
 ∃ W : Nat -> Nat -> St -> Hp -> Prop, (∃ m, W 0 m τ (upd H1 D (.lst []))) /\ ∀ k m σ' H2, W k m σ' H2 ->
  (J.stop k H2 /\ Q (.ref D) H2) \/ (J.go k H2 /\ ∀ v H3, J.yld k H2 v H3 -> tt (σ'.set i (some v)) H3 fun ok H4 => if ok = true
   then te (σ'.set i (some v)) H4 fun y H5 => ∃ xs, H5 D = some (.lst xs) /\ xs.length < sizeLine /\ ∃ m', m' < m /\ W (k + 1) m' (σ'.set i (some v)) (upd H5 D (.lst (xs ++ [y])))
   else ∃ m', m' < m /\ W (k + 1) m' (σ'.set i (some v)) H4)
def tLC (wi : TI) (f : St -> St) (i : Nat) (tt : TT) (te : TE) : TE := fun σ H Q => wi σ H fun J H1 => ∀ D, H1 D = none -> LcP J i tt te Q (f σ) H1 D
theorem Zjw {X : Cx} {elt iter : Expr} {x : Str} {px : Pos} {ifs : List Expr} {scope : Scope} {pos : Pos} {N : List Str} {cl : List (Str × Addr)} {f : St -> St} {i : Nat} {wi : TI} {tt : TT} {te : TE}
  (hc : X.calm = true) (B : Zme X N scope cl f i x) (hi : PI X (.Name x px) iter wi)
  (htt : ∀ C s₀ H₀ ex pins, PTs (blk X N scope cl C s₀ H₀ ex pins) ifs tt) (hte : ∀ C s₀ H₀ ex pins, PE (blk X N scope cl C s₀ H₀ ex pins) elt te)
  (hs : autoParam (∀ x, foldedSetIterable iter X.env x = pure x) L2.Internal.auI._auto_1) : PE X (.ListComp elt [⟨.Name x px, iter, ifs, 0⟩] scope pos) (tLC wi f i tt te) := by
 intro pins s σ H Q I h
 rw [eval_ListComp]
 refine wpAny_comprehension_free (use := none) rfl hs B.clos B.kind B.names (thn (hi pins s σ H _ I h) fun xv s1 h1 => thn h1 fun itv s2 h2 => ?_)
 obtain ⟨it, fp, tn, J, H2, rfl, I2, T, st2, f2, q⟩ := h2
 have hD : H2 s2.heap.objs.size = none := I2.fresh
 obtain ⟨W, ⟨m0, w0⟩, turn⟩ := q _ hD
 refine wpAny_newObj_type (wpAny_newFunctionEnv B.cell (by intro y hy; simp at hy) (fun h₁ hns₁ hsb₁ => ?_) B.kind)
 have I3 : Inv X pins σ (upd H2 s2.heap.objs.size (.lst [])) { s2 with heap := s2.heap.push { cls := .type "list", data := .seq ([] : List Value).toArray } } := I2.lnew (its := []) (ys := []) (t' := s2.toks) .nil (ZbL _)
 have lt2 : ∀ b ∈ fp, b < s2.heap.objs.size := fun b hb => by
  obtain ⟨o, ho, _⟩ := T.obj _ _ st2 b hb
  exact Zdk ho
 have fp3 : ∀ b ∈ fp, ZkC X pins (upd H2 s2.heap.objs.size (.lst [])) b := fun b hb => by
  refine ⟨?_, (f2 b hb).2⟩
  rw [ZdA (ZbG (lt2 b hb))]
  exact (f2 b hb).1
 generalize hs3 : ({ s2 with heap := s2.heap.push { cls := .type "list", data := .seq ([] : List Value).toArray } } : Shared) = s3 at I3 hns₁ hsb₁ ⊢
 have eh : s2.heap.push { cls := .type "list", data := .seq ([] : List Value).toArray } = s3.heap := by rw [<- hs3]
 have lt3 : ∀ b ∈ fp, b < s3.heap.objs.size := fun b hb => by
  rw [<- eh, Zdn]
  exact ZbP (lt2 b hb)
 have old : ∀ b o, s3.heap.get? b = some o -> h₁.get? b = some o := fun b o e => hsb₁.extBut b o (ZbG (Zdk e)) (Zdm _ e)
 have I4 := Zmf (tk := s3.toks + ([] : List (Str × Value)).length) B I3 (ex := fp) (fun b hb => ⟨fp3 b hb, lt3 b hb⟩) old hns₁
 have st4 : tn 0 h₁ := T.keep _ _ _ st2 fun b _ o e => old b o (by rw [<- eh]; exact Zdm _ e)
 have fpB : ∀ {H' : Hp}, (∀ b ∈ fp, H' b = none) -> ∀ b ∈ fp, ZkC (blk X N scope cl s3.heap.objs.size s3 (upd H2 s2.heap.objs.size (.lst [])) fp pins) [] H' b := fun {H'} hn b hb => by
  obtain ⟨_, g2, g3, g4, g5, g6⟩ := f2 b hb
  refine ⟨hn b hb, ZbG (lt3 b hb), fun z => (Zag.mp (I3.stkSub b z)).elim g2 g3, .inl hb, fun y c e => g5 y c (B.lk y c e), fun p hp => ?_⟩
  rw [Zas] at hp
  exact g6 p hp
 have loop : ∀ s4 : Shared, s4 = { s3 with heap := h₁, toks := s3.toks + ([] : List (Str × Value)).length } ->
   codeAny (model X.prog X.w) X.A (.compLoop (.ListComp elt [⟨.Name x px, iter, ifs, 0⟩] scope pos) 0 (.ref it) (.ref s2.heap.objs.size) (compEnvC scope cl s3.heap.objs.size X.env))
    (compPost (model X.prog X.w) X.A X.xe none (EP X pins σ Q) (.ref s2.heap.objs.size) s3.heap.objs.size) s4 := by
  rintro s4 rfl
  refine codeAny_compLoop_tests (I := fun n s' => ∃ k σ' H', Inv (blk X N scope cl s3.heap.objs.size s3 (upd H2 s2.heap.objs.size (.lst [])) fp pins) [] σ' H' s' /\ tn k s'.heap /\ (∀ b ∈ fp, H' b = none) /\ W k n σ' H') ?_ m0
   ⟨0, f σ, _, I4, st4, fun b hb => (fp3 b hb).1, w0⟩
  rintro n s5 ⟨k, σ5, H5, I5, st5, fr5, w5⟩
  rcases turn k n σ5 H5 w5 with ⟨stop, qn⟩ | ⟨go, step⟩
  ·refine wpAny_mono (T.done (blk X N scope cl s3.heap.objs.size s3 (upd H2 s2.heap.objs.size (.lst [])) fp pins) rfl rfl rfl hc k [] s5 σ5 H5 _ I5 (fpB fr5) st5 stop) (fun r s6 h6 => ?_) fun _ _ z => z
   obtain ⟨hr, I6⟩ := h6
   subst hr
   obtain ⟨m6, hn6, _⟩ := id I6.loc
   refine ⟨m6, hn6, fun h' sb => ?_⟩
   have nC : ∀ b o, s3.heap.get? b = some o -> b ≠ s3.heap.objs.size := fun b o e => ZbG (Zdk e)
   have u6 : Un (frs X.stack) fp (upd H2 s2.heap.objs.size (.lst [])) H5 s3.heap s6.heap := I6.base
   have u7 : Un (frs X.stack) fp (upd H2 s2.heap.objs.size (.lst [])) H5 s3.heap h' :=
    ⟨fun b o e z1 z2 z3 => (sb.2 b (nC b o e)).trans (u6.keep b o e z1 z2 z3), fun b o e z1 z2 z3 => by
     obtain ⟨sl, e1⟩ := u6.slot b o e z1 z2 z3
     exact ⟨sl, (sb.2 b (nC b o e)).trans e1⟩, u6.free, fun b o e z => by
     obtain ⟨o', e1⟩ := u6.there b o e z
     exact ⟨o', (sb.2 b (nC b o e)).trans e1⟩, u6.tups, u6.frzs, u6.tbls⟩
   have hok7 : HOk X.prog X.w H5 h' := fun b o e => (I6.hok b o e).stay (fun c w' hcc e1 => (sb.2 c (fun z => by
     have fr : H5 s3.heap.objs.size = none := I6.free
     rcases hcc with y | y
     ·rw [<- y, z, fr] at e; cases e
     ·rw [z, fr] at y; cases y)).trans e1) (fun _ z => z) fun _ _ z => z
   have I7 : Inv X pins σ H5 { s6 with heap := h' } := I3.call' (s' := { s6 with heap := h' }) (ch := fp) I6.os u7 hok7 I6.bare fun b hb => by
    obtain ⟨_, g2, g3, g4, g5, g6⟩ := f2 b hb
    exact ⟨g4, g2, g5, g6⟩
   exact ⟨.ref s2.heap.objs.size, H5, I7, rfl, qn⟩
  ·refine wpAny_mono (T.item (blk X N scope cl s3.heap.objs.size s3 (upd H2 s2.heap.objs.size (.lst [])) fp pins) rfl rfl rfl hc k [] s5 σ5 H5 _ I5 (fpB fr5) st5 go) (fun r s6 h6 => ?_) fun _ _ z => z
   obtain ⟨u, hr, h6⟩ := h6
   subst hr
   show wpAny _ _ (pure () >>= fun _ => assign (.Name x px) (compEnvC scope cl s3.heap.objs.size X.env) u) _ _ s6
   refine wpAny_bind (wpAny_mono (show wpAny _ _ (pure ()) _ _ s6 from h6) (fun _ s7 h7 => ?_) fun _ _ z => z)
   obtain ⟨v, H7, I7, r7, y7, st7, fr7⟩ := h7
   have I7' := I7.pinned (fpB fr7) (T.obj _ _ st7)
   refine wpAny_assign_Name (Zgj (X := blk X N scope cl s3.heap.objs.size s3 (upd H2 s2.heap.objs.size (.lst [])) fp pins) I7' B.nd B.ix (.inl (lookup_relabel_local B.loc)) r7 (fun s8 I8 => ?_) (.inr (lookup_relabel_local B.loc)))
   have back : ∀ {σ9 : St} {H9 : Hp} {s9 : Shared}, Inv (blk X N scope cl s3.heap.objs.size s3 (upd H2 s2.heap.objs.size (.lst [])) fp pins) ([] ++ Zh8 fp s7.heap) σ9 H9 s9 -> (∃ m', m' < n /\ W (k + 1) m' σ9 H9) ->
     ∃ m', m' < n /\ ∃ k σ' H', Inv (blk X N scope cl s3.heap.objs.size s3 (upd H2 s2.heap.objs.size (.lst [])) fp pins) [] σ' H' s9 /\ tn k s9.heap /\ (∀ b ∈ fp, H' b = none) /\ W k m' σ' H' := fun {σ9 H9 s9} I9 q9 => by
    obtain ⟨m', hm, w9⟩ := q9
    refine ⟨m', hm, k + 1, σ9, H9, I9.unpinned, T.keep _ _ _ st7 fun b hb o e => (I9.pin (b, o) (Zan _ (Zan _ (Zfz hb e)))).1, fun b hb => ?_, w9⟩
    obtain ⟨o, e, d⟩ := T.obj _ _ st7 b hb
    exact (I9.pin (b, o) (Zan _ (Zan _ (Zfz hb e)))).2.1
   refine wpAny_mono (htt _ _ _ _ _ _ s8 _ H7 _ I8 (step v H7 y7)) (fun ok s9 h9 => ?_) fun _ _ z => False.elim z
   obtain ⟨H9, I9, q9⟩ := h9
   cases ok with
   | false =>
    rw [if_neg ZcX]
    rw [if_neg ZcX] at q9
    exact back I9 q9
   | true =>
    rw [if_pos rfl]
    rw [if_pos rfl] at q9
    refine wpAny_mono (hte _ _ _ _ _ _ s9 _ H9 _ I9 q9) (fun y s10 h10 => ?_) fun _ _ z => False.elim z
    obtain ⟨v10, H10, I10, r10, xs, hx10, hz, q10⟩ := h10
    refine wpAny_mono (Zea (X := blk X N scope cl s3.heap.objs.size s3 (upd H2 s2.heap.objs.size (.lst [])) fp pins) _ s10 _ H10 (.ref s2.heap.objs.size) [v10] _ [y] (fun _ H11 => H11 = upd H10 s2.heap.objs.size (.lst (xs ++ [v10]))) I10 rfl (.cons r10 .nil) ⟨_, xs, v10, rfl, rfl, hx10, hz, rfl⟩) (fun _ s11 h11 => ?_) fun _ _ z => False.elim z
    obtain ⟨_, H11, I11, _, e11⟩ := h11
    subst e11
    exact back I11 q10
 exact codeAny_compStart_list (loop _ rfl) (T.self _ 0 _ _ _ st4 (loop _ rfl))
theorem Zrg {J : It} {xs : List V} {i : Nat} {tt : TT} {te : TE} {Q : VK} {τ : St} {H1 : Hp} {D : Addr} (p : V -> Bool) (g : V -> V) (hD : H1 D = none) (hz : xs.length <= sizeLine) (hτ : τ.set i none = τ)
  (hgo : ∀ k H, ZdN H1 H -> k < xs.length -> J.go k H) (hy : ∀ k H v H', ZdN H1 H -> J.yld k H v H' -> H' = H /\ xs[k]? = some v) (hst : ∀ H, ZdN H1 H -> J.stop xs.length H)
  (htt : ∀ (k : Nat) v H R, xs[k]? = some v -> ZdN H1 H -> R (p v) H -> tt (τ.set i (some v)) H R)
  (hte : ∀ (k : Nat) v H R, xs[k]? = some v -> p v = true -> ZdN H1 H -> R (g v) H -> te (τ.set i (some v)) H R)
  (hq : ∀ H', ZdN H1 H' -> H' D = some (.lst ((xs.filter p).map g)) -> Q (.ref D) H') : LcP J i tt te Q τ H1 D := by
 have sm : ∀ o, ZdN H1 (upd H1 D o) := fun o b u e => by rw [ZdA (ZdD e hD)]; exact e
 refine ⟨fun k m σ' H2 => m = xs.length - k /\ k <= xs.length /\ (∃ o, σ' = τ.set i o) /\ H2 = upd H1 D (.lst (((xs.take k).filter p).map g)), ⟨xs.length, by simp, ZbL _, ⟨none, hτ.symm⟩, by simp⟩, ?_⟩
 rintro k m σ' H2 ⟨rfl, hk, ⟨o, rfl⟩, rfl⟩
 by_cases hlt : k < xs.length
 ·refine .inr ⟨hgo k _ (sm _) hlt, fun v H3 y => ?_⟩
  obtain ⟨e, hv⟩ := hy k _ v H3 (sm _) y
  subst e
  rw [List.set_set]
  refine htt k v _ _ hv (sm _) ?_
  have tk : (xs.take (k + 1)).filter p = (xs.take k).filter p ++ (if p v then [v] else []) := take_succ_filter p xs k v hv
  have ll : ((xs.take k).filter p).length <= k := by
   refine ZbH (ZaN _ _) ?_
   rw [Zax]
   omega
  cases hp : p v with
  | true =>
   rw [if_pos rfl]
   refine hte k v _ _ hv hp (sm _) ?_
   refine ⟨_, Zdt, by rw [Zar]; omega, xs.length - (k + 1), by omega, rfl, hlt, ⟨some v, rfl⟩, ?_⟩
   rw [Zes, tk, hp, if_pos rfl, ZaO]
   rfl
  | false =>
   rw [if_neg ZcX]
   refine ⟨xs.length - (k + 1), by omega, rfl, hlt, ⟨some v, rfl⟩, ?_⟩
   rw [tk, hp, if_neg ZcX, Zas]
 ·have e : k = xs.length := by omega
  subst e
  refine .inl ⟨hst _ (sm _), hq _ (sm _) ?_⟩
  rw [Zdt, ZaP]
section
variable {X : Cx}
theorem Znz {bs : List Bool} : ∀ {us : List Value}, Ze0 (bs.map V.bl) us -> us = bs.map Value.bool := by
 induction bs with
 | nil => intro us r; rw [ZaH] at r; cases r; rfl
 | cons n ns ih =>
  intro us r
  rw [Zaq] at r
  cases r with
  | cons r1 r2 =>
   cases (show _ = Value.bool n from r1)
   rw [ih r2]
   rfl
theorem Zlq (bs : List Bool) : ((Zaa bs.length).all fun i => (bs[i]?).getD true) = bs.all id := by
 induction bs with
 | nil => rfl
 | cons b r ih =>
  rw [Zao, ZaQ, ZaR, List.all_map, ZaR, <- ih]
  rfl
theorem Zlr {h h' : Heap} {o : Obj} (hk : ∀ b x, b ∉ [h.objs.size] -> (h.push o).get? b = some x -> h'.get? b = some x) : ∀ b x, h.get? b = some x -> h'.get? b = some x :=
 fun b x e => hk b x (fun hm => by rw [ZaS.mp hm] at e; exact ZbF _ (Zdk e)) (Zdm _ e)
theorem ZnA (hc : X.calm = true) : ZgK X (.builtin "all") (fun xs H Q => ∃ (a : Addr) (bs : List Bool), xs = [.ref a] /\ SqL X.K H a (bs.map V.bl) /\ Q (.bl (bs.all id)) H) := by
 intro pins s σ H xs us Q I r h
 obtain ⟨a, bs, rfl, ha, q⟩ := h
 obtain ⟨u, rfl, ru⟩ := Zg2 r
 cases ru
 obtain ⟨its, rv, pl, hz⟩ := I.list ha
 have ei := Znz rv
 subst ei
 have hl : s.heap.IsList a (bs.map Value.bool).toArray := pl.isList
 have hlt : a < s.heap.objs.size := by obtain ⟨_, e, _⟩ := hl; exact Zdk e
 refine call_all_walk (wpAny_pyIter_list hl ?_)
 refine ⟨s.heap.objs.size, [s.heap.objs.size, a], [s.heap.objs.size], (bs.map Value.bool).toArray.size, _, _, fun i => (bs[i]?).getD true, rfl, Walks.list (A := X.A.in1) (I.ok.hd hc) _ a (ZbG hlt) (bs.map Value.bool).toArray,
  ⟨⟨_, Zdl _ rfl, rfl, rfl⟩, hl.push _⟩, fun i v s' Q' E' hP hQ => ?_, fun h' tk hk => ?_⟩
 ·have hv : (bs.map Value.bool)[i]? = some v := by simpa using hP
  rw [ZaA] at hv
  cases e : bs[i]? with
  | none => rw [e] at hv; cases hv
  | some b =>
   rw [e] at hv
   have e2 : v = Value.bool b := (Zce.inj hv).symm
   subst e2
   simp only [e, Zci] at hQ
   exact wpAny_truthy_bool hQ
 ·have e : ((Zaa (bs.map Value.bool).toArray.size).all fun i => (bs[i]?).getD true) = bs.all id := by
   rw [ZaJ, Zar]; exact Zlq bs
  rw [e]
  exact ⟨.bl (bs.all id), H, I.kept (Zlr hk), rfl, q⟩
def rSlS : V -> Option Int -> Option Int -> Hp -> VK -> Prop := fun x lo hi H Q => ∃ z, x = .str z /\ z.length <= sizeLine /\ Q (.str (Txt.slice z lo hi)) H
theorem Zn9 : SlR X rSlS := by
 intro pins s σ H x v vl vu lo hi sl Q I rx hs pl pu h
 obtain ⟨z, rfl, hz, q⟩ := h
 obtain ⟨t, rfl⟩ := rx
 refine ⟨"str", _, F.slot_str_getitem.lookup, typeIs_str _ _ _, ?_⟩
 have fin : ∀ t' k, EP X pins σ Q (.str (Txt.slice z lo hi) t') { s with toks := k } := fun t' k => ⟨.str _, H, I.tok k, ⟨t', rfl⟩, q⟩
 cases pl with
 | none =>
  cases pu with
  | none => exact wpAny_getItem_str_slice (l := none) (u := none) (st := none) hs rfl (post_val_or_str ⟨ZbH (Txt.slice_le z _ _) hz, fun t' k => fin t' k⟩)
  | int j u => exact wpAny_getItem_str_slice (l := none) (u := some (j, u)) (st := none) hs rfl (post_val_or_str ⟨ZbH (Txt.slice_le z _ _) hz, fun t' k => fin t' k⟩)
 | int i u' =>
  cases pu with
  | none => exact wpAny_getItem_str_slice (l := some (i, u')) (u := none) (st := none) hs rfl (post_val_or_str ⟨ZbH (Txt.slice_le z _ _) hz, fun t' k => fin t' k⟩)
  | int j u => exact wpAny_getItem_str_slice (l := some (i, u')) (u := some (j, u)) (st := none) hs rfl (post_val_or_str ⟨ZbH (Txt.slice_le z _ _) hz, fun t' k => fin t' k⟩)
theorem Zfy : ZgK X (.builtin "isinstance") (fun xs H Q => ∃ x v c t b, xs = [x, v] /\ (∀ u, ZeL v u -> u = c) /\ Zhu X.K H x t /\ PySem.W.kitOne X.K t c = some b /\ Q (.bl b) H) := by
 intro pins s σ H xs us Q I r h
 obtain ⟨x, v, c, t, b, rfl, hc, ht, hk, q⟩ := h
 obtain ⟨u, u', rfl, ru, ru'⟩ := ZpZ r
 cases hc u' ru'
 exact Zl2 I ru ht hk fun tk => ⟨.bl b, H, I.tok tk, rfl, q⟩
end
end L2.Internal
namespace L2.Internal
open PySem PySem.Spec PyProof.Rows
section
variable {X : Cx}
open Builtin Builtin.Str in
def PE1 (X : Cx) (e : Expr) (t : TE) : Prop :=
 ∀ (pins : List (Addr × Obj)) (s : Shared) (σ : St) (H : Hp) (Q : VK), Inv X pins σ H s -> 1 <= s.toks -> t σ H Q -> wpAny (model X.prog X.w) X.A (eval e X.env) (fun u s' => 1 <= s'.toks /\ EP X pins σ Q u s') X.xe s
theorem PE.one {e : Expr} {t : TE} (h : PE X e t) : PE1 X e t := fun pins s σ H Q I ht hw => wpAny_mono (wpAny_toks_of ht (h pins s σ H Q I hw)) (fun _ _ z => z) fun _ _ z => z.2
end
end L2.Internal
namespace L2.Internal
open PySem PySem.Spec PyProof.Rows
section
variable {X : Cx} {st : Stmt} {rest : List Stmt} {t u : TS.Internal}
noncomputable def tMid (N : St -> Hp -> Prop) (t u : TS.Internal) : TS.Internal := fun D σ H => t { D with nx := N } σ H /\ ∀ σ' H', N σ' H' -> u D σ' H'
theorem ZoV (N : St -> Hp -> Prop) (h1 : PS X st t) (h2 : PSs X rest u) : PSs X (st :: rest) (tMid N t u) := by
 intro pins s σ H D I h
 refine wpAny_execs_cons (thn (h1 pins s σ H { D with nx := N } I h.1) fun f s1 q => ?_)
 cases f with
 | next =>
  obtain ⟨σ', H', I', q⟩ := q
  exact h2 pins s1 σ' H' D I' (h.2 σ' H' q)
 | ret v => exact q
 | brk => exact q
 | cont => exact q
end
end L2.Internal
namespace L2.Internal
open PySem PySem.Spec PyProof.Rows
section
variable {P : Program} {w : World} {H H' : Hp} {h h' : Heap} {a : Addr} {o : HO}
theorem Ze4.there (x : Ze4 P w H h a o) : ∃ ob, h.get? a = some ob := by
 cases o with
 | lst xs => obtain ⟨_, _, _, _, e⟩ := x; exact ⟨_, e⟩
 | tup xs => obtain ⟨_, _, _, ⟨ob, e, _⟩⟩ := x; exact ⟨ob, e⟩
 | dK kvs => obtain ⟨_, _, _, _, ob, _, _, e, _⟩ := x; exact ⟨ob, e⟩
 | dT kvs => obtain ⟨_, _, _, _, ob, _, _, e, _⟩ := x; exact ⟨ob, e⟩
 | set S n => obtain ⟨ob, _, _, _, e, _⟩ := x; exact ⟨ob, e⟩
 | ins C dx fs => obtain ⟨_, _, _, e, _⟩ := x; exact ⟨_, e⟩
 | own y => exact x
 | xd fs => obtain ⟨_, ⟨ob, _, _, e, _⟩, _⟩ := x; exact ⟨ob, e⟩
 | rng lo hi => obtain ⟨_, _, _, e⟩ := x; exact ⟨_, e⟩
 | frz ob u => obtain ⟨e, _⟩ := x; exact ⟨_, e⟩
 | tbl ps => exact ⟨_, x⟩
 | met f y => exact ⟨_, x⟩
 | ext φ => exact x.2.1
end
section
variable {X : Cx} {pins : List (Addr × Obj)} {σ : St} {H H' : Hp} {s s' : Shared} {B h : Heap}
theorem Inv.track {ea : Addr} {o : HO} (I : Inv X pins σ H s) (hn : H ea = none) (h0 : X.s₀.heap.get? ea = none) (hL : ea ≠ X.env.locals) (hC : ∀ x c, X.env.cells.lookup x = some c -> c ≠ ea) (hP : ∀ p ∈ X.pn ++ pins, p.1 ≠ ea)
  (new : Ze4 X.prog X.w (upd H ea o) s.heap ea o) : Inv X pins σ (upd H ea o) s := by
 have ne : ∀ b u, H b = some u -> b ≠ ea := fun b u e z => by rw [z, hn] at e; cases e
 refine ⟨I.ok, I.os, I.bare, ⟨I.base.keep, I.base.slot, fun b ob e n hx => ?_, I.base.there, fun b xs e => ?_, fun b ob u e => ?_, fun b ps e => ?_⟩, I.loc, I.cell, ?_, fun x c e => ?_, fun p hp => ?_, fun b u e => ?_, I.len⟩
 ·rw [ZdA (fun z => by rw [z, h0] at e; cases e)]
  exact I.base.free b ob e n hx
 ·have e1 := I.base.tups b xs e
  rw [ZdA (ne b _ e1)]
  exact e1
 ·have e1 := I.base.frzs b ob u e
  rw [ZdA (ne b _ e1)]
  exact e1
 ·obtain ⟨more, e1⟩ := I.base.tbls b ps e
  exact ⟨more, by rw [ZdA (ne b _ e1)]; exact e1⟩
 ·rw [ZdA (Ne.symm hL)]
  exact I.free
 ·rw [ZdA (hC x c e)]
  exact I.freeC x c e
 ·obtain ⟨e, n, n2, nf, d⟩ := I.pin p hp
  exact ⟨e, by rw [ZdA (hP p hp)]; exact n, n2, nf, d⟩
 ·by_cases hb : b = ea
  ·subst hb
   rw [Zdt] at e
   cases e
   exact new
  ·rw [ZdA hb] at e
   exact (I.hok b u e).stay (fun _ _ _ q => q) (fun c z => by rw [ZdA (ne c _ z)]; exact z) fun c xs z => by rw [ZdA (ne c _ z)]; exact z
end
section
variable {P : Program} {w : World} {K : PySem.W.Frag} {mg : Str -> Option Value} {base : Heap} {N : List Str} {qual : Str} {scope : Scope} {f : Addr} {cd : Value} {A : Around} {outer : List Env} {s₀ : Shared} {H₀ : Hp} {E : XK}
end
section
variable {X : Cx} {C : Addr} {E : XK} {x : Str} {np cpos pos : Pos} {e : Expr} {es : List Expr} {t : TA}
end
section
variable {P : Program} {w : World} {K : PySem.W.Frag} {mg : Str -> Option Value} {base : Heap}
end
section
variable {X : Cx} {pins : List (Addr × Obj)} {σ : St} {H : Hp} {s : Shared}
end
section
variable {X : Cx} {CX : CXT} {k : Nat} {f Y : Addr} {fd : FuncData} {ps : List Str} {sp : Sp} {dvs : List V} {ds : List Value} {E : XK} {x y n : Str} {p pos pos' py hpos tpos : Pos} {e : Expr} {es : List Expr} {t : TA} {b₀ : Stmt} {body : List Stmt} {tb : TS.Internal} {i : Nat}
end
section
variable {X : Cx} {e : Expr} {es : List Expr} {te : TE} {pos : Pos}
end
end L2.Internal
namespace L2.Internal
open PySem PySem.Spec PyProof.Rows
section
variable {X : Cx}
end
inductive Dt where
 | flat (v : V)
 | tup (l : List Dt)
 | lst (l : List Dt)
mutual
inductive At (K : PySem.W.Frag) (H : Hp) : V -> Dt -> Prop where
 | flat {v : V} (h : Znw v = true) : At K H v (.flat v)
 | tup {a : Addr} {xs : List V} {ds : List Dt} (h : SqT K H a xs) (hs : Ats K H xs ds) : At K H (.ref a) (.tup ds)
 | lst {a : Addr} {xs : List V} {ds : List Dt} (h : SqL K H a xs) (hs : Ats K H xs ds) : At K H (.ref a) (.lst ds)
inductive Ats (K : PySem.W.Frag) (H : Hp) : List V -> List Dt -> Prop where
 | nil : Ats K H [] []
 | cons {x : V} {d : Dt} {xs : List V} {ds : List Dt} (h : At K H x d) (hs : Ats K H xs ds) : Ats K H (x :: xs) (d :: ds)
end
mutual
noncomputable def eqD : Dt -> Dt -> Bool
 | .flat a, .flat b => eqV a b
 | .tup l, .tup m => Ziv l m
 | .lst l, .lst m => Ziv l m
 | _, _ => false
noncomputable def Ziv : List Dt -> List Dt -> Bool
 | [], [] => true
 | x :: xs, y :: ys => eqD x y && Ziv xs ys
 | _, _ => false
end
mutual
noncomputable def Zg3 : Dt -> Dt -> Bool
 | .flat _, .flat _ => true
 | .tup l, .tup m => ZgN l m
 | .lst l, .lst m => if l.length = m.length then ZgN l m else true
 | _, _ => false
noncomputable def ZgN : List Dt -> List Dt -> Bool
 | x :: xs, y :: ys => Zg3 x y && ZgN xs ys
 | _, _ => true
end
mutual
noncomputable def Zjd : Dt -> Nat
 | .flat _ => 0
 | .tup l => ZgO l + 1
 | .lst l => ZgO l + 1
noncomputable def ZgO : List Dt -> Nat
 | [] => 0
 | x :: xs => max (Zjd x) (ZgO xs)
end
theorem Ats.length {K : PySem.W.Frag} {H : Hp} : ∀ {xs : List V} {ds : List Dt}, Ats K H xs ds -> xs.length = ds.length
 | _, _, .nil => rfl
 | _, _, .cons _ t => by rw [Zao, Zao, Ats.length t]
theorem Ats.get {K : PySem.W.Frag} {H : Hp} : ∀ {xs : List V} {ds : List Dt} {j : Nat} {x : V}, Ats K H xs ds -> xs[j]? = some x -> ∃ d, ds[j]? = some d /\ At K H x d
 | _, _, 0, _, .cons h _, e => ⟨_, rfl, by cases e; exact h⟩
 | _, _, j + 1, _, .cons _ t, e => Ats.get (j := j) t e
 | _, _, _, _, .nil, e => by simp at e
theorem Ziw : ∀ (l m : List Dt), l.length ≠ m.length -> Ziv l m = false
 | [], [], h => absurd rfl h
 | x :: xs, y :: ys, h => by
  rw [Ziv, Ziw xs ys (fun e => h (by rw [Zao, Zao, e])), Bool.and_false]
 | [], y :: ys, _ => by rw [Ziv]; all_goals simp
 | x :: xs, [], _ => by rw [Ziv]; all_goals simp
noncomputable def Zls (l m : List Dt) (j : Nat) : Bool := match l[j]?, m[j]? with
 | some a, some b => eqD a b
 | _, _ => false
theorem Zg4 : ∀ (l m : List Dt), l.length = m.length -> ((Zaa l.length).all fun j => Zls l m j) = Ziv l m
 | [], [], _ => by rw [Ziv]; rfl
 | x :: xs, y :: ys, h => by
  have ih := Zg4 xs ys (by simpa using h)
  rw [Zao, ZaQ, ZaR, List.all_map, Ziv, <- ih]
  rfl
 | [], _ :: _, h => by simp at h
 | _ :: _, [], h => by simp at h
theorem Zf6 : ∀ {l m : List Dt} {j : Nat} {a b : Dt}, ZgN l m = true -> l[j]? = some a -> m[j]? = some b -> Zg3 a b = true
 | x :: xs, y :: ys, 0, a, b, h, e1, e2 => by
  rw [ZgN, ZcZ] at h
  cases e1
  cases e2
  exact h.1
 | x :: xs, y :: ys, j + 1, a, b, h, e1, e2 => by
  rw [ZgN, ZcZ] at h
  exact Zf6 (j := j) h.2 e1 e2
 | [], _, _, _, _, _, e1, _ => by simp at e1
 | _ :: _, [], _, _, _, _, _, e2 => by simp at e2
theorem Zf7 : ∀ {l : List Dt} {j : Nat} {a : Dt}, l[j]? = some a -> Zjd a <= ZgO l
 | x :: xs, 0, a, e => by cases e; rw [ZgO]; exact Nat.le_max_left ..
 | x :: xs, j + 1, a, e => by rw [ZgO]; exact ZbH (Zf7 (j := j) e) (Nat.le_max_right ..)
 | [], _, _, e => by simp at e
theorem Zmg {v : V} (h : Znw v = true) : eqV v v = true := by
 cases v with
 | non => rfl
 | bl b => show (b == b) = true; simp
 | int i => show (i == i) = true; simp
 | str x => show (x == x) = true; simp
 | _ => exact absurd h ZcX
section
variable {X : Cx} {pins : List (Addr × Obj)} {σ : St} {H : Hp} {s : Shared}
mutual
theorem At.same (I : Inv X pins σ H s) : ∀ {x : V} {d e : Dt}, At X.K H x d -> At X.K H x e -> Zg3 d e = true -> eqD d e = true
 | _, _, _, .flat h, .flat _, _ => by rw [eqD]; exact Zmg h
 | _, _, _, .tup h hs, .tup h' hs', c => by
  have e := I.tuple_inj h h'
  subst e
  rw [Zg3] at c
  rw [eqD]
  exact Ats.same I hs hs' c
 | _, _, _, .lst h hs, .lst h' hs', c => by
  have e := I.list_inj h h'
  subst e
  rw [Zg3, if_pos (hs.length.symm.trans hs'.length)] at c
  rw [eqD]
  exact Ats.same I hs hs' c
 | _, _, _, .flat h, .tup _ _, _ => absurd h ZcX
 | _, _, _, .flat h, .lst _ _, _ => absurd h ZcX
 | _, _, _, .tup _ _, .flat h, _ => absurd h ZcX
 | _, _, _, .lst _ _, .flat h, _ => absurd h ZcX
 | _, _, _, .tup _ _, .lst _ _, c => by simp [Zg3] at c
 | _, _, _, .lst _ _, .tup _ _, c => by simp [Zg3] at c
theorem Ats.same (I : Inv X pins σ H s) : ∀ {xs : List V} {l m : List Dt}, Ats X.K H xs l -> Ats X.K H xs m -> ZgN l m = true -> Ziv l m = true
 | _, _, _, .nil, .nil, _ => by rw [Ziv]
 | _, _, _, .cons h t, .cons h' t', c => by
  rw [ZgN, ZcZ] at c
  rw [Ziv, At.same I h h' c.1, Ats.same I t t' c.2]
  rfl
end
def Els (K : PySem.W.Frag) (H : Hp) (A : Around) (s : Shared) (ds es : List Dt) : Prop :=
 ∀ (j : Nat) (d1 d2 : Dt) (x y : V) (u v : Value), ds[j]? = some d1 -> es[j]? = some d2 -> ZeL x u -> ZeL y v -> At K H x d1 -> At K H y d2 -> SeqAt.EqAt A s u v (eqD d1 d2)
theorem els {A : Around} {xs ys : List V} {its its2 : List Value} {ds es : List Dt} (r : Ze0 xs its) (r2 : Ze0 ys its2) (hs : Ats X.K H xs ds) (hs' : Ats X.K H ys es) (EL : Els X.K H A s ds es) :
  ∀ j (h1 : j < its.toArray.size) (h2 : j < its2.toArray.size), SeqAt.EqAt A s its.toArray[j] its2.toArray[j] (Zls ds es j) := fun j h1 h2 => by
 have l1 := r.length
 have l2 := r2.length
 have h1' : j < xs.length := by simp only [ZaJ] at h1; omega
 have h2' : j < ys.length := by simp only [ZaJ] at h2; omega
 obtain ⟨w1, e1, q1⟩ := r.get (ZaT h1')
 obtain ⟨w2, e2, q2⟩ := r2.get (ZaT h2')
 obtain ⟨d1, f1, p1⟩ := hs.get (ZaT h1')
 obtain ⟨d2, f2, p2⟩ := hs'.get (ZaT h2')
 have g1 : its.toArray[j] = w1 := by simpa using (Zaj.mp e1).2
 have g2 : its2.toArray[j] = w2 := by simpa using (Zaj.mp e2).2
 have ed : Zls ds es j = eqD d1 d2 := by unfold Zls; rw [f1, f2]
 rw [g1, g2, ed]
 exact EL j d1 d2 _ _ _ _ f1 f2 q1 q2 p1 p2
theorem ZoW {ds es : List Dt} {n m : Nat} (h1 : n = ds.length) (h2 : m = es.length) : ((Zaa (min n m)).all (Zls ds es) && n == m) = eqD (.tup ds) (.tup es) := by
 subst h1 h2
 rw [eqD]
 by_cases hl : ds.length = es.length
 ·rw [<- Zg4 ds es hl, <- hl, Nat.min_self]
  simp
 ·rw [Ziw ds es hl, beq_eq_false_iff_ne.mpr hl, Bool.and_false]
theorem ZoX {ds es : List Dt} {n : Nat} (h1 : n = ds.length) (h : ds.length = es.length) : ((Zaa n).all (Zls ds es)) = eqD (.lst ds) (.lst es) := by
 subst h1
 rw [eqD, <- Zg4 ds es h]
theorem Zoa {A : Around} {a b : Addr} {xs ys : List V} {ds es : List Dt} (I : Inv X pins σ H s) (h : SqT X.K H a xs) (hs : Ats X.K H xs ds) (h' : SqT X.K H b ys) (hs' : Ats X.K H ys es) (hu : A.units < cLine) (EL : Els X.K H A.in1 s ds es) :
  SeqAt.RcAt A s (.ref a) (.ref b) (eqD (.tup ds) (.tup es)) /\ SeqAt.RcNeAt A s (.ref a) (.ref b) (!eqD (.tup ds) (.tup es)) := by
 obtain ⟨its, r, pl, _⟩ := I.tuple h
 obtain ⟨its2, r2, pl2, _⟩ := I.tuple h'
 have e := els r r2 hs hs' EL
 have l1 : its.toArray.size = ds.length := by rw [ZaJ, <- r.length, hs.length]
 have l2 : its2.toArray.size = es.length := by rw [ZaJ, <- r2.length, hs'.length]
 have k1 := SeqAt.RcAt.tuples (A := A) (s := s) pl pl2 hu e
 have k2 := SeqAt.RcNeAt.tuples (A := A) (s := s) pl pl2 hu e
 rw [ZoW l1 l2] at k1 k2
 exact ⟨k1, k2⟩
theorem Zob {A : Around} {a b : Addr} {xs ys : List V} {ds es : List Dt} (I : Inv X pins σ H s) (h : SqL X.K H a xs) (hs : Ats X.K H xs ds) (h' : SqL X.K H b ys) (hs' : Ats X.K H ys es) (hu : A.units < cLine) (EL : ds.length = es.length -> Els X.K H A.in1 s ds es) :
  SeqAt.RcAt A s (.ref a) (.ref b) (eqD (.lst ds) (.lst es)) /\ SeqAt.RcNeAt A s (.ref a) (.ref b) (!eqD (.lst ds) (.lst es)) := by
 obtain ⟨its, r, pl, _⟩ := I.list h
 obtain ⟨its2, r2, pl2, _⟩ := I.list h'
 have l1 : its.toArray.size = ds.length := by rw [ZaJ, <- r.length, hs.length]
 have l2 : its2.toArray.size = es.length := by rw [ZaJ, <- r2.length, hs'.length]
 by_cases hl : ds.length = es.length
 ·have e := els r r2 hs hs' (EL hl)
  have k1 := SeqAt.RcAt.lists (A := A) (s := s) pl.isList pl2.isList (by rw [l1, l2, hl]) hu e
  have k2 := SeqAt.RcNeAt.lists (A := A) (s := s) pl.isList pl2.isList (by rw [l1, l2, hl]) hu e
  rw [ZoX l1 hl] at k1 k2
  exact ⟨k1, k2⟩
 ·have hne : (its.toArray.size != its2.toArray.size) = true := by rw [l1, l2]; exact bne_iff_ne.mpr hl
  have k1 := SeqAt.RcAt.lists_lengths (A := A) (s := s) pl.isList pl2.isList hne hu
  have k2 := SeqAt.RcNeAt.lists_lengths (A := A) (s := s) pl.isList pl2.isList hne hu
  rw [eqD, Ziw ds es hl]
  exact ⟨k1, k2⟩
theorem Zoc (I : Inv X pins σ H s) : ∀ (n : Nat) (A : Around) {x y : V} {u v : Value} {d e : Dt}, ZeL x u -> ZeL y v -> At X.K H x d -> At X.K H y e -> Zg3 d e = true -> Zjd d <= n -> A.units + n < cLine -> SeqAt.EqAt A s u v (eqD d e) := by
 intro n
 induction n with
 | zero =>
  intro A x y u v d e rx ry hx hy c hd hu
  cases hx with
  | flat h =>
   cases hy with
   | flat h' => rw [eqD]; exact Zn7 rx ry h h'
   | tup _ _ => simp [Zg3] at c
   | lst _ _ => simp [Zg3] at c
  | tup _ _ => rw [Zjd] at hd; omega
  | lst _ _ => rw [Zjd] at hd; omega
 | succ n ih =>
  intro A x y u v d e rx ry hx hy c hd hu
  cases hx with
  | flat h =>
   cases hy with
   | flat h' => rw [eqD]; exact Zn7 rx ry h h'
   | tup _ _ => simp [Zg3] at c
   | lst _ _ => simp [Zg3] at c
  | @tup a xs ds h hs =>
   cases hy with
   | flat _ => simp [Zg3] at c
   | lst _ _ => simp [Zg3] at c
   | @tup b ys es h' hs' =>
    cases rx
    cases ry
    by_cases hab : a = b
    ·subst hab
     rw [At.same I (.tup h hs) (.tup h' hs') c]
     exact SeqAt.EqAt.same _
    ·rw [Zg3] at c
     rw [Zjd] at hd
     refine SeqAt.EqAt.of_refs hab (Zoa I h hs h' hs' (by omega) fun j d1 d2 x y u v f1 f2 q1 q2 p1 p2 => ?_).1
     exact ih A.in1 q1 q2 p1 p2 (Zf6 c f1 f2) (ZbH (Zf7 f1) (by omega)) (by show A.units + 1 + n < cLine; omega)
  | @lst a xs ds h hs =>
   cases hy with
   | flat _ => simp [Zg3] at c
   | tup _ _ => simp [Zg3] at c
   | @lst b ys es h' hs' =>
    cases rx
    cases ry
    by_cases hab : a = b
    ·subst hab
     rw [At.same I (.lst h hs) (.lst h' hs') c]
     exact SeqAt.EqAt.same _
    ·rw [Zjd] at hd
     refine SeqAt.EqAt.of_refs hab (Zob I h hs h' hs' (by omega) fun hl j d1 d2 x y u v f1 f2 q1 q2 p1 p2 => ?_).1
     rw [Zg3, if_pos hl] at c
     exact ih A.in1 q1 q2 p1 p2 (Zf6 c f1 f2) (ZbH (Zf7 f1) (by omega)) (by show A.units + 1 + n < cLine; omega)
def rEqD (K : PySem.W.Frag) (neg : Bool) : R2 := fun x y H Q => ∃ a b d e, x = .ref a /\ y = .ref b /\ At K H x d /\ At K H y e /\ Zg3 d e = true /\ Zjd d <= 100 /\ Q (.bl (if neg then !eqD d e else eqD d e)) H
theorem rcD (I : Inv X pins σ H s) {A : Around} {a b : Addr} {d e : Dt} (hx : At X.K H (.ref a) d) (hy : At X.K H (.ref b) e) (c : Zg3 d e = true) (hd : Zjd d <= 100) (hu : A.units + 101 < cLine) :
  SeqAt.RcAt A s (.ref a) (.ref b) (eqD d e) /\ SeqAt.RcNeAt A s (.ref a) (.ref b) (!eqD d e) := by
 cases hx with
 | flat h => exact absurd h ZcX
 | @tup a xs ds h hs =>
  cases hy with
  | flat h => exact absurd h ZcX
  | lst _ _ => simp [Zg3] at c
  | @tup b ys es h' hs' =>
   rw [Zg3] at c
   rw [Zjd] at hd
   refine Zoa I h hs h' hs' (by omega) fun j d1 d2 x y u v f1 f2 q1 q2 p1 p2 => ?_
   exact Zoc I 100 A.in1 q1 q2 p1 p2 (Zf6 c f1 f2) (ZbH (Zf7 f1) (by omega)) (by show A.units + 1 + 100 < cLine; omega)
 | @lst a xs ds h hs =>
  cases hy with
  | flat h => exact absurd h ZcX
  | tup _ _ => simp [Zg3] at c
  | @lst b ys es h' hs' =>
   rw [Zjd] at hd
   refine Zob I h hs h' hs' (by omega) fun hl j d1 d2 x y u v f1 f2 q1 q2 p1 p2 => ?_
   rw [Zg3, if_pos hl] at c
   exact Zoc I 100 A.in1 q1 q2 p1 p2 (Zf6 c f1 f2) (ZbH (Zf7 f1) (by omega)) (by show A.units + 1 + 100 < cLine; omega)
end
section
variable {X : Cx}
theorem Zqc {k : Nat} (hr : Zg0 k X.A) : OpR X (compareOp .NotEq) (rEqD X.K true) := by
 intro pins s σ H x y v u Q I rx ry h
 obtain ⟨a, b, d, e, rfl, rfl, hx, hy, c, hd, q⟩ := h
 cases rx
 cases ry
 have hu := hr.un
 exact (rcD I hx hy c hd (by omega)).2 _ _ _ _ ⟨.bl _, H, I, rfl, q⟩
end
end L2.Internal
namespace L2.Internal
open PySem PySem.Spec PyProof.Rows
section
variable {X : Cx} {o i : Expr} {pos : Pos} {td ty : TE} {a : Addr} {kvs : List (Key × V)}
end
end L2.Internal
namespace L2.Internal
open PySem PySem.Spec PyProof.Rows
section
variable {X : Cx}
noncomputable def Zqd (x : Str) (n : Nat) : Str := ⟨(Zav n x.cps).foldl (· ++ ·) #[]⟩
theorem Zmh (a : Array Nat) : ∀ (k : Nat) (acc : Array Nat), ((Zav k a).foldl (· ++ ·) acc).size = acc.size + k * a.size
 | 0, acc => by simp
 | k + 1, acc => by
  rw [List.replicate_succ, ZaU, Zmh a k, Array.size_append, Nat.succ_mul]
  omega
theorem Zmi (x : Str) (k : Nat) : (Zqd x k).length = k * x.length := by
 have z := Zmh x.cps k #[]
 have e0 : (#[] : Array Nat).size = 0 := rfl
 rw [e0, ZbQ] at z
 exact z
theorem Zlt : OpR X (binaryOp .Mult) (fun x y H Q => ∃ (i : Str) (n : Int), x = .str i /\ y = .int n /\ 2 <= n /\ n < 100 /\ 1 <= i.length /\ i.length <= 1000 /\ Q (.str (Zqd i n.toNat)) H) := by
 intro pins s σ H x y v u Q I rx ry h
 obtain ⟨i, n, rfl, rfl, h2, h9, hl, hm, q⟩ := h
 obtain ⟨t, rfl⟩ := rx
 obtain ⟨t', rfl⟩ := ry
 refine PySem.P.mul_str (by simp only [Bool.or_eq_false_iff, decide_eq_false_iff_not]; omega) (fun _ _ => ?_) (fun _ _ => ?_) ?_
 ·intro z
  have z' : (2 ^ 63 - 1 : Int) / n < (i.length : Int) := z
  rw [Int.ediv_lt_iff_lt_mul (by omega)] at z'
  have : (i.length : Int) * n <= 1000 * 100 := Int.mul_le_mul (by omega) (by omega) (by omega) (by omega)
  omega
 ·show decide _ = false
  refine decide_eq_false ?_
  have sl : sizeLine = 16777216 := sizeLine_eq
  have : i.length * n.toNat <= 1000 * 100 := ZbR hm (by omega)
  omega
 ·rw [if_neg (by omega), if_neg (by simp; omega)]
  refine ⟨?_, .str (Zqd i n.toNat), H, I.tok _, ⟨_, rfl⟩, q⟩
  have sl : sizeLine = 16777216 := sizeLine_eq
  have e : (Zqd i n.toNat).length = n.toNat * i.length := Zmi i _
  have e2 : n.toNat * i.length <= 100 * 1000 := ZbR (by omega) hm
  show (Zqd i n.toNat).length <= _
  omega
end
section
variable {X : Cx} {k : Nat} {f Y : Addr} {fd : FuncData} {ps : List Str} {sp : Sp} {dvs : List V} {ds : List Value} {x y n : Str} {p pos pos' py hpos tpos pn : Pos} {e : Expr} {es : List Expr} {t : TA} {b₀ : Stmt} {body : List Stmt} {tb : TS.Internal} {i : Nat}
end
end L2.Internal
namespace L2.Internal
end L2.Internal
namespace L2.Internal
open PySem PySem.Spec PyProof.Rows
noncomputable def Zmj : List Expr -> Option (List Int)
 | [] => some []
 | .Constant (.int x) _ _ :: r => (Zmj r).map (x :: ·)
 | _ => none
def Zqe (xs : List Int) : TA := fun _ H Q => Q (xs.map V.int) H
theorem Zkd {X : Cx} : ∀ {es : List Expr} {xs : List Int}, Zmj es = some xs -> PA X es (Zqe xs)
 | [], xs, h => by
  have e : xs = [] := (Zce.inj h).symm
  subst e
  exact Zdu
 | .Constant (.int x) k p :: r, xs, h => by
  have h' : (Zmj r).map (x :: ·) = some xs := h
  obtain ⟨ys, hy, e⟩ := Zch.mp h'
  subst e
  have ih := Zkd (X := X) hy
  intro pos pins s σ H Q I q
  exact Zds (te := tC (.int x)) (t := Zqe ys) Zdv ih rfl pos pins s σ H Q I q
end L2.Internal
namespace L2.Internal
open PySem PySem.Spec PyProof.Rows
section
variable {X : Cx} {pins : List (Addr × Obj)} {σ : St} {H : Hp} {s : Shared} {h' : Heap}
theorem Inv.turnedL {t' : Nat} {ch : List Addr} (I : Inv X pins σ H s) (k : ∀ b o, b ∉ ch -> s.heap.get? b = some o -> h'.get? b = some o) (hf : ∀ b ∈ ch, ZkC X pins H b) : Inv X pins σ H { s with heap := h', toks := t' } := by
 have nit : ∀ b u, H b = some u -> b ∉ ch := fun b u e z => by
  have q := (hf b z).1
  rw [q] at e; cases e
 refine I.step (g' := s.gens) (d' := s.drawn) (ch := ch) (fun b hb => ?_) (fun b o _ _ hc e _ => k b o hc e) (fun b o _ _ hc e _ => ⟨o.slots, k b o hc e⟩) (fun _ _ _ _ n => n)
  (fun b o hc e => ⟨o, k b o hc e⟩) (fun _ _ e => e) (fun _ _ _ e => e) (fun b ps e => ⟨#[], by rw [e]; simp⟩) (fun m hm => ?_) (fun b u e => ?_) I.bare
 ·obtain ⟨_, f1, _, f3, f4, f5⟩ := hf b hb
  exact ⟨f3, f1, f4, f5⟩
 ·obtain ⟨o, es, ep, ho, r⟩ := hm
  exact ⟨o, es, ep, k _ o (fun z => (hf _ z).2.1 rfl) ho, r⟩
 ·refine (I.hok b u e).stay (fun c v hc q => k c v ?_ q) (fun _ q => q) fun _ _ q => q
  rcases hc with z | z
  ·rw [z]; exact nit b u e
  ·exact nit c _ z
theorem Inv.pairNew {T : Addr} {h : Heap} {tk : Nat} {ux uy : Value} {x y : V} (I : Inv X pins σ H s) (hT : s.heap.objs.size <= T) (J : Inv X pins σ H { s with heap := h, toks := tk }) (ht : ZlP h T #[ux, uy]) (rx : ZeL x ux) (ry : ZeL y uy) :
  H T = none /\ Inv X pins σ (upd H T (.tup [x, y])) { s with heap := h, toks := tk } := by
 have f := I.fpOk (H' := H) hT (I.hok.fresh hT)
 refine ⟨f.1, J.track f.1 ?_ f.2.1 f.2.2.2.2.1 f.2.2.2.2.2 ⟨by show 2 <= sizeLine; decide, [ux, uy], .cons rx (.cons ry .nil), ht⟩⟩
 cases q : X.s₀.heap.get? T with
 | none => rfl
 | some o => exact absurd (ZbE (Zdk q) (ZbH I.sz hT)) (ZbF _)
end
theorem Zjx : bootBuiltins "enumerate" = some (.type "enumerate") := by decide +kernel
theorem SqL.old {X : Cx} {pins : List (Addr × Obj)} {σ : St} {H : Hp} {s : Shared} {a : Addr} {xs : List V} (I : Inv X pins σ H s) (h : SqL X.K H a xs) : a < s.heap.objs.size := by
 obtain ⟨its, _, p, _⟩ := I.list h
 obtain ⟨o, e, _⟩ := p.isList
 exact Zdk e
section
variable {X : Cx}
end
noncomputable def Ite (K : PySem.W.Frag) (a : Addr) : It :=
 ⟨fun i H => ∃ xs x, SqL K H a xs /\ xs[i]? = some x,
   fun i H v H' => ∃ T x, v = .ref T /\ H T = none /\ H' = upd H T (.tup [.int (i : Int), x]) /\ ∀ xs, SqL K H a xs -> xs[i]? = some x,
   fun i H => ∃ xs, SqL K H a xs /\ i = xs.length⟩
def ESt (e it a : Addr) (i : Nat) (h : Heap) : Prop := (∃ old, IsEnum h e it i old) /\ h.IsListIter it a i
theorem Zmk {P : Program} {w : World} {K : PySem.W.Frag} {es : List Expr} {kk : Nat} {tp : Pos} {a e it : Addr} (h1 : e ≠ it) (h2 : a ≠ e) (h3 : a ≠ it) : ZpF P w K (.Tuple es kk tp) (Ite K a) [e, it] e (ESt e it a) where
 mem := by simp
 obj := fun i h st c hc => by
  obtain ⟨⟨old, g1⟩, ⟨o4, g4, _, d4⟩⟩ := st
  simp only [Zag, ZaV, or_false] at hc
  rcases hc with q | q <;> subst q
  ·exact ⟨_, g1, fun v q => nomatch q⟩
  ·exact ⟨_, g4, fun v q => by rw [d4] at q; cases q⟩
 keep := fun i h h' st k => by
  obtain ⟨⟨old, g1⟩, g4⟩ := st
  exact ⟨⟨old, k e (by simp) _ g1⟩, g4.at fun o q => k it (by simp) o q⟩
 item := by
  intro X hP hw hK hc i pins s σ H E I hf st hg
  subst hP hw hK
  obtain ⟨xs, x, qx, ex⟩ := hg
  obtain ⟨i1s, r1, p1, z1⟩ := I.list qx
  obtain ⟨g1, g4⟩ := st
  obtain ⟨old, g1'⟩ := g1
  obtain ⟨ux, hux, rr1⟩ := r1.get ex
  have lte : e < s.heap.objs.size := Zdk g1'
  refine wpAny_pyNext_enum_item g1' g4 p1.isList (x := ux) (by simpa using hux) h1 fun k1 ho hit' hT hsz hk => ?_
  have kk1 : ∀ c o, c ∉ [e, it] -> s.heap.get? c = some o -> k1.get? c = some o := fun c o hc q => hk c o (fun z => hc (by simp [z])) (fun z => hc (by simp [z])) q
  have J1 : Inv X pins σ H { s with heap := k1, toks := s.toks + 1 } := I.turnedL kk1 hf
  refine ⟨.ref s.heap.objs.size, rfl, wpAny_letOwnedTupleGo_enum ho fun k2 he' sb => ?_⟩
  have J2 : Inv X pins σ H { s with heap := k2, toks := s.toks + 1 } := Inv.turnedL (s := { s with heap := k1, toks := s.toks + 1 }) (h' := k2) (t' := s.toks + 1) (ch := [e]) J1 (fun c o hc q => (sb.2 c (fun z => hc (by simp [z]))).trans q) fun c hc => hf c (by simp only [Zag, ZaV, or_false] at hc ⊢; simp [hc])
  have ht2 : ZlP k2 s.heap.objs.size #[.int i s.toks, ux] := ⟨_, (sb.2 _ (ZbJ lte)).trans hT, rfl, _, rfl, rfl⟩
  obtain ⟨fT, J3⟩ := I.pairNew (x := .int (i : Int)) (ZbK _) J2 ht2 ⟨s.toks, rfl⟩ rr1
  refine ⟨.ref s.heap.objs.size, _, J3, rfl, ⟨_, x, rfl, fT, rfl, fun l hl => by rw [I.list_inj hl qx]; exact ex⟩, ⟨⟨_, by simpa using he'⟩, hit'.at fun o y => (sb.2 it h1.symm).trans y⟩, fun c hc => ?_⟩
  rw [ZdA (fun q => ?_)]
  ·exact (hf c hc).1
  ·have lt : c < s.heap.objs.size := by
    obtain ⟨o4, e4, _⟩ := g4
    simp only [Zag, ZaV, or_false] at hc
    rcases hc with q | q <;> subst q
    ·exact lte
    ·exact Zdk e4
   exact absurd lt (by rw [q]; exact ZbF _)
 done := by
  intro X hP hw hK hc i pins s σ H E I hf st hg
  subst hP hw hK
  obtain ⟨xs, qx, ei⟩ := hg
  obtain ⟨i1s, r1, p1, z1⟩ := I.list qx
  obtain ⟨g1, g4⟩ := st
  have W := WalksT.enumerate (prog := X.prog) (w := X.w) (I.ok.hd hc) e it a h1 h2 h3 i1s.toArray
  have l1 := r1.length
  have q : i = i1s.toArray.size := by simp only [ZaJ]; omega
  subst q
  exact W.done s _ _ ⟨g1, g4, p1.isList⟩ fun h1 tk hk => ⟨rfl, I.turnedL hk hf⟩
 self := fun _ _ _ _ _ st h => by
  obtain ⟨⟨old, g1⟩, _⟩ := st
  exact wpAny_pyIter_enum g1 h
def Zrh (K : PySem.W.Frag) (ta : TA) : TI := fun σ H R => ta σ H fun vs H1 => ∃ a, vs = [.ref a] /\ (∃ xs, SqL K H1 a xs) /\ R (Ite K a) H1
section
variable {X : Cx}
theorem Zml {es : List Expr} {kk : Nat} {tp : Pos} {a : Expr} {ta : TA} {p pos : Pos} (hg : Gl X "enumerate") (hm : X.mg "enumerate" = none) (ha : PA X [a] ta) (hs : autoParam (starEach [a] X.env = [(false, eval a X.env)]) L2.Internal.auR._auto_1) :
  PI X (.Tuple es kk tp) (.Call (.Name "enumerate" p) [a] [] pos) (Zrh X.K ta) := by
 intro pins s σ H R I h
 refine Call_ (Zjf I hg hm Zjx (Zdp (thn (ha pos pins s σ H _ I h) fun us s1 ⟨vs, H1, I1, r1, q1⟩ => ?_) hs rfl))
 obtain ⟨l1, e, ⟨xs, q1⟩, q⟩ := q1
 subst e
 obtain ⟨u, rfl, ru⟩ := Zg2 r1
 cases ru
 obtain ⟨i1s, w1, p1, z1⟩ := I1.list q1
 have o1 : @LT.lt Nat _ l1 s1.heap.objs.size := SqL.old I1 q1
 refine call_enumerate_list p1.isList fun h1 hE hi1 hsz hk => wpAny_pyIter_enum hE ?_
 refine ⟨_, _, _, _, H1, rfl, I1.kept (t' := s1.toks) hk, Zmk (fun (h : @Eq Nat _ _) => by omega) (fun (h : @Eq Nat _ _) => by omega) (fun (h : @Eq Nat _ _) => by omega), ⟨⟨_, hE⟩, hi1⟩, fun c hc => ?_, q⟩
 have ge : s1.heap.objs.size <= c := by
  simp only [Zag, ZaV, or_false] at hc
  rcases hc with h | h <;> rw [h] <;> first | exact ZbK _ | exact ZbS _ _
 exact I1.fpOk ge (I1.hok.fresh ge)
end
theorem Zia {z : Str} : ∀ {cap : List (Str × Nat × Addr)}, z ∈ cap.map (·.1) -> ∃ c, (cap.map fun p => (p.1, p.2.2)).lookup z = some c
 | [], h => by simp at h
 | p :: r, h => by
  cases e : z == p.1 with
  | true => exact ⟨p.2.2, by simp only [Zaq, ZaM, e]⟩
  | false =>
   have q : z ∈ r.map (·.1) := by
    rcases Zag.mp h with y | y
    ·rw [y] at e; simp at e
    ·exact y
   obtain ⟨c, hc⟩ := Zia q
   exact ⟨c, by simp only [Zaq, ZaM, e]; exact hc⟩
theorem Zod {X : Cx} {scope : Scope} {x : Str} (ns : List Str) (cap : List (Str × Nat × Addr)) (hns : cap.map (·.1) = ns) (hk : scope.kind = .function) (hn : ∀ p ∈ scope.names, p.2 ≠ .cell /\ (p.2 = .free -> p.1 ∈ ns)) (hl : ∀ y ∈ scope.names, y.2 = .local -> scope.names.lookup y.1 = some .local)
  (hx : scope.names.lookup x = some .local) (hnd : (x :: ns).Nodup) (hc : closureFor scope X.env = pure (cap.map fun p => (p.1, p.2.2))) (hok : X.env.scope.kind = .function)
  (h : ∀ p ∈ cap, scope.names.lookup p.1 = some .free /\ X.env.cells.lookup p.1 = some p.2.2 /\ X.env.scope.names.lookup p.1 = some .cell /\ X.N[p.2.1]? = some p.1) :
  Zme X (x :: ns) scope (cap.map fun p => (p.1, p.2.2)) (fun σ => none :: cap.map fun p => σ.getD p.2.1 none) 0 x where
 kind := hk
 cell := fun y hy => (hn y hy).1
 names := hl
 clos := hc
 lk := fun z c q => by
  have m := PySem.mem_of_lookup q
  obtain ⟨p, hp, e⟩ := ZaW.mp m
  cases e
  exact (h p hp).2.1
 has := fun z q => by
  refine Zia ?_
  rw [hns]
  rcases q with q | q
  ·obtain ⟨k0, e, q⟩ := Ze5 q
   have m := hn _ (PySem.mem_of_lookup e)
   rcases q with q | ⟨q, _⟩
   ·exact absurd q.symm m.1
   ·exact m.2 q
  ·obtain ⟨k0, e, q⟩ := Ze5 q
   have m := hn _ (PySem.mem_of_lookup e)
   rcases q with q | ⟨q, _⟩
   ·exact m.2 q.symm
   ·exact m.2 q
 nd := hnd
 ix := rfl
 loc := hx
 len := fun _ _ => by simp [<- hns]
 val := fun σ k z v h1 h2 => by
  cases k with
  | zero => simp at h2
  | succ k =>
   rw [<- hns, ZaX, ZaA] at h1
   rw [ZaX, ZaA] at h2
   cases e : cap[k]? with
   | none => rw [e] at h1; cases h1
   | some p =>
    rw [e] at h1 h2
    have ez : p.1 = z := Zce.inj h1
    have ev : σ.getD p.2.1 none = some v := Zce.inj h2
    subst ez
    obtain ⟨a1, a2, a3, a4⟩ := h p (ZaB e)
    rw [ZaY] at ev
    refine ⟨p.2.1, a4, ?_, a3, ZfC hok a3 a1⟩
    cases q : σ[p.2.1]? with
    | none => rw [q] at ev; cases ev
    | some o => rw [q] at ev; exact congrArg some ev
section
variable {X : Cx}
end
structure ZrX (K : PySem.W.Frag) (C : Addr) (m : Str) (f : Addr) : Prop where
 ga : Zcy K (.ref C) "__getattribute__" = some (some (.builtin "type.__getattribute__"))
 rd : ∃ mc, PySem.W.readsIn K C mc = true /\ PySem.W.findCls K (.ref C) mc m = some (.val (.ref f))
 kp : Zcx K (.ref f) = true
section
variable {X : Cx} {CX : CXT} {k : Nat} {f C : Addr} {fd : FuncData} {ps : List Str} {sp : Sp} {dvs : List V} {ds : List Value} {E : XK} {m : Str} {pos apos : Pos} {e o : Expr} {es : List Expr} {t : TA}
theorem Zix {pl : Sem Bool} (he : PE X o (tC (.ref C))) (c : ZrX X.K C m f) (F : Zfi X.prog X.w X.K X.mg X.base CX k f fd ps sp) (hr : Zg0 k X.A) (hb : Zd8 X.K fd ps ds) (hd : Ze0 dvs ds) (hx : Zhb CX X E) (ha : PA X (e :: es) t)
  (hst : autoParam (starEach (e :: es) X.env = (false, eval e X.env) :: starEach es X.env) L2.Internal.auR._auto_1) (hpl : autoParam ((backTo pos (starEach es X.env)).any (·.1) = false) L2.Internal.auR._auto_1)
  (ht : eval (.Call (.Attribute o m apos) (e :: es) [] pos) X.env = (do
   let ov <- eval o X.env
   standAt apos.atName
   let (f, first) <- holding [ov] (getMethod ov m pl)
   callWith pos f first (backTo pos (starEach (e :: es) X.env)) (backToKw pos (keywordEach [] X.env))) := by rfl) :
  PE X (.Call (.Attribute o m apos) (e :: es) [] pos) (Zl3 sp dvs E t) := by
 intro pins s σ H Q I h
 refine ZcF (pl := pl) (thn (he pins s σ H (fun v H1 => v = .ref C /\ Zl3 sp dvs E t σ H1 Q) I ⟨rfl, h⟩) fun u s1 ⟨x, H1, I1, rx, ex, q⟩ => ?_) ht
 subst ex
 obtain rfl : u = Value.ref C := rx
 obtain ⟨mc, hr1, hf⟩ := c.rd
 refine PySem.W.method_cls I1.kIn c.ga (PySem.W.cls_value I1.kIn hr1 hf rfl ?_)
 refine ZcE (first := []) (h₀ := X.base) I.ok.mod.kin c.kp (thn (ha pos pins _ σ H1 _ (I1.tok (s1.toks + 1)) q) fun us s2 ⟨vs, H2, I2, r, q2⟩ => ⟨I2.kIn, ?_⟩) hst hpl
 exact Zl4 (us := us) (vs := vs) F hr hb hd hx I2 r q2
theorem PE.or {X : Cx} {e : Expr} {t u : TE} (h : PE X e t) (h' : PE X e u) : PE X e (fun σ H Q => t σ H Q \/ u σ H Q) := fun pins s σ H Q I hw => hw.elim (h pins s σ H Q I) (h' pins s σ H Q I)
end
section
variable {X : Cx}
theorem Zhz (hc : X.calm = true) : ZgK X (.builtin "sum") (fun xs H Q => ∃ (a : Addr) (ns : List Int), xs = [.ref a] /\ SqL X.K H a (ns.map V.int) /\ ∀ n, Q (.int n) H) := by
 intro pins s σ H xs us Q I r h
 obtain ⟨a, ns, rfl, hq, q⟩ := h
 obtain ⟨u, rfl, ru⟩ := Zg2 r
 cases ru
 obtain ⟨its, rv, p, hz⟩ := I.list hq
 obtain ⟨zs, e⟩ := (Zlo rv).allInts.items
 have l := p.isList
 rw [e] at l
 exact sum_intListG (I.ok.hd hc) l fun h' tk t' hk => ⟨.int _, H, I.kept (t' := tk) hk, ⟨_, rfl⟩, q _⟩
end
theorem ZkJ {X : Cx} {elt iter : Expr} {x y : Str} {j : Nat} {py spos : Pos} {px : Pos} {ifs : List Expr} {scope : Scope} {pos : Pos} {N : List Str} {cl : List (Str × Addr)} {f : St -> St} {i : Nat} {wi : TI} {tt : TT} {te : TE}
  (hc : X.calm = true) (B : Zme X N scope cl f i x) (hi : PI X (.Name x px) iter wi)
  (htt : ∀ C s₀ H₀ ex pins, PTs (blk X N scope cl C s₀ H₀ ex pins) ifs tt) (hte : ∀ C s₀ H₀ ex pins, PE (blk X N scope cl C s₀ H₀ ex pins) elt te)
  (hN : X.N.Nodup) (hj : X.N[j]? = some y) (hy : Loc X.env.scope y) (hsw : autoParam (swapsWith (.ListComp elt [⟨.Name x px, iter, ifs, 0⟩] scope pos) (some (.Name y py)) spos.line X.env = pure true) L2.Internal.auR._auto_1) (hs : autoParam (∀ x, foldedSetIterable iter X.env x = pure x) L2.Internal.auI._auto_1)
  (hf : autoParam (X.fn y = true \/ X.env.scope.names.lookup y = some .local) L2.Internal.auL._auto_1) : PS X (.Assign [.Name y py] (.ListComp elt [⟨.Name x px, iter, ifs, 0⟩] scope pos) spos) (Zq3 (tLC wi f i tt te) (Ze9 j)) := by
 intro pins s σ H En I h
 rw [exec_Assign_Name_used _ _ _ _ hsw]
 refine wpAny_bind (wpAny_standAt (wpAny_bind ?_))
 show wpAny _ X.A (do let _ <- comprehension (.ListComp elt [⟨.Name x px, iter, ifs, 0⟩] scope pos) scope X.env _ (newList []) false (eval iter X.env) (some (assign (.Name y py) X.env))) _ _ s
 refine wpAny_bind (wpAny_mono (wpAny_comprehension_free (use := some (assign (.Name y py) X.env)) (Q := fun _ s' => SP X pins En .next s') rfl hs B.clos B.kind B.names (thn (hi pins s σ H _ I h) fun xv s1 h1 => thn h1 fun itv s2 h2 => ?_)) (fun _ s' hq => wpAny_pure (wpAny_pure hq)) fun _ _ e => e)
 obtain ⟨it, fp, tn, J, H2, rfl, I2, T, st2, f2, q⟩ := h2
 have hD : H2 s2.heap.objs.size = none := I2.fresh
 obtain ⟨W, ⟨m0, w0⟩, turn⟩ := q _ hD
 refine wpAny_newObj_type (wpAny_newFunctionEnv B.cell (by intro y hy; simp at hy) (fun h₁ hns₁ hsb₁ => ?_) B.kind)
 have I3 : Inv X pins σ (upd H2 s2.heap.objs.size (.lst [])) { s2 with heap := s2.heap.push { cls := .type "list", data := .seq ([] : List Value).toArray } } := I2.lnew (its := []) (ys := []) (t' := s2.toks) .nil (ZbL _)
 have lt2 : ∀ b ∈ fp, b < s2.heap.objs.size := fun b hb => by
  obtain ⟨o, ho, _⟩ := T.obj _ _ st2 b hb
  exact Zdk ho
 have fp3 : ∀ b ∈ fp, ZkC X pins (upd H2 s2.heap.objs.size (.lst [])) b := fun b hb => by
  refine ⟨?_, (f2 b hb).2⟩
  rw [ZdA (ZbG (lt2 b hb))]
  exact (f2 b hb).1
 generalize hs3 : ({ s2 with heap := s2.heap.push { cls := .type "list", data := .seq ([] : List Value).toArray } } : Shared) = s3 at I3 hns₁ hsb₁ ⊢
 have eh : s2.heap.push { cls := .type "list", data := .seq ([] : List Value).toArray } = s3.heap := by rw [<- hs3]
 have lt3 : ∀ b ∈ fp, b < s3.heap.objs.size := fun b hb => by
  rw [<- eh, Zdn]
  exact ZbP (lt2 b hb)
 have old : ∀ b o, s3.heap.get? b = some o -> h₁.get? b = some o := fun b o e => hsb₁.extBut b o (ZbG (Zdk e)) (Zdm _ e)
 have I4 := Zmf (tk := s3.toks + ([] : List (Str × Value)).length) B I3 (ex := fp) (fun b hb => ⟨fp3 b hb, lt3 b hb⟩) old hns₁
 have st4 : tn 0 h₁ := T.keep _ _ _ st2 fun b _ o e => old b o (by rw [<- eh]; exact Zdm _ e)
 have fpB : ∀ {H' : Hp}, (∀ b ∈ fp, H' b = none) -> ∀ b ∈ fp, ZkC (blk X N scope cl s3.heap.objs.size s3 (upd H2 s2.heap.objs.size (.lst [])) fp pins) [] H' b := fun {H'} hn b hb => by
  obtain ⟨_, g2, g3, g4, g5, g6⟩ := f2 b hb
  refine ⟨hn b hb, ZbG (lt3 b hb), fun z => (Zag.mp (I3.stkSub b z)).elim g2 g3, .inl hb, fun y c e => g5 y c (B.lk y c e), fun p hp => ?_⟩
  rw [Zas] at hp
  exact g6 p hp
 have loop : ∀ s4 : Shared, s4 = { s3 with heap := h₁, toks := s3.toks + ([] : List (Str × Value)).length } ->
   codeAny (model X.prog X.w) X.A (.compLoop (.ListComp elt [⟨.Name x px, iter, ifs, 0⟩] scope pos) 0 (.ref it) (.ref s2.heap.objs.size) (compEnvC scope cl s3.heap.objs.size X.env))
    (compPost (model X.prog X.w) X.A X.xe (some (assign (.Name y py) X.env)) (fun _ s' => SP X pins En .next s') (.ref s2.heap.objs.size) s3.heap.objs.size) s4 := by
  rintro s4 rfl
  refine codeAny_compLoop_tests (I := fun n s' => ∃ k σ' H', Inv (blk X N scope cl s3.heap.objs.size s3 (upd H2 s2.heap.objs.size (.lst [])) fp pins) [] σ' H' s' /\ tn k s'.heap /\ (∀ b ∈ fp, H' b = none) /\ W k n σ' H') ?_ m0
   ⟨0, f σ, _, I4, st4, fun b hb => (fp3 b hb).1, w0⟩
  rintro n s5 ⟨k, σ5, H5, I5, st5, fr5, w5⟩
  rcases turn k n σ5 H5 w5 with ⟨stop, qn⟩ | ⟨go, step⟩
  ·refine wpAny_mono (T.done (blk X N scope cl s3.heap.objs.size s3 (upd H2 s2.heap.objs.size (.lst [])) fp pins) rfl rfl rfl hc k [] s5 σ5 H5 _ I5 (fpB fr5) st5 stop) (fun r s6 h6 => ?_) fun _ _ z => z
   obtain ⟨hr, I6⟩ := h6
   subst hr
   obtain ⟨m6, hn6, _⟩ := id I6.loc
   have I7 : Inv X pins σ H5 s6 := I3.call' (s' := s6) (ch := fp) I6.os I6.base I6.hok I6.bare fun b hb => by
    obtain ⟨_, g2, g3, g4, g5, g6⟩ := f2 b hb
    exact ⟨g4, g2, g5, g6⟩
   obtain ⟨oC, es, ep, hoC, hdC, hkC⟩ := id hn6
   have hCL : s3.heap.objs.size ≠ X.env.locals := ZbJ I3.lt
   have I8 : Inv X (pins ++ [(s3.heap.objs.size, oC)]) σ H5 s6 := I7.pins_of fun p hp => (Zah.mp hp).elim (fun z => I7.pin p (Zan _ z)) fun z => by
    have ez : p = (s3.heap.objs.size, oC) := by simpa using z
    subst ez
    exact ⟨hoC, I6.free, hCL, I3.nofs (ZbK _), fun v q => by rw [hdC] at q; cases q⟩
   show wpAny _ X.A (assign (.Name y py) X.env (.ref s2.heap.objs.size)) _ _ s6
   refine wpAny_assign_Name (Zgj (X := X) I8 hN hj hy (v := .ref s2.heap.objs.size) rfl (fun s7 I9 => ?_) hf)
   have pC := I9.pin (s3.heap.objs.size, oC) (Zan _ (Zan _ (by simp)))
   refine ⟨m6, ⟨oC, es, ep, pC.1, hdC, hkC⟩, fun h' sb => ?_⟩
   refine ⟨σ.set j (some (.ref s2.heap.objs.size)), H5, ?_, qn⟩
   exact Inv.turned (h' := h') (t' := s7.toks) (it := s3.heap.objs.size) I9.unpinned (fun b o hb e => (sb.2 b hb).trans e) pC.2.1 hCL (.inr I3.sz) (fun z c e q => by
    obtain ⟨v, q2⟩ := I3.cell z c e
    exact absurd (q ▸ q2.lt) (ZbF _)) fun p hp q => absurd (q ▸ Zdk (I3.pin p hp).1) (ZbF _)
  ·refine wpAny_mono (T.item (blk X N scope cl s3.heap.objs.size s3 (upd H2 s2.heap.objs.size (.lst [])) fp pins) rfl rfl rfl hc k [] s5 σ5 H5 _ I5 (fpB fr5) st5 go) (fun r s6 h6 => ?_) fun _ _ z => z
   obtain ⟨u, hr, h6⟩ := h6
   subst hr
   show wpAny _ _ (pure () >>= fun _ => assign (.Name x px) (compEnvC scope cl s3.heap.objs.size X.env) u) _ _ s6
   refine wpAny_bind (wpAny_mono (show wpAny _ _ (pure ()) _ _ s6 from h6) (fun _ s7 h7 => ?_) fun _ _ z => z)
   obtain ⟨v, H7, I7, r7, y7, st7, fr7⟩ := h7
   have I7' := I7.pinned (fpB fr7) (T.obj _ _ st7)
   refine wpAny_assign_Name (Zgj (X := blk X N scope cl s3.heap.objs.size s3 (upd H2 s2.heap.objs.size (.lst [])) fp pins) I7' B.nd B.ix (.inl (lookup_relabel_local B.loc)) r7 (fun s8 I8 => ?_) (.inr (lookup_relabel_local B.loc)))
   have back : ∀ {σ9 : St} {H9 : Hp} {s9 : Shared}, Inv (blk X N scope cl s3.heap.objs.size s3 (upd H2 s2.heap.objs.size (.lst [])) fp pins) ([] ++ Zh8 fp s7.heap) σ9 H9 s9 -> (∃ m', m' < n /\ W (k + 1) m' σ9 H9) ->
     ∃ m', m' < n /\ ∃ k σ' H', Inv (blk X N scope cl s3.heap.objs.size s3 (upd H2 s2.heap.objs.size (.lst [])) fp pins) [] σ' H' s9 /\ tn k s9.heap /\ (∀ b ∈ fp, H' b = none) /\ W k m' σ' H' := fun {σ9 H9 s9} I9 q9 => by
    obtain ⟨m', hm, w9⟩ := q9
    refine ⟨m', hm, k + 1, σ9, H9, I9.unpinned, T.keep _ _ _ st7 fun b hb o e => (I9.pin (b, o) (Zan _ (Zan _ (Zfz hb e)))).1, fun b hb => ?_, w9⟩
    obtain ⟨o, e, d⟩ := T.obj _ _ st7 b hb
    exact (I9.pin (b, o) (Zan _ (Zan _ (Zfz hb e)))).2.1
   refine wpAny_mono (htt _ _ _ _ _ _ s8 _ H7 _ I8 (step v H7 y7)) (fun ok s9 h9 => ?_) fun _ _ z => False.elim z
   obtain ⟨H9, I9, q9⟩ := h9
   cases ok with
   | false =>
    rw [if_neg ZcX]
    rw [if_neg ZcX] at q9
    exact back I9 q9
   | true =>
    rw [if_pos rfl]
    rw [if_pos rfl] at q9
    refine wpAny_mono (hte _ _ _ _ _ _ s9 _ H9 _ I9 q9) (fun y s10 h10 => ?_) fun _ _ z => False.elim z
    obtain ⟨v10, H10, I10, r10, xs, hx10, hz, q10⟩ := h10
    refine wpAny_mono (Zea (X := blk X N scope cl s3.heap.objs.size s3 (upd H2 s2.heap.objs.size (.lst [])) fp pins) _ s10 _ H10 (.ref s2.heap.objs.size) [v10] _ [y] (fun _ H11 => H11 = upd H10 s2.heap.objs.size (.lst (xs ++ [v10]))) I10 rfl (.cons r10 .nil) ⟨_, xs, v10, rfl, rfl, hx10, hz, rfl⟩) (fun _ s11 h11 => ?_) fun _ _ z => False.elim z
    obtain ⟨_, H11, I11, _, e11⟩ := h11
    subst e11
    exact back I11 q10
 exact codeAny_compStart_list (loop _ rfl) (T.self _ 0 _ _ _ st4 (loop _ rfl))
end L2.Internal
namespace L2.Internal
open PySem PySem.Spec PyProof.Rows
section
variable {prog : Program} {w : World} {A : Around} {E : Value -> Shared -> Prop} {s : Shared}
end
section
variable {prog : Program} {w : World} {A : Around} {E : Value -> Shared -> Prop} {s : Shared}
end
section
variable {X : Cx}
end
end L2.Internal
namespace L2.Internal
open PySem PySem.Spec PyProof.Rows
theorem Zlu : typeLookup (.type "tuple") "keys" = pure none := by rw [typeLookup_type, builtinLookup_eq_fast]; kernel_rfl
section
variable {prog : Program} {w : World} {A : Around} {E : Value -> Shared -> Prop} {s : Shared}
theorem ZoY {a : Addr} {xs : Array Value} {k : Nat} {sl : Array (Option Value)} {Q : Option Value -> Shared -> Prop} (hx : s.heap.get? a = some { cls := .type "tuple", dict := none, data := .seq xs k, slots := sl }) (hA : A.handled = none)
  (q : ∀ h' tk, (∀ b o, s.heap.get? b = some o -> h'.get? b = some o) -> Q none { s with heap := h', toks := tk }) : wpAny (model prog w) A (getAttr? (.ref a) "keys") Q E s := by
 obtain ⟨hp, g, d, tk, os⟩ := s
 have hT : ∀ tk', (⟨hp, g, d, tk', os⟩ : Shared).TypeIs (.ref a) "tuple" := fun _ => ⟨_, hx, rfl⟩
 have f1 := sub_AttributeError
 have f3 := F.slot_tuple_getattribute.lookup
 have f4 := F.slot_tuple_getattribute.bind (.ref a)
 have f5 := am_tuple_getattr_none
 unfold getAttr? getAttrBy? getAttrBy
 repeat (any_goals (first | assumption | exact hT _ | ((with_reducible show wpAny _ _ (call (Value.builtin "tuple.__getattribute__") _ _) _ _ _); refine call_meets F.slot_tuple_getattribute (hT _) am_entry_tuple_getattribute (F.args_tuple_getattribute_2 _ _) (meets_getattribute_miss_tuple a xs k sl "keys" _ Zlu (by decide +kernel) (by decide +kernel)) ⟨hx, hA, fun h' tk' e hx' => ?_⟩) | wp_step))
 obtain ⟨t', u', he⟩ := hx'.there
 show wpAny _ _ (getattributeRaised _ _ _ _ _ _ _) _ _ _
 unfold getattributeRaised
 repeat (any_goals (first | assumption | wp_step))
 exact q h' tk' hx'.keeps
end
inductive Prs (H : Hp) : List V -> List (Str × V) -> Prop
 | nil : Prs H [] []
 | cons {a : Addr} {p : Str × V} {l : List V} {m : List (Str × V)} : H a = some (.tup [.str p.1, p.2]) -> Prs H l m -> Prs H (.ref a :: l) (p :: m)
theorem Zgu : entryFor table "dict.update.loop" = some Builtin.«dict.update.loop» := entryFor_of_tree (by kernel_rfl)
noncomputable def kf (p : Str × V) : Key × V := (Sum.inr p.1, p.2)
section
variable {X : Cx} {pins : List (Addr × Obj)} {σ : St} {H : Hp} {d it t : Addr} {vs : List V} {A : Around} {R : Result -> Shared -> Prop}
theorem Zjy (hA : A.handled = none) (hd : H d = none) (ht : H t = some (.tup vs)) : ∀ (rest : List (Str × V)) (ys : List V) (i : Nat) (acc : List (Key × V)) (s : Shared),
  Inv X pins σ (upd H d (.dK acc)) s -> ZkC X pins (upd H d (.dK acc)) it -> s.heap.IsTupleIter it t i -> vs.drop i = ys -> Prs H ys rest -> acc.length + rest.length <= 1000 ->
  (∀ s', Inv X pins σ (upd H d (.dK (Zfx acc (rest.map kf)))) s' -> R (.ok (.ret .none)) s') ->
  codeAny (model X.prog X.w) A (.builtin "dict.update.loop" ⟨[.ref d, .ref it, .int (i : Int) 0, .none], []⟩) R s
 | [], ys, i, acc, s, I, f, st, ey, hp, hn, k => by
  cases hp
  have ht' : (upd H d (.dK acc)) t = some (.tup vs) := by rw [ZdA (ZdD ht hd)]; exact ht
  obtain ⟨its, rv, p, hz⟩ := I.tuple (SqT.of ht')
  obtain ⟨f0, f1, f2, f3, f4, f5⟩ := f
  have hl := rv.length
  have hi : vs.length <= i := ZaZ.mp ey
  refine codeAny_builtin Zgu ?_
  unfold Builtin.«dict.update.loop»
  show wpAny _ _ (pyNext (.ref it) >>= _) _ _ s
  refine wpAny_bind (wpAny_pyNext_tuple_end (by exact hA) st (show s.heap.IsTuple t its.toArray from p) (by simp; omega) fun h' eb => ?_)
  have I1 : Inv X pins σ (upd H d (.dK acc)) { s with heap := h' } := I.turned (t' := s.toks) (fun b o hb e => eb b o hb e) f0 f1 f3 f4 f5
  exact wpAny_bind (wpAny_pure (wpAny_pure (k _ I1)))
 | pr :: rest, ys, i, acc, s, I, f, st, ey, hp0, hn, k => by
  obtain ⟨a, l, rfl, ha, hp⟩ : ∃ a l, ys = .ref a :: l /\ H a = some (.tup [.str pr.1, pr.2]) /\ Prs H l rest := by
   cases hp0 with
   | cons h1 h2 => exact ⟨_, _, rfl, h1, h2⟩
  have ht' : (upd H d (.dK acc)) t = some (.tup vs) := by rw [ZdA (ZdD ht hd)]; exact ht
  have ha' : (upd H d (.dK acc)) a = some (.tup [.str pr.1, pr.2]) := by rw [ZdA (ZdD ha hd)]; exact ha
  obtain ⟨its, rv, p, hz⟩ := I.tuple (SqT.of ht')
  have ff := f
  obtain ⟨f0, f1, f2, f3, f4, f5⟩ := f
  have hvi : vs[i]? = some (.ref a) := by
   have := congrArg (·[0]?) ey
   simpa using this
  obtain ⟨u, hu, ru⟩ := rv.get hvi
  cases ru
  refine codeAny_builtin Zgu ?_
  unfold Builtin.«dict.update.loop»
  show wpAny _ _ (pyNext (.ref it) >>= _) _ _ s
  refine wpAny_bind (wpAny_pyNext_tuple_item st (show s.heap.IsTuple t its.toArray from p) (x := .ref a) (by simpa using hu) fun h' st' sb => ?_)
  have I1 : Inv X pins σ (upd H d (.dK acc)) { s with heap := h' } := I.turned (t' := s.toks) (fun b o hb e => (sb.2 b hb).trans e) f0 f1 f3 f4 f5
  obtain ⟨its2, rv2, ⟨ob, hob, hoc, on, hod⟩, _⟩ := I1.tuple (SqT.of ha')
  obtain ⟨kx, vx, rfl, ⟨tk, rfl⟩, rvx⟩ := ZpZ rv2
  obtain ⟨z, hds, vs2, rel, dd⟩ := ZoK I1.hok (show (upd H d (.dK acc)) d = some (.dK acc) from Zdt)
  refine wpAny_bind (wpAny_holding (wpAny_bind (wpAny_tryCatch ?_)))
  unfold Builtin.Dict.pairItems
  refine wpAny_bind (wpAny_typeOf (T := "tuple") ⟨ob, hob, hoc⟩ ?_)
  rw [if_pos (by decide)]
  refine wpAny_bind (wpAny_seqItems hob hod ?_)
  refine wpAny_pure ?_
  show wpAny _ _ (holding [Value.str pr.1 tk, vx] (dictSet d (.str pr.1 tk) vx)) _ _ _
  have hv2 : vs2.length <= sizeLine := by rw [<- rel.length]; exact z
  have hn' : acc.length + (rest.length + 1) <= 1000 := hn
  have hl : (ZfM acc (Sum.inr pr.1) pr.2).length <= 1000 := by have := Zfa acc (Sum.inr pr.1) pr.2; omega
  have hl2 : (ZfM acc (Sum.inr pr.1) pr.2).length + rest.length <= 1000 := by have := Zfa acc (Sum.inr pr.1) pr.2; omega
  refine wpAny_holding (wpAny_dictSet_pairs (hsz := hv2) (k := (Sum.inr pr.1 : Key)) (Zj7 (k := (Sum.inr pr.1 : Key)) (show ZeL (kV (Sum.inr pr.1)) _ from ⟨tk, rfl⟩)) dd fun h2 dd2 sb2 => ?_)
  have he : ∃ q, h2.get? d = some q := let ⟨q, _, _, hq, _⟩ := dd2; ⟨q, hq⟩
  have I2 := Zio (t' := s.toks + 1) I1 (by rw [Zdt]; exact True.intro) sb2 he (ZkG (kvs := ZfM acc (Sum.inr pr.1) pr.2) (ZbH hl (by decide)) hds (rel.put (Sum.inr pr.1) rvx) dd2)
  rw [Zes] at I2
  have hid : it ≠ d := fun e => by rw [e, Zdt] at f0; exact nomatch f0
  obtain ⟨oi, hoi, ri⟩ := st'
  have st2 : h2.IsTupleIter it t (i + 1) := ⟨oi, (sb2.2 it hid).trans hoi, ri⟩
  refine wpAny_pure ⟨Code.quiet_builtin _ (by decide +kernel), ?_⟩
  have ey2 : vs.drop (i + 1) = l := by rw [<- List.tail_drop, ey]; rfl
  exact Zjy hA hd ht rest l (i + 1) (ZfM acc (Sum.inr pr.1) pr.2) _ I2 ⟨by rw [ZdA hid] at f0 ⊢; exact f0, f1, f2, f3, f4, f5⟩ st2 ey2 hp hl2 k
end
section
variable {X : Cx}
theorem Zib (hc : X.calm = true) : ZgK X (.type "dict") (fun xs H Q => ∃ (t : Addr) (vs : List V) (kvs : List (Str × V)), xs = [.ref t] /\ H t = some (.tup vs) /\ Prs H vs kvs /\ kvs.length <= 1000 /\ ∀ d, H d = none -> Q (.ref d) (upd H d (.dK (Zfx [] (kvs.map kf))))) := by
 intro pins s σ H xs us Q I r h
 obtain ⟨t, vs, kvs, rfl, ht, hp, hn, q⟩ := h
 obtain ⟨u, rfl, ru⟩ := Zg2 r
 cases ru
 obtain ⟨_, its, rv, o, ho, hcl, n, hd, hdd⟩ := (show Ze4 X.prog X.w H s.heap t (.tup vs) from I.hok t _ ht)
 obtain ⟨oc, od, odt, osl⟩ := o
 cases (show oc = _ from hcl)
 cases (show odt = _ from hd)
 cases (show od = _ from hdd)
 refine callType_codes (Q₁ := fun obj s₁ => obj = .ref s.heap.objs.size /\ s₁ = { s with heap := s.heap.push { cls := .type "dict", data := .dict #[] } }) F.kt_called_dict (F.kt_typeCall_dict_1 _) F.entry_dict_init (kt_code_dict_new _ ⟨rfl, rfl⟩) ?_
 rintro obj s₁ ⟨rfl, rfl⟩
 have hnew : (s.heap.push { cls := .type "dict", data := .dict #[] }).DictOf (ZeM X.prog X.w) s.heap.objs.size [] := Heap.DictOf.new s.heap
 refine ⟨hnew.typeIs, F.args_dict_init_2 _ _, ?_⟩
 unfold Builtin.«dict.__init__»
 refine wpAny_bind ?_
 unfold Builtin.Dict.selfAndRest
 refine wpAny_bind (wpAny_notOrdered_dict hnew.typeIs ?_)
 show wpAny _ _ (pure (s.heap.objs.size, [Value.ref t])) _ _ _
 refine wpAny_pure ?_
 show wpAny _ _ (Builtin.Dict.updateFrom "dict.__init__" s.heap.objs.size (.ref t) [] .none) _ _ _
 unfold Builtin.Dict.updateFrom
 have ho1 := Zdm { cls := .type "dict", data := .dict #[] } ho
 refine wpAny_bind (wpAny_typeOf (T := "tuple") ⟨_, ho1, rfl⟩ ?_)
 rw [if_pos (by decide)]
 refine wpAny_bind (ZoY ho1 (by exact I.ok.hd hc) fun h1 tk1 kp1 => ?_)
 rw [if_pos (by rfl)]
 refine wpAny_bind (wpAny_rule ?_)
 have I1 : Inv X pins σ (upd H s.heap.objs.size (.dK [])) { s with heap := h1, toks := tk1 } := by
  refine I.laid (fun b u e => kp1 b u (Zdm _ e)) (ZbK _) (ZkG (by decide) ?_ .nil ?_)
  ·have hb := I.big
   exact beq_false_of_ne (ZbJ hb)
  ·obtain ⟨o, es, ep, ho, r⟩ := hnew
   exact ⟨o, es, ep, kp1 _ _ ho, r⟩
 have ho2 : h1.IsTuple t its.toArray := ⟨_, kp1 _ _ ho1, rfl, n, rfl⟩
 refine wpAny_bind (wpAny_pyIter_tuple (show ({ s with heap := h1, toks := tk1 } : Shared).heap.IsTuple t its.toArray from ho2) ?_)
 have f := I1.fpOk (ZbK _) (I1.hok.fresh (ZbK _))
 have I2 : Inv X pins σ (upd H s.heap.objs.size (.dK [])) { s with heap := h1.push { cls := .type "tuple_iterator", data := .fields #[.ref t, .int 0 0] }, toks := tk1 } := I1.kept (t' := tk1) fun b o e => Zdm _ e
 refine wpAny_pure ⟨Code.quiet_builtin _ (by decide +kernel), ?_⟩
 refine Zjy (A := X.A.in1) (by exact I.ok.hd hc) (I.hok.fresh (ZbK _)) ht kvs vs 0 [] _ I2 f ⟨_, Zdl _ rfl, rfl, rfl⟩ rfl hp (by simpa using hn) fun s' J => ?_
 exact ⟨rfl, .ref s.heap.objs.size, _, J, rfl, q _ (I.hok.fresh (ZbK _))⟩
end
end L2.Internal
namespace BO.Internal
open PySem L2.Internal
theorem sz {n : Nat} (h : n <= 100000) : n <= sizeLine := ZbH h (by decide)
theorem Zdz {H : Hp} {p : Addr} (h : H p = none) (o : HO) : ZdN H (upd H p o) := fun b u q => by rw [ZdA (ZdD q h)]; exact q
theorem Zoe {α : Type} (l : List α) (i : Int) (h0 : 0 <= i) (h1 : i < (l.length : Int)) : ∃ c, atI l i = some c /\ c ∈ l := by
 have e : i = ((i.toNat : Nat) : Int) := by omega
 have hi : i.toNat < l.length := by omega
 refine ⟨l[i.toNat], ?_, List.getElem_mem hi⟩
 have z : atI l ((i.toNat : Nat) : Int) = some l[i.toNat] := Zdy (ZaT hi)
 rw [<- e] at z
 exact z
noncomputable def flN : V -> Bool
 | .non => true
 | .int _ => true
 | .str _ => true
 | _ => false
mutual
inductive Im (H : Hp) : V -> Dt -> Prop where
 | flat {v : V} (h : flN v = true) : Im H v (.flat v)
 | tup {a : Addr} {xs : List V} {ds : List Dt} (h : H a = some (.tup xs)) (hs : Ims H xs ds) : Im H (.ref a) (.tup ds)
inductive Ims (H : Hp) : List V -> List Dt -> Prop where
 | nil : Ims H [] []
 | cons {x : V} {d : Dt} {xs : List V} {ds : List Dt} (h : Im H x d) (hs : Ims H xs ds) : Ims H (x :: xs) (d :: ds)
end
mutual
inductive Dta (H : Hp) : V -> Dt -> Prop where
 | flat {v : V} (h : flN v = true) : Dta H v (.flat v)
 | tup {a : Addr} {xs : List V} {ds : List Dt} (h : H a = some (.tup xs)) (hs : ZoZ H xs ds) : Dta H (.ref a) (.tup ds)
 | lst {a : Addr} {xs : List V} {ds : List Dt} (h : H a = some (.lst xs)) (hs : ZoZ H xs ds) : Dta H (.ref a) (.lst ds)
inductive ZoZ (H : Hp) : List V -> List Dt -> Prop where
 | nil : ZoZ H [] []
 | cons {x : V} {d : Dt} {xs : List V} {ds : List Dt} (h : Dta H x d) (hs : ZoZ H xs ds) : ZoZ H (x :: xs) (d :: ds)
end
def TK (H H' : Hp) : Prop := ∀ a xs, H a = some (.tup xs) -> H' a = some (.tup xs)
theorem ZdN.tk {H H' : Hp} (s : ZdN H H') : TK H H' := fun a xs e => s a _ e
mutual
theorem Im.mono {H H' : Hp} (k : TK H H') : ∀ {v : V} {d : Dt}, Im H v d -> Im H' v d
 | _, _, .flat h => .flat h
 | _, _, .tup h hs => .tup (k _ _ h) (Ims.mono k hs)
theorem Ims.mono {H H' : Hp} (k : TK H H') : ∀ {v : List V} {d : List Dt}, Ims H v d -> Ims H' v d
 | _, _, .nil => .nil
 | _, _, .cons h hs => .cons (Im.mono k h) (Ims.mono k hs)
end
mutual
theorem Im.da {H : Hp} : ∀ {v : V} {d : Dt}, Im H v d -> Dta H v d
 | _, _, .flat h => .flat h
 | _, _, .tup h hs => .tup h (Ims.das hs)
theorem Ims.das {H : Hp} : ∀ {v : List V} {d : List Dt}, Ims H v d -> ZoZ H v d
 | _, _, .nil => .nil
 | _, _, .cons h hs => .cons (Im.da h) (Ims.das hs)
end
theorem Ims.length {H : Hp} : ∀ {xs : List V} {ds : List Dt}, Ims H xs ds -> xs.length = ds.length
 | _, _, .nil => rfl
 | _, _, .cons _ t => by rw [Zao, Zao, Ims.length t]
theorem Ims.app {H : Hp} : ∀ {xs ys : List V} {ds es : List Dt}, Ims H xs ds -> Ims H ys es -> Ims H (xs ++ ys) (ds ++ es)
 | _, _, _, _, .nil, h => h
 | _, _, _, _, .cons a b, h => .cons a (Ims.app b h)
inductive Zgp {α β : Type} (F : α -> β -> Prop) : List α -> List β -> Prop
 | nil : Zgp F [] []
 | cons {a : α} {b : β} {l : List α} {m : List β} : F a b -> Zgp F l m -> Zgp F (a :: l) (b :: m)
theorem Zgp.imp {α β : Type} {F G : α -> β -> Prop} (f : ∀ a b, F a b -> G a b) : ∀ {l : List α} {m : List β}, Zgp F l m -> Zgp G l m
 | _, _, .nil => .nil
 | _, _, .cons h t => .cons (f _ _ h) (Zgp.imp f t)
theorem Zgp.snoc {α β : Type} {F : α -> β -> Prop} {a : α} {b : β} (h : F a b) : ∀ {l : List α} {m : List β}, Zgp F l m -> Zgp F (l ++ [a]) (m ++ [b])
 | _, _, .nil => .cons h .nil
 | _, _, .cons x t => .cons x (Zgp.snoc h t)
theorem Zgp.length {α β : Type} {F : α -> β -> Prop} : ∀ {l : List α} {m : List β}, Zgp F l m -> l.length = m.length
 | _, _, .nil => rfl
 | _, _, .cons _ t => by rw [Zao, Zao, Zgp.length t]
theorem Zgp.get {α β : Type} {F : α -> β -> Prop} : ∀ {l : List α} {m : List β} {j : Nat} {x : α}, Zgp F l m -> l[j]? = some x -> ∃ y, m[j]? = some y /\ F x y
 | _, _, 0, _, .cons h _, e => ⟨_, rfl, by cases e; exact h⟩
 | _, _, j + 1, _, .cons _ t, e => by
  rw [ZaX] at e
  obtain ⟨d, e1, e2⟩ := Zgp.get t e
  exact ⟨d, by rw [ZaX]; exact e1, e2⟩
mutual
noncomputable def okD : Dt -> Prop
 | .flat _ => True
 | .tup l => l.length <= 100000 /\ Zqf l
 | .lst l => l.length <= 100000 /\ Zqf l
noncomputable def Zqf : List Dt -> Prop
 | [] => True
 | x :: xs => okD x /\ Zqf xs
end
theorem ZkK {α : Type} {f : α -> Dt} : ∀ {l : List α}, (∀ x ∈ l, okD (f x)) -> Zqf (l.map f)
 | [], _ => trivial
 | x :: xs, h => ⟨h x (by simp), ZkK fun y hy => h y (by simp [hy])⟩
theorem ZhA {α : Type} {f : α -> Dt} {n : Nat} : ∀ {l : List α}, (∀ x ∈ l, Zjd (f x) <= n) -> ZgO (l.map f) <= n
 | [], _ => ZbL _
 | x :: xs, h => Nat.max_le.mpr ⟨h x (by simp), ZhA fun y hy => h y (by simp [hy])⟩
noncomputable def prL (p : Str × Int) : Dt := .tup [.flat (.str p.1), .flat (.int p.2)]
noncomputable def prD (l : List (Str × Int)) : Dt := .tup (l.map prL)
inductive Us where
 | num (a p s : Int)
 | call (a p s x y : Int)
 | take (a p s : Int) (l : List (Str × Int))
 | case (a p s : Int) (l : List (Str × Int))
 | row (a p s x : Int)
noncomputable def hdD (n : Str) (a p s : Int) : List Dt := [.flat (.str n), .flat (.int a), .flat (.int p), .flat (.int s)]
noncomputable def Us.d : Us -> Dt
 | .num a p s => .tup (hdD "num" a p s)
 | .call a p s x y => .tup (hdD "call" a p s ++ [.flat (.int x), .flat (.int y)])
 | .take a p s l => .tup (hdD "take" a p s ++ [prD l])
 | .case a p s l => .tup (hdD "case" a p s ++ [prD l])
 | .row a p s x => .tup (hdD "row" a p s ++ [.flat (.int x)])
noncomputable def Us.ok : Us -> Prop
 | .take _ _ _ l => l.length <= 10
 | .case _ _ _ l => l.length <= 10
 | _ => True
structure Mkg where
 s : Str
 f : Dt
 a : Int
 p : Int
noncomputable def Mkg.d (m : Mkg) : Dt := .tup [.flat (.str m.s), m.f, .flat (.int m.a), .flat (.int m.p)]
theorem Zo0 (l : List (Str × Int)) : Zjd (prD l) <= 2 := by
 have h : ∀ l : List (Str × Int), ZgO (l.map prL) <= 1 := by
  intro l
  induction l with
  | nil => exact ZbL _
  | cons x t ih => exact Nat.max_le.mpr ⟨by simp [prL, Zjd, ZgO], ih⟩
 exact ZbT (h l)
theorem Zqg {l : List (Str × Int)} (h : l.length <= 10) : okD (prD l) := ⟨by rw [Zar]; omega, ZkK fun x _ => ⟨by show 2 <= 100000; decide, trivial, trivial, trivial⟩⟩
noncomputable def fU (a p s : V) : List (Str × V) := [("at", a), ("place", p), ("slot", s)]
noncomputable def fU1 (n : Str) (a p s x : V) : List (Str × V) := [("at", a), ("place", p), ("slot", s), (n, x)]
noncomputable def fU2 (a p s x y : V) : List (Str × V) := [("at", a), ("place", p), ("slot", s), ("arg", x), ("out", y)]
noncomputable def fM (s f a p : V) : List (Str × V) := [("shape", s), ("parts", f), ("at", a), ("place", p)]
noncomputable def fB (p0 p1 p2 p3 : Addr) (r : V) : List (Str × V) := [("points", .ref p0), ("makes", .ref p1), ("uses", .ref p2), ("flows", .ref p3), ("root", r)]
structure Cs where
 M : Addr
 N : Addr
 C : Addr
 T : Addr
 K : Addr
 R : Addr
 B : Addr
noncomputable def UsAt (c : Cs) (H : Hp) (v : V) : Us -> Prop
 | .num a p s => ∃ x dx, v = .ref x /\ H x = some (.ins c.N dx (fU (.int a) (.int p) (.int s)))
 | .call a p s y z => ∃ x dx, v = .ref x /\ H x = some (.ins c.C dx (fU2 (.int a) (.int p) (.int s) (.int y) (.int z)))
 | .take a p s l => ∃ x dx f, v = .ref x /\ H x = some (.ins c.T dx (fU1 "fields" (.int a) (.int p) (.int s) f)) /\ Im H f (prD l) /\ l.length <= 10
 | .case a p s l => ∃ x dx f, v = .ref x /\ H x = some (.ins c.K dx (fU1 "arms" (.int a) (.int p) (.int s) f)) /\ Im H f (prD l) /\ l.length <= 10
 | .row a p s y => ∃ x dx, v = .ref x /\ H x = some (.ins c.R dx (fU1 "out" (.int a) (.int p) (.int s) (.int y)))
def Zic (c : Cs) (H : Hp) (v : V) (m : Mkg) : Prop := ∃ x dx f, v = .ref x /\ H x = some (.ins c.M dx (fM (.str m.s) f (.int m.a) (.int m.p))) /\ Im H f m.f /\ Zjd m.f <= 2 /\ okD m.f
noncomputable def Fz : HO -> Prop
 | .tup _ => True
 | .ins _ _ fs => fs.length ≠ 5 \/ ∃ v r, fs = (("at" : Str), v) :: r
 | _ => False
def FK (H H' : Hp) : Prop := ∀ a o, H a = some o -> Fz o -> H' a = some o
theorem FK.tk {H H' : Hp} (k : FK H H') : TK H H' := fun a xs e => k a _ e trivial
theorem ZdN.fk {H H' : Hp} (s : ZdN H H') : FK H H' := fun a o e _ => s a o e
theorem FK.trans {H H1 H2 : Hp} (a : FK H H1) (b : FK H1 H2) : FK H H2 := fun c o e f => b c o (a c o e f) f
theorem UsAt.mono {c : Cs} {H H' : Hp} {v : V} (k : FK H H') : ∀ {u : Us}, UsAt c H v u -> UsAt c H' v u
 | .num _ _ _, ⟨x, dx, e, h⟩ => ⟨x, dx, e, k _ _ h (.inr ⟨_, _, rfl⟩)⟩
 | .call _ _ _ _ _, ⟨x, dx, e, h⟩ => ⟨x, dx, e, k _ _ h (.inr ⟨_, _, rfl⟩)⟩
 | .take _ _ _ _, ⟨x, dx, f, e, h, i, n⟩ => ⟨x, dx, f, e, k _ _ h (.inr ⟨_, _, rfl⟩), i.mono k.tk, n⟩
 | .case _ _ _ _, ⟨x, dx, f, e, h, i, n⟩ => ⟨x, dx, f, e, k _ _ h (.inr ⟨_, _, rfl⟩), i.mono k.tk, n⟩
 | .row _ _ _ _, ⟨x, dx, e, h⟩ => ⟨x, dx, e, k _ _ h (.inr ⟨_, _, rfl⟩)⟩
theorem Zic.mono {c : Cs} {H H' : Hp} {v : V} {m : Mkg} (k : FK H H') : Zic c H v m -> Zic c H' v m
 | ⟨x, dx, f, e, h, i, d⟩ => ⟨x, dx, f, e, k _ _ h (.inl (by show 4 ≠ 5; decide)), i.mono k.tk, d⟩
theorem Zhd {J : It} {i : Nat} {te : TE} {Q : VK} {τ : St} {H1 : Hp} {D : Addr} (n : Nat) (hn : n < sizeLine) (R : List V -> Hp -> Prop) (hR : ∀ xs H H', R xs H -> TK H H' -> R xs H') (hD : H1 D = none) (hτ : τ.set i none = τ)
  (hgo : ∀ k H, ZdN H1 H -> k < n -> J.go k H) (hst : ∀ H, ZdN H1 H -> J.stop n H) (h0 : R [] H1)
  (step : ∀ k H v H3 xs (Z : VK), ZdN H1 H -> k < n -> J.yld k H v H3 -> R xs H -> xs.length = k -> (∀ y H5, ZdN H H5 -> R (xs ++ [y]) H5 -> Z y H5) -> te (τ.set i (some v)) H3 Z)
  (hq : ∀ H' xs, ZdN H1 H' -> R xs H' -> xs.length = n -> H' D = some (.lst xs) -> Q (.ref D) H') : LcP J i Zkc te Q τ H1 D := by
 have nd : ∀ (H5 : Hp) (xs ys : List V), H5 D = some (.lst xs) -> TK H5 (upd H5 D (.lst ys)) := fun H5 xs ys e a zs q => by rw [ZdA (ZdY q e (fun z => nomatch z))]; exact q
 have up : ∀ {H : Hp} (o : HO), ZdN H1 H -> ZdN H1 (upd H D o) := fun {H} o S b u e => by rw [ZdA (ZdD e hD)]; exact S b u e
 refine ⟨fun k m σ' H2 => m = n - k /\ k <= n /\ (∃ o, σ' = τ.set i o) /\ ZdN H1 H2 /\ ∃ xs, H2 D = some (.lst xs) /\ xs.length = k /\ R xs H2, ⟨n, by simp, ZbL _, ⟨none, hτ.symm⟩, Zdz hD _, [], Zdt, rfl, hR _ _ _ h0 (ZdN.tk (Zdz hD _))⟩, ?_⟩
 rintro k m σ' H2 ⟨rfl, hk, ⟨o, rfl⟩, S, xs, e, hl, hr⟩
 by_cases hlt : k < n
 ·refine .inr ⟨hgo k H2 S hlt, fun v H3 y => ?_⟩
  rw [List.set_set]
  refine step k H2 v H3 xs _ S hlt y hr hl fun y H5 S5 r5 => ?_
  refine ⟨xs, S5 D _ e, by omega, n - (k + 1), by omega, rfl, hlt, ⟨some v, rfl⟩, up _ (S.trans S5), xs ++ [y], Zdt, by rw [ZaC, hl]; rfl, hR _ _ _ r5 (nd H5 _ _ (S5 D _ e))⟩
 ·have e1 : k = n := by omega
  subst e1
  exact .inl ⟨hst H2 S, hq H2 xs S hr hl e⟩
theorem ZkL {K : PySem.W.Frag} {a : Addr} {xs : List V} {k : Nat} {H1 H : Hp} (e : H1 a = some (.lst xs)) (S : ZdN H1 H) (h : k < xs.length) : (Itl K a).go k H := ⟨xs, xs[k], SqL.of (S a _ e), ZaT h⟩
theorem ZkM {K : PySem.W.Frag} {a : Addr} {xs : List V} {H1 H : Hp} (e : H1 a = some (.lst xs)) (S : ZdN H1 H) : (Itl K a).stop xs.length H := ⟨xs, SqL.of (S a _ e), ZbK _⟩
theorem Zqh {K : PySem.W.Frag} {a : Addr} {xs : List V} {k : Nat} {H1 H : Hp} (e : H1 a = some (.tup xs)) (S : ZdN H1 H) (h : k < xs.length) : (Itt K a).go k H := ⟨xs, xs[k], SqT.of (S a _ e), ZaT h⟩
theorem Zqi {K : PySem.W.Frag} {a : Addr} {xs : List V} {H1 H : Hp} (e : H1 a = some (.tup xs)) (S : ZdN H1 H) : (Itt K a).stop xs.length H := ⟨xs, SqT.of (S a _ e), ZbK _⟩
inductive Ls (H : Hp) : List Addr -> List (List V) -> Prop
 | nil : Ls H [] []
 | cons {a : Addr} {c : List V} {l : List Addr} {m : List (List V)} : H a = some (.lst c) -> Ls H l m -> Ls H (a :: l) (c :: m)
theorem Ls.other {H : Hp} {b : Addr} {o : HO} : ∀ {l : List Addr} {m : List (List V)}, Ls H l m -> b ∉ l -> Ls (upd H b o) l m
 | _, _, .nil, _ => .nil
 | _, _, .cons (a := a) h t, n => .cons (by rw [ZdA (fun z => n (by simp [z]))]; exact h) (Ls.other t fun z => n (by simp [z]))
theorem Ls.frame {H H' : Hp} {M : List Addr} (k : ∀ a o, H a = some o -> a ∉ M -> H' a = some o) : ∀ {l : List Addr} {m : List (List V)}, Ls H l m -> (∀ a ∈ l, a ∉ M) -> Ls H' l m
 | _, _, .nil, _ => .nil
 | _, _, .cons (a := a) h t, n => .cons (k _ _ h (n a (by simp))) (Ls.frame k t fun b hb => n b (by simp [hb]))
theorem Ls.same {H H' : Hp} (k : ZdN H H') : ∀ {l : List Addr} {m : List (List V)}, Ls H l m -> Ls H' l m
 | _, _, .nil => .nil
 | _, _, .cons h t => .cons (k _ _ h) (Ls.same k t)
theorem Ls.get {H : Hp} : ∀ {l : List Addr} {m : List (List V)} {i : Nat} {a : Addr}, Ls H l m -> l[i]? = some a -> ∃ c, m[i]? = some c /\ H a = some (.lst c)
 | _, _, 0, _, .cons h _, e => ⟨_, rfl, by cases e; exact h⟩
 | _, _, j + 1, _, .cons _ t, e => by
  rw [ZaX] at e
  obtain ⟨d, e1, e2⟩ := Ls.get t e
  exact ⟨d, by rw [ZaX]; exact e1, e2⟩
theorem Ls.put {H : Hp} {c : List V} : ∀ {l : List Addr} {m : List (List V)} {i : Nat} {a : Addr}, Ls H l m -> l.Nodup -> l[i]? = some a -> Ls (upd H a (.lst c)) l (m.set i c)
 | _, _, 0, _, .cons h t, n, e => by
  cases e
  exact .cons Zdt (t.other (Zat.mp n).1)
 | _, _, j + 1, a, .cons (a := b) h t, n, e => by
  rw [ZaX] at e
  have nb : b ≠ a := fun z => (Zat.mp n).1 (by rw [z]; exact ZaB e)
  exact .cons (by rw [ZdA nb]; exact h) (Ls.put t (Zat.mp n).2 e)
structure Sd where
 b : Addr
 dx : Addr
 p0 : Addr
 p1 : Addr
 p2 : Addr
 p3 : Addr
 d : Addr
 q0 : Addr
 q1 : Addr
 q2 : Addr
 q3 : Addr
noncomputable def Sd.ls (S : Sd) : List Addr := [S.p0, S.p1, S.p2, S.p3, S.d, S.q0, S.q1, S.q2, S.q3]
structure Bd where
 pts : List Int
 mks : List Mkg
 uss : List Us
 fls : List (Int × Int)
 root : Int
noncomputable def flD (p : Int × Int) : Dt := .tup [.flat (.int p.1), .flat (.int p.2)]
structure BSx (c : Cs) (H : Hp) (S : Sd) (E D : Bd) : Prop where
 nd : S.ls.Nodup
 ob : H S.b = some (.ins c.B S.dx (fB S.p0 S.p1 S.p2 S.p3 (.int D.root)))
 st : ∃ mv uv fv mv' uv' fv' : List V, Ls H S.ls [D.pts.map V.int, mv, uv, fv, [.ref S.q0, .ref S.q1, .ref S.q2, .ref S.q3, .int E.root], E.pts.map V.int, mv', uv', fv'] /\
  Zgp (Zic c H) mv D.mks /\ Zgp (UsAt c H) uv D.uss /\ Ims H fv (D.fls.map flD) /\ Ims H mv' (E.mks.map Mkg.d) /\ Ims H uv' (E.uss.map Us.d) /\ Ims H fv' (E.fls.map flD)
theorem Ls.at {H : Hp} {l : List Addr} {m : List (List V)} (L : Ls H l m) {i : Nat} {a : Addr} {c : List V} (h1 : l[i]? = some a) (h2 : m[i]? = some c) : H a = some (.lst c) := by
 obtain ⟨d, e1, e2⟩ := L.get h1
 rw [h2] at e1
 cases e1
 exact e2
theorem Zid {H : Hp} {a : Addr} {xs : List V} {o : HO} (h : H a = some (.lst xs)) : FK H (upd H a o) := fun b u e f => by
 rw [ZdA (ZdY e h (fun z => by rw [z] at f; exact f))]
 exact e
section
variable {c : Cs} {H H' : Hp} {S : Sd} {E D : Bd}
theorem BSx.frame {M : List Addr} (B : BSx c H S E D) (k : ∀ a o, H a = some o -> a ∉ M -> H' a = some o) (hb : S.b ∉ M) (hl : ∀ a ∈ S.ls, a ∉ M) (fk : FK H H') : BSx c H' S E D := by
 obtain ⟨nd, ob, mv, uv, fv, mv', uv', fv', L, h1, h2, h3, h4, h5, h6⟩ := B
 exact ⟨nd, k _ _ ob hb, mv, uv, fv, mv', uv', fv', L.frame k hl, h1.imp fun _ _ => Zic.mono fk, h2.imp fun _ _ => UsAt.mono fk, h3.mono fk.tk, h4.mono fk.tk, h5.mono fk.tk, h6.mono fk.tk⟩
theorem Ls.mem {H : Hp} : ∀ {l : List Addr} {m : List (List V)} {a : Addr}, Ls H l m -> a ∈ l -> ∃ c, H a = some (.lst c)
 | _, _, _, .nil, h => by simp at h
 | _, _, _, .cons e t, h => by
  rcases Zag.mp h with z | z
  ·rw [z]; exact ⟨_, e⟩
  ·exact Ls.mem t z
end
theorem BSx.hl {c : Cs} {H : Hp} {S : Sd} {E D : Bd} {l : Addr} {xs : List V} {o : HO} (B : BSx c H S E D) (hn : l ∉ S.ls) (e : H l = some (.lst xs)) : BSx c (upd H l o) S E D := by
 refine B.frame (M := [l]) (fun a u q n => ?_) (fun z => ?_) (fun a ha z => ?_) (Zid e)
 ·rw [ZdA (fun z => n (by simp [z]))]; exact q
 ·have z' : S.b = l := by simpa using z
  have q := B.ob
  rw [z', e] at q
  cases q
 ·have z' : a = l := by simpa using z
  rw [z'] at ha
  exact hn ha
def Frm (M : List Addr) (H H' : Hp) : Prop := ∀ a o, H a = some o -> a ∉ M -> H' a = some o
theorem Frm.trans {M : List Addr} {H H1 H2 : Hp} (a : Frm M H H1) (b : Frm M H1 H2) : Frm M H H2 := fun c o e n => b c o (a c o e n) n
end BO.Internal
namespace BO.Internal
open PySem L2.Internal
noncomputable def lk : List (Str × Int) -> Str -> Option Int
 | [], _ => none
 | p :: t, w => if p.1 = w then some p.2 else lk t w
noncomputable def pI (p : Str × Int) : Str × V := (p.1, .int p.2)
def Zo1 (l : List (Str × Int)) : Prop := (l.map Prod.fst).Nodup
theorem Zmm : ∀ {l : List (Str × Int)} {w : Str}, w ∉ l.map Prod.fst -> lk l w = none
 | [], _, _ => rfl
 | p :: t, w, h => by
  rw [Zaq, Zag, not_or] at h
  rw [lk, if_neg (fun z => h.1 z.symm)]
  exact Zmm h.2
theorem Zg5 : ∀ (l : List (Str × Int)) (acc : List (Key × V)) (w : Str), Zo1 l -> Zfs (Zfx acc ((l.map pI).map kf)) (Sum.inr w) = match lk l w with
  | some i => some (.int i)
  | none => Zfs acc (Sum.inr w)
 | [], _, _, _ => rfl
 | p :: t, acc, w, h => by
  obtain ⟨h1, h2⟩ := Zat.mp (show (p.1 :: t.map Prod.fst).Nodup from h)
  show Zfs (Zfx (ZfM acc (Sum.inr p.1) (.int p.2)) ((t.map pI).map kf)) (Sum.inr w) = _
  rw [Zg5 t _ w h2, Zhm, lk]
  by_cases e : p.1 = w
  ·rw [if_pos e, Zmm (by rw [<- e]; exact h1)]
   rw [if_pos (by rw [e])]
  ·rw [if_neg e]
   rw [if_neg (fun z => e (by injection z with z; exact z.symm))]
inductive Mf where
 | num
 | fn (x y : Int)
 | rcd (l : List (Str × Int))
 | tag (w : Str) (x : Int)
 | row (x : Int)
 | any
noncomputable def Mf.s : Mf -> Str
 | .num => "num"
 | .fn _ _ => "fn"
 | .rcd _ => "rec"
 | .tag _ _ => "tag"
 | .row _ => "row"
 | .any => "any"
noncomputable def Mf.f : Mf -> Dt
 | .num => .tup []
 | .fn x y => .tup [.flat (.int x), .flat (.int y)]
 | .rcd l => prD l
 | .tag w x => .tup [.flat (.str w), .flat (.int x)]
 | .row x => .tup [.flat (.int x)]
 | .any => .tup []
noncomputable def Mf.ok : Mf -> Prop
 | .rcd l => l.length <= 10 /\ Zo1 l
 | _ => True
noncomputable def mkg (m : Mf) (a p : Int) : Mkg := ⟨m.s, m.f, a, p⟩
theorem Mf.dep (m : Mf) : Zjd m.f <= 2 := by
 cases m with
 | rcd l => exact Zo0 l
 | _ => simp [Mf.f, Zjd, ZgO]
theorem Mf.okd {m : Mf} (h : m.ok) : okD m.f := by
 cases m with
 | rcd l => exact Zqg h.1
 | _ => simp [Mf.f, okD, Zqf]
noncomputable def Us.dist : Us -> Prop
 | .take _ _ _ l => Zo1 l
 | .case _ _ _ l => Zo1 l
 | _ => True
noncomputable def fnd (m : List (Str × Int)) (p : Str × Int) : Option (Int × Int) := (lk m p.1).map fun x => (x, p.2)
noncomputable def Zlv (l m : List (Str × Int)) : Option (List (Int × Int)) := if (l.filterMap (fnd m)).length = l.length then some (l.filterMap (fnd m)) else none
noncomputable def Zj2 : Us -> Mf -> Option (List (Int × Int))
 | .num _ _ _, .num => some []
 | .call _ _ _ x y, .fn a b => some [(x, a), (b, y)]
 | .take _ _ _ l, .rcd m => Zlv l m
 | .case _ _ _ l, .tag w x => (lk l w).map fun y => [(x, y)]
 | .row _ _ _ y, .row x => some [(x, y)]
 | _, _ => none
noncomputable def mtD : Option (List (Int × Int)) -> Dt
 | none => .flat .non
 | some l => .lst (l.map flD)
theorem Zlw {l m : List (Str × Int)} {p : Str × Int} (h : p ∈ l) (e : lk m p.1 = none) : Zlv l m = none := by
 have : ∀ l : List (Str × Int), p ∈ l -> (l.filterMap (fnd m)).length < l.length := by
  intro l
  induction l with
  | nil => intro h; simp at h
  | cons a t ih =>
   intro h
   have hle := List.length_filterMap_le (fnd m) t
   rw [Zad]
   rcases Zag.mp h with z | z
   ·have : fnd m a = none := by rw [<- z, fnd, e]; rfl
    rw [this]
    show (Za0 (fnd m) t).length < t.length + 1
    omega
   ·have := ih z
    cases fnd m a with
    | none => show (Za0 (fnd m) t).length < t.length + 1; omega
    | some q => show (Za0 (fnd m) t).length + 1 < t.length + 1; omega
 rw [Zlv, if_neg (ZbG (this l h))]
theorem Zo2 {H : Hp} : ∀ {xs : List V} {l : List (Str × Int)}, Ims H xs (l.map prL) -> Prs H xs (l.map pI)
 | _, [], .nil => .nil
 | _, p :: t, .cons h hs => by
  cases h with
  | tup e es =>
   cases es with
   | cons h1 es =>
    cases h1
    cases es with
    | cons h2 es =>
     cases h2
     cases es
     exact .cons e (Zo2 hs)
theorem Zof {H : Hp} : ∀ {xs : List V} {ps : List (Str × Int)} {k : Nat} {v : V}, Ims H xs (ps.map prL) -> xs[k]? = some v -> ∃ p t, ps[k]? = some p /\ v = .ref t /\ H t = some (.tup [.str p.1, .int p.2])
 | _, [], _, _, .nil, e => by simp at e
 | _, p :: ps, 0, v, .cons h _, e => by
  cases e
  cases h with
  | tup e es =>
   cases es with
   | cons h1 es =>
    cases h1
    cases es with
    | cons h2 es =>
     cases h2
     cases es
     exact ⟨p, _, rfl, rfl, e⟩
 | _, p :: ps, k + 1, v, .cons _ t, e => by
  rw [ZaX] at e
  obtain ⟨q, u, e1, e2⟩ := Zof t e
  exact ⟨q, u, by rw [ZaX]; exact e1, e2⟩
end BO.Internal
namespace L2.Internal
open PySem PySem.Spec PyProof.Rows
section
variable {X : Cx} {e a b o f : Expr} {st : Stmt} {ta tb td ty tx to : TE} {pos apos cpos : Pos}
theorem PE.weak {t t' : TE} (h : PE X e t) (m : ∀ σ H Q, t' σ H Q -> t σ H Q) : PE X e t' := fun pins s σ H Q I q => h pins s σ H Q I (m σ H Q q)
theorem PT.weak {t t' : TT} (h : PT X e t) (m : ∀ σ H Q, t' σ H Q -> t σ H Q) : PT X e t' := fun pins s σ H Q I q => h pins s σ H Q I (m σ H Q q)
theorem PS.weak {t t' : TS.Internal} (h : PS X st t) (m : ∀ D σ H, t' D σ H -> t D σ H) : PS X st t' := fun pins s σ H D I q => h pins s σ H D I (m D σ H q)
theorem OpR.weak {g : Value -> Value -> Sem Value} {r r' : R2} (h : OpR X g r) (m : ∀ x y H Q, r' x y H Q -> r x y H Q) : OpR X g r' := fun pins s σ H x y v u Q I rx ry q => h pins s σ H x y v u Q I rx ry (m x y H Q q)
theorem IxR.weak {r r' : R2} (h : IxR X r) (m : ∀ x y H Q, r' x y H Q -> r x y H Q) : IxR X r' := fun value slice pins s σ H x y v u Q I rx ry q hs => h value slice pins s σ H x y v u Q I rx ry (m x y H Q q) hs
def mT (t : TE) : TE := fun σ H Q => ∃ Q0 : VK, t σ H Q0 /\ ∀ x H1, Q0 x H1 -> Q x H1
theorem PE.mono {t : TE} (h : PE X e t) : PE X e (mT t) := fun pins s σ H Q I ⟨Q0, h0, m⟩ => thn (h pins s σ H Q0 I h0) fun v s1 ⟨x, H1, I1, r1, q1⟩ => ⟨x, H1, I1, r1, m x H1 q1⟩
def mR (r : R2) : R2 := fun x y H Q => ∃ Q0 : VK, r x y H Q0 /\ ∀ x H1, Q0 x H1 -> Q x H1
theorem OpR.mono {g : Value -> Value -> Sem Value} {r : R2} (h : OpR X g r) : OpR X g (mR r) := fun pins s σ H x y v u Q I rx ry ⟨Q0, h0, m⟩ => thn (h pins s σ H x y v u Q0 I rx ry h0) fun v s1 ⟨x, H1, I1, r1, q1⟩ => ⟨x, H1, I1, r1, m x H1 q1⟩
noncomputable def onV : Option (Option V) -> (V -> Prop) -> Prop
 | some (some v), k => k v
 | _, _ => False
noncomputable def onS {α : Type} : Option α -> (α -> Prop) -> Prop
 | some v, k => k v
 | none, _ => False
theorem ZdC {α : Type} {x : Option α} {v : α} {k : α -> Prop} (h : x = some v) (q : k v) : onS x k := by rw [h]; exact q
theorem Zmn {α : Type} {x : Option α} {k : α -> Prop} (h : onS x k) : ∃ v, x = some v /\ k v := by
 cases x with
 | none => exact h.elim
 | some v => exact ⟨v, rfl, h⟩
def cV (i : Nat) : TE := fun σ H Q => onV σ[i]? fun v => Q v H
theorem cv (i : Nat) {x : Str} {pos : Pos} (hN : autoParam (X.N[i]? = some x) L2.Internal.auR._auto_1) (hv : Vis X.env.scope x := by first | exact Or.inl rfl | exact Or.inr (.inl rfl) | exact Or.inr (.inr rfl)) (hd : autoParam ((x == ("__debug__" : Str)) = false) L2.Internal.auD._auto_1)
  (hcd : autoParam ((x == ("__classdict__" : Str)) = false) L2.Internal.auD._auto_1) : PE X (.Name x pos) (cV i) := (pv i hN hv hd hcd).weak fun σ H Q h => by
 unfold cV at h
 cases q : σ[i]? with
 | none => rw [q] at h; exact h.elim
 | some o =>
  rw [q] at h
  cases o with
  | none => exact h.elim
  | some v => exact ⟨v, q, h⟩
def cI0 (g : Int -> Int -> V) : R2 := fun x y H Q => match x, y with
 | .int i, .int j => Q (g i j) H
 | _, _ => False
def cI (C : Int -> Int -> Prop) (g : Int -> Int -> V) : R2 := fun x y H Q => match x, y with
 | .int i, .int j => C i j /\ Q (g i j) H
 | _, _ => False
theorem Zmo {g : Int -> Int -> V} : ∀ x y H Q, cI0 g x y H Q -> rI0 g x y H Q := fun x y H Q h => by
 unfold cI0 at h
 split at h
 ·exact ⟨_, _, rfl, rfl, h⟩
 ·exact h.elim
theorem ZnB {C : Int -> Int -> Prop} {g : Int -> Int -> V} : ∀ x y H Q, cI C g x y H Q -> rI C g x y H Q := fun x y H Q h => by
 unfold cI at h
 split at h
 ·exact ⟨_, _, rfl, rfl, h.1, h.2⟩
 ·exact h.elim
theorem ZgP : OpR X (binaryOp .Add) (cI0 fun i j => .int (i + j)) := ZpV.weak Zmo
theorem Zqj : OpR X (binaryOp .Sub) (cI0 fun i j => .int (i - j)) := Zn4.weak Zmo
theorem Zjz : OpR X (binaryOp .Mult) (cI ZqR fun i j => .int (i * j)) := ZpW.weak ZnB
theorem Ziy : OpR X (binaryOp .FloorDiv) (cI ZrQ fun i j => .int (i / j)) := ZoE.weak ZnB
theorem ZfH : OpR X (binaryOp .Mod) (cI (fun _ j => 0 < j) fun i j => .int (i % j)) := ZpX.weak ZnB
theorem Zog : OpR X (binaryOp .Pow) (cI ZrR fun i j => .int (i ^ j.toNat)) := ZpY.weak ZnB
theorem Zo3 : OpR X (compareOp .Lt) (cI0 fun i j => .bl (decide (i < j))) := Zq8.weak Zmo
def cEq (n : Bool) : R2 := fun x y H Q => match x, y with
 | .int i, .int j => Q (.bl (xor n (decide (i = j)))) H
 | .str i, .str j => Q (.bl (xor n (decide (i = j)))) H
 | _, _ => False
theorem ZrY {i j : Str} : decide (V.str i = V.str j) = decide (i = j) := by
 rw [ZcY]
 simp
theorem ZrZ {i j : Int} : decide (V.int i = V.int j) = decide (i = j) := by
 rw [ZcY]
 simp
theorem Zft : OpR X (compareOp .Eq) (cEq false) := Zq7.weak fun x y H Q h => by
 unfold cEq at h
 split at h
 ·refine ⟨rfl, ?_⟩; rw [ZrZ]; rw [Bool.false_xor] at h; exact h
 ·refine ⟨rfl, ?_⟩; rw [ZrY]; rw [Bool.false_xor] at h; exact h
 ·exact h.elim
theorem ZnC : OpR X (compareOp .NotEq) (cEq true) := Zlf.weak fun x y H Q h => by
 unfold cEq at h
 split at h
 ·refine ⟨rfl, ?_⟩; rw [ZrZ]; rw [Bool.true_xor] at h; exact h
 ·refine ⟨rfl, ?_⟩; rw [ZrY]; rw [Bool.true_xor] at h; exact h
 ·exact h.elim
noncomputable def onB : V -> (Bool -> Prop) -> Prop
 | .bl k, q => q k
 | _, _ => False
theorem Zqk {x : V} {k : Bool -> Prop} (h : onB x k) : ∃ c, x = .bl c /\ k c := by
 cases x <;> first | exact ⟨_, rfl, h⟩ | exact h.elim
def cT (t : TE) : TT := fun σ H Q => t σ H fun x H' => onB x fun k => Q k H'
theorem ZdQ {op : CmpOp} {r : R2} (ho : OpR X (compareOp op) r) (ha : PE X a ta) (hb : PE X b tb) (hm : behindInMarks op b = false) : PT X (.Compare a [op] [b] pos) (cT (tOp r ta tb)) :=
 (Zg1 ho.mono ha.mono hb.mono hm).weak fun σ H Q h => ⟨_, h, fun x H1 h1 => ⟨_, h1, fun y H2 h2 => ⟨_, h2, fun z H' h3 => Zqk h3⟩⟩⟩
def Zr0 : R2 := fun x y H Q => match x, y with
 | .ref p, .int i => ∃ xs, H p = some (.lst xs) /\ onS (atI xs i) fun v => Q v H
 | _, _ => False
def ZpI : R2 := fun x y H Q => match x, y with
 | .ref p, .int i => ∃ xs, H p = some (.tup xs) /\ onS (atI xs i) fun v => Q v H
 | _, _ => False
def Zr1 : R2 := fun x y H Q => match x, y with
 | .str z, .int i => z.length <= sizeLine /\ onS (atI z.cps.toList i) fun c => Q (.str ⟨#[c]⟩) H
 | _, _ => False
theorem ZdK : IxR X Zr0 := ZoS.weak fun x y H Q h => by
 unfold Zr0 at h
 split at h
 ·obtain ⟨xs, e, h⟩ := h
  obtain ⟨v, ev, h⟩ := Zmn h
  exact ⟨_, xs, _, v, rfl, rfl, SqL.of e, ev, h⟩
 ·exact h.elim
theorem ZdG : IxR X ZpI := Zgt.weak fun x y H Q h => by
 unfold ZpI at h
 split at h
 ·obtain ⟨xs, e, h⟩ := h
  obtain ⟨v, ev, h⟩ := Zmn h
  exact ⟨_, xs, _, v, rfl, rfl, SqT.of e, ev, h⟩
 ·exact h.elim
theorem Zql : IxR X Zr1 := Zp7.weak fun x y H Q h => by
 unfold Zr1 at h
 split at h
 ·obtain ⟨e, h⟩ := h
  obtain ⟨v, ev, h⟩ := Zmn h
  exact ⟨_, _, v, rfl, rfl, e, ev, h⟩
 ·exact h.elim
def Fd (H : Hp) (a C : Addr) (f : Str) (v : V) : Prop := ∃ dx fs, H a = some (.ins C dx fs) /\ fs.lookup f = some v
def Nf (H : Hp) (a C : Addr) (m : Str) : Prop := ∃ dx fs, H a = some (.ins C dx fs) /\ fs.lookup m = none
def cFld (C : Addr) (f : Str) (ta : TE) : TE := fun σ H Q => ta σ H fun x H1 => match x with
 | .ref a => ∃ v, Fd H1 a C f v /\ Q v H1
 | _ => False
theorem ZdI {C : Addr} {f : Str} (c : Cls X.K C) (n : ZdP X.K C f) (he : PE X e ta) (hb : autoParam (attributeBase e f X.env (eval e X.env) = eval e X.env) L2.Internal.auR._auto_1) : PE X (.Attribute e f pos) (cFld C f ta) :=
 (Zex he.mono hb).weak fun σ H Q h => ⟨_, h, fun x H1 h1 => by
  cases x with
  | ref a =>
   obtain ⟨v, ⟨dx, fs, ea, ev⟩, q⟩ := h1
   exact ⟨a, C, dx, fs, v, rfl, ea, c, n, ev, q⟩
  | _ => exact h1.elim⟩
def Zri (C : Addr) (m : Str) (sp : Sp) (dvs : List V) (E : XK) (ta : TE) (t : TA) : TE := fun σ H Q => ta σ H fun x H1 => match x with
 | .ref a => Nf H1 a C m /\ t σ H1 fun vs H2 => sp (.ref a :: (vs ++ dvs)) H2 Q E
 | _ => False
theorem Zef {C : Addr} {m : Str} {sp : Sp} {dvs : List V} {E : XK} {t : TA} (h : PE X e (Zp0 C m sp dvs E (mT ta) t)) : PE X e (Zri C m sp dvs E ta t) := h.weak fun σ H Q h => ⟨_, h, fun x H1 h1 => by
  cases x with
  | ref a =>
   obtain ⟨⟨dx, fs, ea, l⟩, q⟩ := h1
   exact ⟨a, dx, fs, rfl, ea, l, q⟩
  | _ => exact h1.elim⟩
noncomputable def Zrj (C : Addr) (f : Str) (ta tv : TE) : TS.Internal := fun D σ H => tv σ H fun y H1 => ta σ H1 fun x H2 => match x with
 | .ref a => ∃ dx fs, H2 a = some (.ins C dx fs) /\ fs.length < 1000 /\ D.nx σ (upd H2 a (.ins C dx (ZfQ f y fs)))
 | _ => False
theorem ZfT {C : Addr} {f : Str} {tv : TE} (c : Cls X.K C) (n : ZdP X.K C f) (h : PS X st (ZrT X.K (mT ta) (mT tv) f)) : PS X st (Zrj C f ta tv) := h.weak fun D σ H h => ⟨_, h, fun y H1 h1 => ⟨_, h1, fun x H2 h2 => by
  cases x with
  | ref a =>
   obtain ⟨dx, fs, ea, l, q⟩ := h2
   exact ⟨a, C, dx, fs, rfl, ea, c, n, l, q⟩
  | _ => exact h2.elim⟩⟩
def cS : R2 := fun x y H Q => match x, y with
 | .str i, .str j => i.length + j.length <= sizeLine /\ Q (.str (i ++ j)) H
 | _, _ => False
theorem Ziz : OpR X (binaryOp .Add) cS := Zlg.weak fun x y H Q h => by
 unfold cS at h
 split at h
 ·exact ⟨_, _, rfl, rfl, h.1, h.2⟩
 ·exact h.elim
def Zrk (td ty tx : TE) : TE := fun σ H Q => td σ H fun x H1 => ∃ a, x = .ref a /\ IsD H1 a /\ ty σ H1 fun y H2 => tx σ H2 fun z H3 => ∃ kvs k, H3 a = some (.dK kvs) /\ y = kV k /\ kvs.length < sizeLine /\
 (∀ v, Zfs kvs k = some v -> Q v H3) /\ (Zfs kvs k = none -> Q z (upd H3 a (.dK (ZfM kvs k z))))
theorem ZnD {pins : List (Addr × Obj)} {σ : St} {H : Hp} {s : Shared} {a : Addr} {kvs : List (Key × V)} {k : Key} {d : V} {u r : Value} {A : Around} {E : Value -> Shared -> Prop} {Q : Value -> Shared -> Prop} (I : Inv X pins σ H s) (e : H a = some (.dK kvs)) (ry : ZeL (kV k) u) (rd : ZeL d r) (hl : kvs.length < sizeLine)
  (h1 : ∀ v w' s', Zfs kvs k = some v -> Inv X pins σ H s' -> ZeL v w' -> Q w' s') (h2 : Zfs kvs k = none -> ∀ s', Inv X pins σ (upd H a (.dK (ZfM kvs k d))) s' -> Q r s') :
  wpAny (model X.prog X.w) A (call (.builtin "dict.setdefault") [.ref a, u, r]) Q E s := by
 obtain ⟨z, hd, vs, rel, dd⟩ := ZoK I.hok e
 refine call_meetsIn ZcT dd.typeIs PySem.F.entry_dict_setdefault (PySem.F.args_dict_setdefault_3 _ _ _) (kt_meets_setdefault (ZeM X.prog X.w) a (Zj7 ry) hd r) ⟨vs, dd, by rw [<- rel.length]; exact z, fun v hv => ?_, fun hn h' dd' hs => ?_⟩
 ·have q := rel.val k
  rw [hv] at q
  cases e2 : Zfs kvs k with
  | none => rw [e2] at q; exact q.elim
  | some v' => rw [e2] at q; exact h1 v' _ _ e2 (I.tok _) q
 ·have q := rel.val k
  rw [hn] at q
  cases e2 : Zfs kvs k with
  | some v' => rw [e2] at q; exact q.elim
  | none =>
   have hl' : (ZfM kvs k d).length <= sizeLine := by have := Zfa kvs k d; omega
   have he : ∃ q, h'.get? a = some q := let ⟨q, _, _, hq, _⟩ := dd'; ⟨q, hq⟩
   exact h2 e2 _ (Zio I (by rw [e]; exact True.intro) hs he (ZkG hl' hd (rel.put k rd) dd'))
theorem ZiA (ho : PE X o td) (he : PE X e ty) (hf : PE X f tx) (m : M2 X o "setdefault" apos e f cpos) : PE X (.Call (.Attribute o "setdefault" apos) [e, f] [] cpos) (Zrk td ty tx) := by
 intro pins s σ H Q I h
 refine wpAny_Call_method m.base m.few m.line ZcP ZcT PySem.F.type_dict_setdefault (thn (ho pins s σ H _ I h) fun u s1 ⟨x, H1, I1, rx, a, ex, d, q1⟩ => ?_)
 subst ex
 obtain rfl : u = Value.ref a := rx
 obtain ⟨t1, t2, _⟩ := Zn6 I1 d
 refine ⟨t1, t2, ?_⟩
 rw [m.trees]
 refine Calls.callWith_builtin rfl (Calls.evalArgs_plain (Calls.spliced_cons (thn (he pins s1 σ H1 _ I1 q1) fun iv s2 ⟨y, H2, I2, ry, q2⟩ =>
  Calls.spliced_cons (thn (hf pins s2 σ H2 _ I2 q2) fun fv s3 ⟨z, H3, I3, rz, kvs, k, e3, ey, hl, q3, q4⟩ => Calls.spliced_nil ?_))))
 subst ey
 exact ZnD I3 e3 ry rz hl (fun v w' s4 ev I4 rw' => ⟨v, H3, I4, rw', q3 v ev⟩) (fun hn s4 I4 => ⟨z, _, I4, rz, q4 hn⟩)
def cApp (to ta : TE) : TE := fun σ H Q => to σ H fun x H1 => match x with
 | .ref l => (∃ xs, H1 l = some (.lst xs)) /\ ta σ H1 fun y H2 => ∃ xs, H2 l = some (.lst xs) /\ xs.length < sizeLine /\ Q .non (upd H2 l (.lst (xs ++ [y])))
 | _ => False
theorem ZfK (h : PE X e (tBM X.K "list" Zl9 (mT to) (Zhg (mT ta) ZpG))) : PE X e (cApp to ta) := h.weak fun σ H Q h => ⟨_, h, fun x H1 h1 => by
  cases x with
  | ref l =>
   obtain ⟨⟨xs, e⟩, q⟩ := h1
   exact ⟨.inl ⟨rfl, xs, SqL.of e⟩, _, q, fun y H2 ⟨xs, e, hl, q2⟩ => ⟨l, xs, y, rfl, rfl, e, hl, q2⟩⟩
  | _ => exact h1.elim⟩
end
end L2.Internal
namespace BO.Internal
open PySem L2.Internal
theorem ZiB : ∀ (n : Nat) (l : List Nat), l.Nodup -> (∀ x ∈ l, x < n) -> l.length <= n
 | 0, [], _, _ => ZbK _
 | 0, a :: _, _, h => absurd (h a (by simp)) (ZbU _)
 | n + 1, l, d, h => by
  by_cases m : n ∈ l
  ·have e := Za1 m
   have ih := ZiB n (l.erase n) (d.erase n) fun x hx => by
    have := (List.Nodup.mem_erase_iff d).mp hx
    have := h x this.2
    omega
   omega
  ·have ih := ZiB n l d fun x hx => by
    have := h x hx
    have : x ≠ n := fun z => m (z ▸ hx)
    omega
   omega
noncomputable def wd : Bool -> Str
 | true => "goes"
 | false => "here"
structure Rw where
 w : Bool
 a : Int
 b : Int
 y : Option (Int × Int)
noncomputable def Rw.k (r : Rw) : List Key := [.inr (wd r.w), .inl r.a, .inl r.b]
noncomputable def ZpJ : Option (Int × Int) -> Dt
 | none => .flat .non
 | some p => flD p
noncomputable def Rw.d (r : Rw) : Dt := .tup [.flat (.str (wd r.w)), .flat (.int r.a), .flat (.int r.b), ZpJ r.y]
def Rw.ok (N M : Int) (r : Rw) : Prop := 0 <= r.a /\ (r.a < match r.w with | true => N | false => M) /\ 0 <= r.b /\ r.b < N
noncomputable def Rw.c (r : Rw) : Nat := (match r.w with | true => 0 | false => 4096) + r.a.toNat * 64 + r.b.toNat
theorem ZjA {α β : Type} {f : α -> β} : ∀ {l : List α}, (l.map f).Nodup -> ∀ {g : α -> Nat}, (∀ x ∈ l, ∀ y ∈ l, g x = g y -> f x = f y) -> (l.map g).Nodup
 | [], _, _, _ => ZaI
 | a :: t, h, g, k => by
  rw [Zaq, Zat] at h ⊢
  refine ⟨fun m => ?_, ZjA h.2 fun x hx y hy => k x (by simp [hx]) y (by simp [hy])⟩
  obtain ⟨y, hy, e⟩ := ZaW.mp m
  exact h.1 (ZaW.mpr ⟨y, hy, k y (by simp [hy]) a (by simp) e⟩)
theorem Zo4 {N M : Int} {l : List Rw} (hN : N <= 64) (hM : M <= 64) (d : (l.map Rw.k).Nodup) (h : ∀ r ∈ l, r.ok N M) : l.length <= 8192 := by
 have z : ∀ r ∈ l, 0 <= r.a /\ r.a < 64 /\ 0 <= r.b /\ r.b < 64 := fun r hr => by
  obtain ⟨h1, h2, h3, h4⟩ := h r hr
  cases e : r.w <;> rw [e] at h2 <;> dsimp only at h2 <;> omega
 have := ZiB 8192 (l.map Rw.c) (ZjA d fun x hx y hy e => ?_) fun c hc => ?_
 ·rw [Zar] at this; exact this
 ·have a1 := z x hx
  have a2 := z y hy
  unfold Rw.c at e
  have w : x.w = y.w := by
   cases e1 : x.w <;> cases e2 : y.w <;> rw [e1, e2] at e <;> dsimp only at e <;> first | rfl | omega
  rw [w] at e
  have : x.a = y.a /\ x.b = y.b := by
   cases e2 : y.w <;> rw [e2] at e <;> dsimp only at e <;> omega
  rw [Rw.k, Rw.k, w, this.1, this.2]
 ·obtain ⟨r, hr, rfl⟩ := ZaW.mp hc
  have a1 := z r hr
  unfold Rw.c
  cases e : r.w <;> dsimp only <;> omega
noncomputable def ixn (A : Nat -> Option Int) (p : Int) (n : Nat) : List Int := ((Zaa n).filter fun j => decide (A j = some p)).map fun j => ((j : Nat) : Int)
theorem ZiC {A : Nat -> Option Int} {p : Int} {n : Nat} : ixn A p (n + 1) = ixn A p n ++ if A n = some p then [(n : Int)] else [] := by
 unfold ixn
 rw [Za2, Za3, ZaO]
 congr 1
 by_cases h : A n = some p
 ·rw [if_pos h]; simp [h]
 ·rw [if_neg h]; simp [h]
theorem ZhB {A : Nat -> Option Int} {p : Int} {n : Nat} : (ixn A p n).length <= n := by
 unfold ixn
 rw [Zar]
 exact ZbH (ZaN _ _) (by simp)
theorem Zke {A : Nat -> Option Int} {p : Int} {n : Nat} {x : Int} (h : x ∈ ixn A p n) : ∃ j : Nat, x = j /\ j < n /\ A j = some p := by
 unfold ixn at h
 obtain ⟨j, hj, rfl⟩ := ZaW.mp h
 rw [Zab] at hj
 exact ⟨j, rfl, Zac.mp hj.1, of_decide_eq_true hj.2⟩
noncomputable def bdn (A : Nat -> Option Int) (q : Int -> Bool) (p k : Int) (n : Nat) : List (Int × Int) := ((ixn A p n).filter q).map fun j => (k, j)
theorem Zo5 {A : Nat -> Option Int} {q : Int -> Bool} {p k : Int} {n : Nat} : (bdn A q p k n).length <= n := by
 unfold bdn
 rw [Zar]
 exact ZbH (ZaN _ _) ZhB
noncomputable def ZjB (f : Rw -> Int -> List (Int × Int)) (R : List Rw) : Nat -> List (Int × Int)
 | 0 => []
 | n + 1 => ZjB f R n ++ match R[n]? with
  | some r => f r n
  | none => []
theorem Zmp {f : Rw -> Int -> List (Int × Int)} {R S : List Rw} : ∀ {n : Nat}, n <= R.length -> ZjB f (R ++ S) n = ZjB f R n
 | 0, _ => rfl
 | n + 1, h => by
  rw [ZjB, ZjB, Zmp (Nat.le_of_succ_le h), Zaz h]
theorem Zo6 {f : Rw -> Int -> List (Int × Int)} {R : List Rw} {n : Nat} {r : Rw} (h : R[n]? = some r) : ZjB f R (n + 1) = ZjB f R n ++ f r n := by
 rw [ZjB, h]
structure DL (H : Hp) (d : Addr) (L : List Addr) (f : Int -> List V) (k : Nat) : Prop where
 ex : ∃ kvs : List (Key × V), H d = some (.dK kvs) /\ kvs.length <= k /\ (∀ p, Zfs kvs (.inl p) = none -> f p = []) /\
  (∀ p v, Zfs kvs (.inl p) = some v -> ∃ l, l ∈ L /\ v = .ref l /\ H l = some (.lst (f p))) /\ (∀ p q v, Zfs kvs (.inl p) = some v -> Zfs kvs (.inl q) = some v -> p = q)
noncomputable def Zni (f : Int -> List V) (p : Int) (x : V) : Int -> List V := fun q => if q = p then f p ++ [x] else f q
structure Sda (H : Hp) (d : Addr) (L : List Addr) (f : Int -> List V) (k : Nat) (p : Int) (l : Addr) (H1 : Hp) : Prop where
 here : H1 l = some (.lst (f p))
 fin : ∀ H2 x, ZdN H1 H2 -> ∃ L', (∀ a ∈ L', a ∈ L \/ a = l) /\ DL (upd H2 l (.lst (f p ++ [x]))) d L' (Zni f p x) (k + 1)
 fr : ∀ a o, H a = some o -> a ≠ d -> H1 a = some o
 own : l ∈ L \/ H l = none
theorem DL.same {H H' : Hp} {d : Addr} {L : List Addr} {f : Int -> List V} {k : Nat} (W : DL H d L f k) (s : ∀ a o, H a = some o -> a = d \/ a ∈ L -> H' a = some o) : DL H' d L f k := by
 obtain ⟨kvs, e, hl, h1, h2, h3⟩ := W
 exact ⟨kvs, s _ _ e (.inl rfl), hl, h1, fun p v hv => by obtain ⟨l, m, rfl, el⟩ := h2 p v hv; exact ⟨l, m, rfl, s _ _ el (.inr m)⟩, h3⟩
theorem DL.keep {H H' : Hp} {d : Addr} {L : List Addr} {f : Int -> List V} {k : Nat} (W : DL H d L f k) (hd : ∀ kvs, H d = some (.dK kvs) -> H' d = some (.dK kvs)) (hl : ∀ a l, a ∈ L -> H a = some (.lst l) -> H' a = some (.lst l)) : DL H' d L f k := by
 obtain ⟨kvs, e, hn, h1, h2, h3⟩ := W
 exact ⟨kvs, hd _ e, hn, h1, fun p v hv => by obtain ⟨l, m, rfl, el⟩ := h2 p v hv; exact ⟨l, m, rfl, hl _ _ m el⟩, h3⟩
theorem DL.get {H : Hp} {d : Addr} {L : List Addr} {f : Int -> List V} {k : Nat} (W : DL H d L f k) (p : Int) {z : Addr} (hz : H z = none) :
  ∃ kvs l, (upd H z (.lst [])) d = some (.dK kvs) /\ (Zfs kvs (.inl p)).getD (.ref z) = .ref l /\ (upd H z (.lst [])) l = some (.lst (f p)) /\ (l ∈ L \/ H l = none) := by
 obtain ⟨kvs, e, hl, h1, h2, h3⟩ := W
 have s := Zdz hz (.lst [])
 cases ev : Zfs kvs (.inl p) with
 | none => exact ⟨kvs, z, s _ _ e, by rw [ev]; rfl, by rw [h1 p ev]; exact Zdt, .inr hz⟩
 | some v =>
  obtain ⟨l, m, rfl, el⟩ := h2 p v ev
  exact ⟨kvs, l, s _ _ e, by rw [ev]; rfl, s _ _ el, .inl m⟩
theorem DL.sda {H : Hp} {d : Addr} {L : List Addr} {f : Int -> List V} {k : Nat} (W : DL H d L f k) (p : Int) {z : Addr} (hz : H z = none) :
  ∃ kvs, (upd H z (.lst [])) d = some (.dK kvs) /\ kvs.length <= k /\
   (∀ v, Zfs kvs (.inl p) = some v -> ∃ l, v = .ref l /\ Sda H d L f k p l (upd H z (.lst []))) /\
   (Zfs kvs (.inl p) = none -> Sda H d L f k p z (upd (upd H z (.lst [])) d (.dK (ZfM kvs (.inl p) (.ref z))))) := by
 obtain ⟨kvs, e, hl, h1, h2, h3⟩ := W
 have s := Zdz hz (.lst [])
 have dz : d ≠ z := ZdD e hz
 refine ⟨kvs, s _ _ e, hl, fun v hv => ?_, fun hn => ?_⟩
 ·obtain ⟨l, m, rfl, el⟩ := h2 p v hv
  refine ⟨l, rfl, s _ _ el, fun H2 x S => ⟨L, fun a ha => .inl ha, kvs, ?_, ZbV hl, fun q hq => ?_, fun q v hv' => ?_, h3⟩, fun a o ea _ => s _ _ ea, .inl m⟩
  ·rw [ZdA (ZdY e el (fun z => nomatch z))]
   exact S _ _ (s _ _ e)
  ·have : q ≠ p := fun z => by rw [z, hv] at hq; cases hq
   rw [Zni, if_neg this]
   exact h1 q hq
  ·obtain ⟨l', m', rfl, el'⟩ := h2 q v hv'
   refine ⟨l', m', rfl, ?_⟩
   by_cases z : q = p
   ·subst z
    rw [hv] at hv'
    cases hv'
    rw [Zni, if_pos rfl]
    exact Zdt
   ·have : l' ≠ l := fun w => z (h3 q p (.ref l') hv' (by rw [w]; exact hv))
    rw [Zni, if_neg z, ZdA this]
    exact S _ _ (s _ _ el')
 ·have ez : (upd (upd H z (.lst [])) d (.dK (ZfM kvs (.inl p) (.ref z)))) z = some (.lst []) := by rw [ZdA dz.symm]; exact Zdt
  refine ⟨by rw [ez, h1 p hn], fun H2 x S => ⟨z :: L, fun a ha => ?_, ZfM kvs (.inl p) (.ref z), ?_, ?_, fun q hq => ?_, fun q v hv' => ?_, fun q1 q2 v e1 e2 => ?_⟩, fun a o ea n => by rw [ZdA n]; exact s _ _ ea, .inr hz⟩
  ·rcases Zag.mp ha with rfl | ha
   ·exact .inr rfl
   ·exact .inl ha
  ·rw [ZdA dz]
   exact S _ _ Zdt
  ·have := Zfa kvs (.inl p) (.ref z)
   omega
  ·rw [Zhm] at hq
   by_cases w : q = p
   ·rw [if_pos (by rw [w])] at hq; cases hq
   ·rw [if_neg (fun y => w (by injection y))] at hq
    rw [Zni, if_neg w]
    exact h1 q hq
  ·rw [Zhm] at hv'
   by_cases w : q = p
   ·rw [if_pos (by rw [w])] at hv'
    cases hv'
    exact ⟨z, by simp, rfl, by rw [Zni, if_pos w]; exact Zdt⟩
   ·rw [if_neg (fun y => w (by injection y))] at hv'
    obtain ⟨l', m', rfl, el'⟩ := h2 q v hv'
    refine ⟨l', by simp [m'], rfl, ?_⟩
    rw [Zni, if_neg w, ZdA (ZdD el' hz)]
    refine S _ _ ?_
    rw [ZdA (ZdY el' e (fun z => nomatch z))]
    exact s _ _ el'
  ·rw [Zhm] at e1 e2
   have no : ∀ q, Zfs kvs (.inl q) ≠ some (.ref z) := fun q y => by
    obtain ⟨l', _, w, el'⟩ := h2 q _ y
    cases w
    rw [hz] at el'
    cases el'
   by_cases w1 : q1 = p
   ·by_cases w2 : q2 = p
    ·rw [w1, w2]
    ·rw [if_pos (by rw [w1])] at e1
     cases e1
     rw [if_neg (fun y => w2 (by injection y))] at e2
     exact absurd e2 (no q2)
   ·by_cases w2 : q2 = p
    ·rw [if_pos (by rw [w2])] at e2
     cases e2
     rw [if_neg (fun y => w1 (by injection y))] at e1
     exact absurd e1 (no q1)
    ·rw [if_neg (fun y => w1 (by injection y))] at e1
     rw [if_neg (fun y => w2 (by injection y))] at e2
     exact h3 q1 q2 v e1 e2
end BO.Internal
namespace BO.Internal
open PySem L2.Internal
open Classical in
noncomputable def putR (R : List Rw) (ρ : Rw) : List Rw := if ρ.k ∈ R.map Rw.k then R else R ++ [ρ]
noncomputable def putsR (R l : List Rw) : List Rw := l.foldl putR R
end BO.Internal
namespace L2.Internal
open PySem PySem.Spec PyProof.Rows
section
variable {X : Cx}
end
end L2.Internal
namespace L2.Internal
open PySem PySem.Spec PyProof.Rows
section
variable {X : Cx}
theorem Zf8 : bootBuiltins "sorted" = some (.builtin "sorted") := by decide +kernel
end
section
variable {X : Cx} {pins : List (Addr × Obj)} {σ : St} {H : Hp} {s : Shared}
end
section
variable {prog : Program} {w : World} {A : Around} {R : Result -> Shared -> Prop} {I : Addr} {fp wr : List Addr} {n : Nat} {P : Nat -> Value -> Prop} {St : Nat -> Heap -> Prop}
end
section
variable {prog : Program} {w : World} {A : Around} {E : Value -> Shared -> Prop} {s : Shared} {l : Addr} {xs : Array (Int × Tok)}
end
section
variable {X : Cx}
end
end L2.Internal
namespace L2.Internal
open PySem PySem.Spec PyProof.Rows
section
variable {X : Cx}
end
end L2.Internal
namespace L2.Internal
open PySem PySem.Spec PyProof.Rows PySem.W
section
variable {prog : Program} {w : World} {A : Around} {E : Value -> Shared -> Prop} {s : Shared}
theorem Zmq {a : Addr} {vs : List Value} {n : Nat} {P : PySem.Fin -> Shared -> Prop} (ho : s.heap.get? a = some (seqObj "list" vs.toArray n)) (h2 : vs.length < 2)
  (hq : P (.done (.ret .none)) { s with heap := sortedHeap s.heap a vs (Za4 vs) }) : wpAny (model prog w) A (Builtin.«list.sort» ⟨[.ref a], []⟩) P E s := by
 obtain ⟨e1, g1⟩ : ∃ e1, (s.heap.update a (Obj.mapSeq fun _ => (#[] : Array Value))).get? a = some (seqObj "list" #[] e1) := ⟨_, get?_update_seq ho fun _ => #[]⟩
 have g2 : (((s.heap.update a (Obj.mapSeq fun _ => (#[] : Array Value))).push (seqObj "tuple" vs.toArray 0)).push (seqObj "list" #[] 0)).get? a = some (seqObj "list" #[] e1) := Zdm _ (Zdm _ g1)
 rw [list_sort_plain]
 refine wpAny_bind (listItems_at ho rfl (wpAny_bind (listUpdate_at ho rfl ?_ (by rw [ZaJ, sizeLine_eq]; omega) (ZbL _))))
 refine wpAny_bind (seqEpoch_at g1 rfl (wpAny_bind (wpAny_newTuple ?_ (by show vs.length <= _; rw [sizeLine_eq]; omega))))
 refine wpAny_bind (wpAny_newList (wpAny_holding ?_) (ZbL _))
 dsimp only
 have n2 : vs.toArray.size < 2 := by rw [ZaJ]; omega
 rw [if_pos n2, if_pos n2]
 refine wpAny_bind (wpAny_pure ?_)
 rw [StateT.run_pure]
 refine wpAny_bind (wpAny_pure ?_)
 dsimp only
 have ez : (arrOf (SortSt.mk' general' (vs.toArray.zip vs.toArray) #[] 7 none)).map (·.2) = Za4 vs := by
  show (vs.toArray.zip vs.toArray).map (·.2) = _
  apply Array.toList_inj.mp
  simp [List.map_snd_zip]
 refine wpAny_bind (seqEpoch_at g2 rfl (wpAny_bind (listUpdate_at g2 rfl ?_ (ZbL _) (by rw [Zc3]; show (vs.toArray.zip vs.toArray).size <= _; rw [sizeLine_eq]; simp; omega))))
 simp only [bne_self_eq_false, Zc0, if_false]
 refine wpAny_pure ?_
 rw [show (fun _ : Array Value => (arrOf (SortSt.mk' general' (vs.toArray.zip vs.toArray) #[] 7 none)).map (·.2)) = fun _ => Za4 vs from funext fun _ => ez]
 exact hq
end
section
variable {X : Cx}
end
end L2.Internal
namespace L2.Internal
open PySem PySem.Spec PyProof.Rows PySem.W
section
variable {fs ex : List Addr} {H H' : Hp} {h h' : Heap}
theorem Un.more (k : ∀ b u, h.get? b = some u -> h'.get? b = some u) (S : ∀ b o, H b = some o -> H' b = some o) (n : ∀ b u, h.get? b = some u -> H b = none -> H' b = none) : Un fs ex H H' h h' where
 keep := fun b u q _ _ _ => k b u q
 slot := fun b u q _ _ _ => ⟨u.slots, k b u q⟩
 free := fun b u q e _ => n b u q e
 there := fun b u q _ => ⟨u, k b u q⟩
 tups := fun b xs q => S _ _ q
 frzs := fun b u xs q => S _ _ q
 tbls := fun b ps q => ⟨#[], by rw [S _ _ q]; simp⟩
end
section
variable {X : Cx} {pins : List (Addr × Obj)} {σ : St} {H H' : Hp} {s : Shared} {h' : Heap}
theorem Inv.more {t' : Nat} (I : Inv X pins σ H s) (k : ∀ b u, s.heap.get? b = some u -> h'.get? b = some u) (S : ∀ b o, H b = some o -> H' b = some o) (n : ∀ b u, s.heap.get? b = some u -> H b = none -> H' b = none)
  (new : ∀ b o, H' b = some o -> H b = none -> Ze4 X.prog X.w H' h' b o) : Inv X pins σ H' { s with heap := h', toks := t' } :=
 I.un (Un.more k S n) fun b o e => by
  cases hb : H b with
  | none => exact new b o e hb
  | some u =>
   have e2 := S b u hb
   rw [e] at e2
   cases e2
   exact (I.hok b o hb).stay (fun c v _ q => k c v q) (fun c q => S _ _ q) fun c xs q => S _ _ q
end
section
variable {X : Cx}
theorem ZjC : ∀ as : List Addr, Ze0 (as.map V.ref) (as.map Value.ref)
 | [] => .nil
 | a :: as => .cons rfl (ZjC as)
end
end L2.Internal
namespace TS.Internal
open PySem PyProof.Rows
noncomputable def Zo7 : Bool -> Keyed -> Array Keyed -> Nat -> Nat -> Nat -> StateT SortSt Sem (Option Nat) := sortPriv% PySem.Builtin.gallop
structure Ord (le : Keyed -> Keyed -> Prop) : Prop where
 tot : ∀ x y, le x y \/ le y x
 tr : ∀ x y z, le x y -> le y z -> le x z
theorem Ord.refl {le : Keyed -> Keyed -> Prop} (o : Ord le) (x : Keyed) : le x x := (o.tot x x).elim id id
theorem Ord.of_not {le : Keyed -> Keyed -> Prop} (o : Ord le) {x y : Keyed} (h : ¬ le y x) : le x y := (o.tot x y).resolve_right h
def Sg (le : Keyed -> Keyed -> Prop) (xs : Array Keyed) (lo hi : Nat) : Prop := ∀ i j x y, lo <= i -> i <= j -> j < hi -> xs[i]? = some x -> xs[j]? = some y -> le x y
section
variable {prog : Program} {w : World} {A : Around} {E : Value -> Shared -> Prop} {s : Shared} {le : Keyed -> Keyed -> Prop} {κ : SortKind} {U : List Keyed}
def Ask (prog : Program) (w : World) (A : Around) (s : Shared) (κ : SortKind) (U : List Keyed) (le : Keyed -> Keyed -> Prop) : Prop :=
 ∀ x y, x ∈ U -> y ∈ U -> ∀ (E : Value -> Shared -> Prop) (Q : Option Bool -> SortSt -> Prop) (st : SortSt), kindOf st = κ -> (∀ b : Bool, (b = true ↔ ¬ le y x) -> Q (some b) st) -> wpS (model prog w) A E s (lt' x y) Q st
def In (U : List Keyed) (xs : Array Keyed) : Prop := ∀ x, x ∈ xs.toList -> x ∈ U
theorem In.at {xs : Array Keyed} (h : In U xs) {i : Nat} {x : Keyed} (e : xs[i]? = some x) : x ∈ U := h x (by
 obtain ⟨h1, h2⟩ := Zc4.mp e
 rw [<- h2]
 simp)
theorem In.perm {xs ys : Array Keyed} (h : In U xs) (p : ys.Perm xs) : In U ys := fun x hx => h x ((Zc5.mp p).mem_iff.mp hx)
theorem ZfD {xs : Array Keyed} {i : Nat} (h : i < xs.size) : ∃ x, xs[i]? = some x := ⟨xs[i], getElem?_pos xs i h⟩
theorem Zd4 {xs : Array Keyed} {i : Nat} {x : Keyed} {Q : Keyed -> SortSt -> Prop} {st : SortSt} (e : xs[i]? = some x) (h : Q x st) : wpS (model prog w) A E s (elem' xs i) Q st := by
 rw [elem'_eq, e]
 exact wpS_pure h
theorem Zmr (ask : Ask prog w A s κ U le) {i j : Nat} {x y : Keyed} {Q : Option Bool -> SortSt -> Prop} {st : SortSt} (hk : kindOf st = κ) (hU : In U (arrOf st)) (hi : (arrOf st)[i]? = some x) (hj : (arrOf st)[j]? = some y) (h : ∀ b : Bool, (b = true ↔ ¬ le y x) -> Q (some b) st) :
  wpS (model prog w) A E s (ltAt' i j) Q st := by
 rw [ltAt'_eq]
 refine wpS_bind (wpS_get (wpS_bind (Zd4 hi (wpS_bind (Zd4 hj ?_)))))
 exact ask x y (hU.at hi) (hU.at hj) E Q st hk h
theorem ZfB (ask : Ask prog w A s κ U le) (o : Ord le) {l : Bool} {k : Keyed} {arr : Array Keyed} {b n hint : Nat} {Q : Option Nat -> SortSt -> Prop} {st : SortSt} (hk : kindOf st = κ) (ku : k ∈ U) (au : In U arr) (hn : b + n <= arr.size) (hh : hint < n) (sg : Sg le arr b (b + n))
  (h : ∀ m, m <= n -> (∀ i x, i < m -> arr[b + i]? = some x -> if l = true then ¬ le k x else le x k) -> (∀ i x, m <= i -> i < n -> arr[b + i]? = some x -> if l = true then le k x else ¬ le x k) -> Q (some m) st) :
  wpS (model prog w) A E s (Zo7 l k arr b n hint) Q st := by
 obtain ⟨p, hp⟩ : ∃ p : Nat -> Prop, ∀ i, p i ↔ ∀ x, arr[b + i]? = some x -> if l = true then ¬ le k x else le x k := ⟨_, fun i => Iff.rfl⟩
 have mono : ∀ i j, i <= j -> j < n -> p j -> p i := fun i j hij hj pj => by
  rw [hp] at pj ⊢
  intro x hx
  obtain ⟨y, hy⟩ := ZfD (xs := arr) (i := b + j) (by omega)
  have py := pj y hy
  have lxy := sg (b + i) (b + j) x y (by omega) (by omega) (by omega) hx hy
  cases l with
  | true => exact fun z => py (o.tr _ _ _ z lxy)
  | false => exact o.tr _ _ _ lxy py
 have bey : ∀ (i : Nat) (Q : Option Bool -> SortSt -> Prop), i < n -> (∀ c : Bool, (c = true ↔ p i) -> Q (some c) st) -> wpS (model prog w) A E s (do
   let x <- elem' arr (b + i)
   if l = true then lt' x k else do
    let r <- lt' k x
    pure (Option.map (fun x => !x) r)) Q st := fun i Q hi hq => by
  obtain ⟨y, hy⟩ := ZfD (xs := arr) (i := b + i) (by omega)
  have e : ∀ P : Keyed -> Prop, (∀ x, arr[b + i]? = some x -> P x) ↔ P y := fun P => ⟨fun z => z y hy, fun z x hx => by rw [hy] at hx; cases hx; exact z⟩
  have pe := hp i
  rw [e] at pe
  refine wpS_bind (Zd4 hy ?_)
  cases l with
  | true =>
   rw [if_pos rfl]
   exact ask y k (au.at hy) ku _ _ _ hk fun c hc => hq c (by rw [hc, pe]; rfl)
  | false =>
   rw [if_neg ZcX]
   refine wpS_bind (ask k y ku (au.at hy) _ _ _ hk fun c hc => wpS_pure (hq (!c) ?_))
   rw [pe]
   show _ ↔ le y k
   cases c with
   | true => exact ⟨fun z => (by cases z), fun z => absurd z (hc.mp rfl)⟩
   | false => exact ⟨fun _ => Classical.byContradiction fun z => (by have := hc.mpr z; cases this), fun _ => rfl⟩
 have fin : ∀ m, m <= n -> (∀ i, i < m -> p i) -> (∀ i, m <= i -> i < n -> ¬ p i) -> Q (some m) st := fun m hm h1 h2 => by
  refine h m hm (fun i x hi hx => (hp i).mp (h1 i hi) x hx) fun i x h3 h4 hx => ?_
  have := h2 i h3 h4
  rw [hp] at this
  cases l with
  | true => exact Classical.byContradiction fun z => this fun x' hx' => by rw [hx] at hx'; cases hx'; exact z
  | false => exact fun z => this fun x' hx' => by rw [hx] at hx'; cases hx'; exact z
 refine wpS_bind (bey hint _ hh fun c hc => ?_)
 dsimp only
 have bs : ∀ (lo hi : Nat) (f : Nat -> Option (Option Nat) × Nat × Nat -> StateT SortSt Sem (ForInStep (Option (Option Nat) × Nat × Nat))), lo <= hi -> hi <= n -> (∀ i, i < lo -> p i) -> (∀ i, hi <= i -> i < n -> ¬ p i) ->
   (∀ (x lo hi : Nat) (R : ForInStep (Option (Option Nat) × Nat × Nat) -> SortSt -> Prop), lo < hi -> hi <= n -> (∀ c : Bool, (c = true ↔ p (lo + (hi - lo) / 2)) -> R (ForInStep.yield (if c = true then (none, lo + (hi - lo) / 2 + 1, hi) else (none, lo, lo + (hi - lo) / 2))) st) -> wpS (model prog w) A E s (f x (none, lo, hi)) R st) ->
   (∀ (x lo hi : Nat) (R : ForInStep (Option (Option Nat) × Nat × Nat) -> SortSt -> Prop), lo ≥ hi -> R (ForInStep.done (none, lo, hi)) st -> wpS (model prog w) A E s (f x (none, lo, hi)) R st) ->
   ∀ R : Option (Option Nat) × Nat × Nat -> SortSt -> Prop, (∀ lo m, m <= n -> (∀ i, i < m -> p i) -> (∀ i, m <= i -> i < n -> ¬ p i) -> R (none, lo, m) st) ->
   wpS (model prog w) A E s (forIn [:n] (none, lo, hi) f) R st := fun lo hi f h1 h2 h3 h4 hf hf0 R hR => by
  refine (wpS_mono (wpS_forRange (I := fun x c st' => st' = st /\ ∃ lo hi, c = (none, lo, hi) /\ lo <= hi /\ hi <= n /\ hi - lo <= n - x /\ (∀ i, i < lo -> p i) /\ (∀ i, hi <= i -> i < n -> ¬ p i))
   (Q := fun c st' => st' = st /\ ∃ m, c.1 = none /\ c.2.2 = m /\ m <= n /\ (∀ i, i < m -> p i) /\ (∀ i, m <= i -> i < n -> ¬ p i)) ?step ?fin ⟨rfl, lo, hi, rfl, h1, h2, by omega, h3, h4⟩) ?post)
  case post =>
   rintro ⟨r, lo', hi'⟩ st' ⟨rfl, m, h5, h6, h7, h8, h9⟩
   cases h5
   cases h6
   exact hR _ _ h7 h8 h9
  case fin =>
   rintro c st' ⟨rfl, lo, hi, rfl, g1, g2, g3, g4, g5⟩
   exact ⟨rfl, hi, rfl, rfl, g2, fun i hi' => g4 i (by omega), g5⟩
  case step =>
   rintro x c st' _ hx ⟨rfl, lo, hi, rfl, g1, g2, g3, g4, g5⟩
   by_cases hlt : lo < hi
   ·refine hf x lo hi _ hlt g2 fun c hc => ?_
    cases c with
    | true => exact ⟨rfl, _, _, rfl, by omega, g2, by omega, fun i hi' => mono i (lo + (hi - lo) / 2) (by omega) (by omega) (hc.mp rfl), g5⟩
    | false => exact ⟨rfl, _, _, rfl, by omega, by omega, by omega, g4, fun i h5 h6 z => by have := hc.mpr (mono (lo + (hi - lo) / 2) i h5 h6 z); cases this⟩
   ·exact hf0 x lo hi _ (by omega) ⟨rfl, hi, rfl, rfl, g2, fun i hi' => g4 i (by omega), g5⟩
 have bsf : ∀ {α : Type} {a b : StateT SortSt Sem α} {P : Prop} [Decidable P] {R : α -> SortSt -> Prop}, (P -> wpS (model prog w) A E s a R st) -> (¬ P -> wpS (model prog w) A E s b R st) -> wpS (model prog w) A E s (if P then a else b) R st := fun {α a b P} _ {R} h1 h2 => by
  split
  ·exact h1 ‹_›
  ·exact h2 ‹_›
 cases c with
 | true =>
  rw [if_pos rfl]
  have ph := hc.mp rfl
  refine wpS_bind (wpS_mono (wpS_forRange (I := fun x c st' => st' = st /\ ∃ la ofs, c = (none, la, ofs) /\ x < ofs /\ la < ofs /\ hint + la < n /\ p (hint + la))
   (Q := fun c st' => st' = st /\ ∃ la ofs, c = (none, la, ofs) /\ la < ofs /\ hint + la < n /\ p (hint + la) /\ (n - hint <= ofs \/ ¬ p (hint + ofs))) ?step ?fin ⟨rfl, 0, 1, rfl, by omega, by omega, by omega, ph⟩) ?post)
  case fin =>
   rintro c st' ⟨rfl, la, ofs, rfl, g1, g2, g3, g4⟩
   exact ⟨rfl, la, ofs, rfl, g2, g3, g4, .inl (by omega)⟩
  case step =>
   rintro x c st' _ hx ⟨rfl, la, ofs, rfl, g1, g2, g3, g4⟩
   dsimp only
   refine bsf (fun z => wpS_pure ⟨rfl, la, ofs, rfl, g2, g3, g4, .inl z⟩) fun z => wpS_bind (bey (hint + ofs) _ (by omega) fun c hc => ?_)
   cases c with
   | true => exact wpS_pure ⟨rfl, _, _, rfl, by omega, by omega, by omega, hc.mp rfl⟩
   | false => exact wpS_pure ⟨rfl, _, _, rfl, g2, g3, g4, .inr fun y => by have := hc.mpr y; cases this⟩
  case post =>
   rintro c st' ⟨rfl, la, ofs, rfl, g2, g3, g4, g5⟩
   dsimp only
   refine wpS_bind (bs (hint + la + 1) (hint + min ofs (n - hint)) _ (by omega) (by omega) (fun i hi => mono i (hint + la) (by omega) g3 g4) (fun i h1 h2 z => ?_) ?_ ?_ _ fun lo m g1 g2 g3 => wpS_pure (fin m g1 g2 g3))
   ·rcases g5 with g5 | g5
    ·omega
    ·exact g5 (mono (hint + ofs) i (by omega) h2 z)
   ·intro x lo hi R h1 h2 hR
    dsimp only
    rw [if_neg (by omega)]
    refine wpS_bind (bey _ _ (by omega) fun c hc => ?_)
    have := hR c hc
    cases c with
    | true => exact wpS_pure this
    | false => exact wpS_pure this
   ·intro x lo hi R h1 hR
    dsimp only
    rw [if_pos h1]
    exact wpS_pure hR
 | false =>
  rw [if_neg ZcX]
  have ph : ¬ p hint := fun z => by have := hc.mpr z; cases this
  refine wpS_bind (wpS_mono (wpS_forRange (I := fun x c st' => st' = st /\ ∃ la ofs, c = (none, la, ofs) /\ x < ofs /\ la < ofs /\ la <= hint /\ ¬ p (hint - la))
   (Q := fun c st' => st' = st /\ ∃ la ofs, c = (none, la, ofs) /\ la < ofs /\ la <= hint /\ ¬ p (hint - la) /\ (hint + 1 <= ofs \/ p (hint - ofs))) ?step ?fin ⟨rfl, 0, 1, rfl, by omega, by omega, by omega, ph⟩) ?post)
  case fin =>
   rintro c st' ⟨rfl, la, ofs, rfl, g1, g2, g3, g4⟩
   exact ⟨rfl, la, ofs, rfl, g2, g3, g4, .inl (by omega)⟩
  case step =>
   rintro x c st' _ hx ⟨rfl, la, ofs, rfl, g1, g2, g3, g4⟩
   dsimp only
   refine bsf (fun z => wpS_pure ⟨rfl, la, ofs, rfl, g2, g3, g4, .inl z⟩) fun z => wpS_bind (bey (hint - ofs) _ (by omega) fun c hc => ?_)
   cases c with
   | true => exact wpS_pure ⟨rfl, _, _, rfl, g2, g3, g4, .inr (hc.mp rfl)⟩
   | false => exact wpS_pure ⟨rfl, _, _, rfl, by omega, by omega, by omega, fun y => by have := hc.mpr y; cases this⟩
  case post =>
   rintro c st' ⟨rfl, la, ofs, rfl, g2, g3, g4, g5⟩
   dsimp only
   refine wpS_bind (bs (hint + 1 - min ofs (hint + 1)) (hint - la) _ (by omega) (by omega) (fun i hi => ?_) (fun i h1 h2 z => g4 (mono (hint - la) i (by omega) h2 z)) ?_ ?_ _ fun lo m g1 g2 g3 => wpS_pure (fin m g1 g2 g3))
   ·rcases g5 with g5 | g5
    ·omega
    ·exact mono i (hint - ofs) (by omega) (by omega) g5
   ·intro x lo hi R h1 h2 hR
    dsimp only
    rw [if_neg (by omega)]
    refine wpS_bind (bey _ _ (by omega) fun c hc => ?_)
    have := hR c hc
    cases c with
    | true => exact wpS_pure this
    | false => exact wpS_pure this
   ·intro x lo hi R h1 hR
    dsimp only
    rw [if_pos h1]
    exact wpS_pure hR
end
section
variable {le : Keyed -> Keyed -> Prop}
noncomputable abbrev Srt (le : Keyed -> Keyed -> Prop) (l : List Keyed) : Prop := l.Pairwise le
theorem Srt.drop {l : List Keyed} (h : Srt le l) (n : Nat) : Srt le (l.drop n) := List.Pairwise.sublist (List.drop_sublist ..) h
theorem Srt.take {l : List Keyed} (h : Srt le l) (n : Nat) : Srt le (l.take n) := List.Pairwise.sublist (List.take_sublist ..) h
theorem Srt.cut {l : List Keyed} (h : Srt le l) (n : Nat) {x y : Keyed} (hx : x ∈ l.take n) (hy : y ∈ l.drop n) : le x y := by
 have := h
 rw [Srt, <- Za5 n l, Za6] at this
 exact this.2.2 x hx y hy
def ML (le : Keyed -> Keyed -> Prop) (a b : List Keyed) (ia ib : Nat) (o : List Keyed) : Prop :=
 o.Perm (a.take ia ++ b.take ib) /\ Srt le o /\ ∀ x ∈ o, ∀ y, (y ∈ a.drop ia \/ y ∈ b.drop ib) -> le x y
theorem ML.nil {a b : List Keyed} : ML le a b 0 0 [] := ⟨by simp, .nil, fun x h => by cases h⟩
section
variable {a b o : List Keyed} {ia ib : Nat}
theorem ML.ga (m : ML le a b ia ib o) (sa : Srt le a) (k : Nat) (h : ∀ x ∈ (a.drop ia).take k, ∀ y ∈ b.drop ib, le x y) : ML le a b (ia + k) ib (o ++ (a.drop ia).take k) := by
 obtain ⟨h1, h2, h3⟩ := m
 refine ⟨?_, ?_, fun x hx y hy => ?_⟩
 ·rw [List.take_add]
  refine (h1.append_right _).trans ?_
  rw [Za7, Za7]
  exact Za8.append_left _
 ·rw [Srt, Za6]
  exact ⟨h2, (sa.drop ia).take k, fun x hx y hy => h3 x hx y (.inl (Za9 hy))⟩
 ·rw [<- List.drop_drop] at hy
  rcases Zah.mp hx with hx | hx
  ·exact h3 x hx y (hy.imp (Zba) id)
  ·rcases hy with hy | hy
   ·exact (sa.drop ia).cut k hx hy
   ·exact h x hx y hy
theorem ML.gb (m : ML le a b ia ib o) (sb : Srt le b) (k : Nat) (h : ∀ x ∈ (b.drop ib).take k, ∀ y ∈ a.drop ia, le x y) : ML le a b ia (ib + k) (o ++ (b.drop ib).take k) := by
 obtain ⟨h1, h2, h3⟩ := m
 refine ⟨?_, ?_, fun x hx y hy => ?_⟩
 ·rw [List.take_add]
  refine (h1.append_right _).trans ?_
  rw [Za7]
 ·rw [Srt, Za6]
  exact ⟨h2, (sb.drop ib).take k, fun x hx y hy => h3 x hx y (.inr (Za9 hy))⟩
 ·rw [<- List.drop_drop] at hy
  rcases Zah.mp hx with hx | hx
  ·exact h3 x hx y (hy.imp id Zba)
  ·rcases hy with hy | hy
   ·exact h x hx y hy
   ·exact (sb.drop ib).cut k hx hy
def Mgd (le : Keyed -> Keyed -> Prop) (a b r : List Keyed) : Prop := r.Perm (a ++ b) /\ Srt le r
theorem ML.endAB (m : ML le a b ia ib o) (sa : Srt le a) (sb : Srt le b) (h : ∀ x ∈ a.drop ia, ∀ y ∈ b.drop ib, le x y) : Mgd le a b (o ++ a.drop ia ++ b.drop ib) := by
 have m1 := m.ga sa (a.drop ia).length (by rw [ZaP]; exact h)
 rw [ZaP] at m1
 have e : a.drop (ia + (a.drop ia).length) = [] := by rw [ZaZ, ZaK]; omega
 have m2 := m1.gb sb (b.drop ib).length (by rw [e]; exact fun x _ y hy => by cases hy)
 rw [ZaP] at m2
 refine ⟨m2.1.trans ?_, m2.2.1⟩
 rw [Zbb (by rw [ZaK]; omega), Zbb (by rw [ZaK]; omega)]
theorem ML.endBA (m : ML le a b ia ib o) (sa : Srt le a) (sb : Srt le b) (h : ∀ x ∈ b.drop ib, ∀ y ∈ a.drop ia, le x y) : Mgd le a b (o ++ b.drop ib ++ a.drop ia) := by
 have m1 := m.gb sb (b.drop ib).length (by rw [ZaP]; exact h)
 rw [ZaP] at m1
 have e : b.drop (ib + (b.drop ib).length) = [] := by rw [ZaZ, ZaK]; omega
 have m2 := m1.ga sa (a.drop ia).length (by rw [e]; exact fun x _ y hy => by cases hy)
 rw [ZaP] at m2
 refine ⟨m2.1.trans ?_, m2.2.1⟩
 rw [Zbb (by rw [ZaK]; omega), Zbb (by rw [ZaK]; omega)]
end
def MH (le : Keyed -> Keyed -> Prop) (a b : List Keyed) (na nb : Nat) (o : List Keyed) : Prop :=
 o.Perm (a.drop na ++ b.drop nb) /\ Srt le o /\ ∀ y ∈ o, ∀ x, (x ∈ a.take na \/ x ∈ b.take nb) -> le x y
section
variable {a b o : List Keyed} {na nb : Nat}
theorem MH.nil : MH le a b a.length b.length [] := ⟨by simp, .nil, fun x h => by cases h⟩
theorem ZkN (l : List Keyed) {m n : Nat} (h : m <= n) : l.drop m = (l.take n).drop m ++ l.drop n := by
 have := Za5 n l
 calc l.drop m = (l.take n ++ l.drop n).drop m := by rw [this]
  _ = (l.take n).drop m ++ (l.drop n).drop (m - (l.take n).length) := List.drop_append ..
  _ = _ := by
   rw [Zax]
   by_cases z : n <= l.length
   ·rw [ZbW z, Nat.sub_eq_zero_of_le h, Zbc]
   ·rw [Zbd (show l.length <= n by omega), List.drop_nil]
theorem MH.ga (m : MH le a b na nb o) (sa : Srt le a) {k : Nat} (hk : k <= na) (h : ∀ y ∈ (a.take na).drop k, ∀ x ∈ b.take nb, le x y) : MH le a b k nb ((a.take na).drop k ++ o) := by
 obtain ⟨h1, h2, h3⟩ := m
 have tk : ∀ x, x ∈ a.take k -> x ∈ (a.take na).take k := fun x hx => by rw [List.take_take, ZbW hk]; exact hx
 refine ⟨?_, ?_, fun y hy x hx => ?_⟩
 ·rw [ZkN a hk, Za7]
  exact h1.append_left _
 ·rw [Srt, Za6]
  exact ⟨(sa.take na).drop k, h2, fun x hx y hy => h3 y hy x (.inl (Zba hx))⟩
 ·rcases Zah.mp hy with hy | hy
  ·rcases hx with hx | hx
   ·exact (sa.take na).cut k (tk x hx) hy
   ·exact h y hy x hx
  ·exact h3 y hy x (hx.imp (fun z => Za9 (tk x z)) id)
theorem MH.gb (m : MH le a b na nb o) (sb : Srt le b) {k : Nat} (hk : k <= nb) (h : ∀ y ∈ (b.take nb).drop k, ∀ x ∈ a.take na, le x y) : MH le a b na k ((b.take nb).drop k ++ o) := by
 obtain ⟨h1, h2, h3⟩ := m
 have tk : ∀ x, x ∈ b.take k -> x ∈ (b.take nb).take k := fun x hx => by rw [List.take_take, ZbW hk]; exact hx
 refine ⟨?_, ?_, fun y hy x hx => ?_⟩
 ·rw [ZkN b hk]
  refine (h1.append_left _).trans ?_
  rw [<- Za7, <- Za7]
  exact Za8.append_right _
 ·rw [Srt, Za6]
  exact ⟨(sb.take nb).drop k, h2, fun x hx y hy => h3 y hy x (.inr (Zba hx))⟩
 ·rcases Zah.mp hy with hy | hy
  ·rcases hx with hx | hx
   ·exact h y hy x hx
   ·exact (sb.take nb).cut k (tk x hx) hy
  ·exact h3 y hy x (hx.imp id (fun z => Za9 (tk x z)))
theorem MH.endAB (m : MH le a b na nb o) (sa : Srt le a) (sb : Srt le b) (h : ∀ x ∈ a.take na, ∀ y ∈ b.take nb, le x y) : Mgd le a b (a.take na ++ b.take nb ++ o) := by
 have m1 := m.gb sb (ZbL _) (by rw [Zbc]; exact fun y hy x hx => h x hx y hy)
 have m2 := m1.ga sa (ZbL _) (by rw [Zbe]; exact fun y _ x hx => by cases hx)
 rw [Zbc, Zbc, <- Za7] at m2
 exact ⟨m2.1, m2.2.1⟩
theorem MH.endBA (m : MH le a b na nb o) (sa : Srt le a) (sb : Srt le b) (h : ∀ x ∈ b.take nb, ∀ y ∈ a.take na, le x y) : Mgd le a b (b.take nb ++ a.take na ++ o) := by
 have m1 := m.ga sa (ZbL _) (by rw [Zbc]; exact fun y hy x hx => h x hx y hy)
 have m2 := m1.gb sb (ZbL _) (by rw [Zbe]; exact fun y _ x hx => by cases hx)
 rw [Zbc, Zbc, <- Za7] at m2
 exact ⟨m2.1, m2.2.1⟩
end
end
noncomputable def ZnE : Array Keyed -> Array Keyed -> StateT SortSt Sem (Array Keyed) := sortPriv% PySem.Builtin.mergeLo
noncomputable def Zqm : Nat -> StateT SortSt Sem Unit := sortPriv% PySem.Builtin.setMinGallop
noncomputable abbrev ZqT (st : SortSt) (g : Nat) : SortSt := SortSt.mk' (kindOf st) (arrOf st) (pendingOf st) g (failedOf st)
def G (st st' : SortSt) : Prop := ∃ g, st' = ZqT st g
theorem G.refl (st : SortSt) : G st st := ⟨gallopOf st, rfl⟩
theorem G.set {st st' : SortSt} (h : G st st') (g : Nat) : G st (ZqT st' g) := by
 obtain ⟨g', rfl⟩ := h
 exact ⟨g, rfl⟩
theorem G.kind {st st' : SortSt} (h : G st st') : kindOf st' = kindOf st := by
 obtain ⟨g', rfl⟩ := h
 rfl
section
variable {le : Keyed -> Keyed -> Prop}
theorem Zms {l : List Keyed} {i k : Nat} {x : Keyed} (h : x ∈ (l.drop i).take k) : ∃ j, j < k /\ l[i + j]? = some x := by
 obtain ⟨j, hj⟩ := Zbf.mp h
 rw [Zbg] at hj
 by_cases z : j < k
 ·rw [if_pos z, Zbh] at hj
  exact ⟨j, z, hj⟩
 ·rw [if_neg z] at hj
  cases hj
theorem Srt.head (o : Ord le) {l : List Keyed} (s : Srt le l) {i : Nat} {x y : Keyed} (h : l[i]? = some x) (hy : y ∈ l.drop i) : le x y := by
 obtain ⟨h1, h2⟩ := Zaj.mp h
 rw [Zbi h1, h2] at hy
 rcases Zag.mp hy with rfl | hy
 ·exact o.refl _
 ·refine s.cut (i + 1) ?_ hy
  rw [Zbj, h]
  simp
theorem Srt.last (o : Ord le) {l : List Keyed} (s : Srt le l) {i : Nat} {x y : Keyed} (h : l[i]? = some y) (hx : x ∈ l.take (i + 1)) : le x y := by
 rw [Zbj, h] at hx
 rcases Zah.mp hx with hx | hx
 ·refine s.cut i hx ?_
  obtain ⟨h1, h2⟩ := Zaj.mp h
  rw [Zbi h1, h2]
  exact Zae
 ·have : x = y := by simpa using hx
  rw [this]
  exact o.refl _
theorem Srt.sg (o : Ord le) {a : Array Keyed} (s : Srt le a.toList) (lo hi : Nat) : Sg le a lo hi := fun i j x y _ hij _ hx hy => by
 rw [<- Zc6] at hx hy
 refine s.head o hx ?_
 refine Zbf.mpr ⟨j - i, ?_⟩
 rw [Zbh, show i + (j - i) = j by omega]
 exact hy
theorem ZkO (a : Array Keyed) (i k : Nat) : (a.extract i (i + k)).toList = (a.toList.drop i).take k := by
 rw [Zc7, Zbk, show i + k - i = k by omega]
theorem Zhp (a : Array Keyed) (i : Nat) : (a.extract i a.size).toList = a.toList.drop i := by
 rw [Zc7, Zbk]
 exact Zbb (by rw [ZaK, Zc2]; exact ZbK _)
section
variable {a b out : Array Keyed} {ia ib : Nat} {x : Keyed}
theorem Zmt {l : List Keyed} {i : Nat} {x : Keyed} (h : l[i]? = some x) : (l.drop i).take 1 = [x] := by
 obtain ⟨h1, h2⟩ := Zaj.mp h
 rw [Zbi h1, h2]
 rfl
theorem LoA (m : ML le a.toList b.toList ia ib out.toList) (sa : Srt le a.toList) (k : Nat) (h : ∀ x ∈ (a.toList.drop ia).take k, ∀ y ∈ b.toList.drop ib, le x y) : ML le a.toList b.toList (ia + k) ib (out ++ a.extract ia (ia + k)).toList := by
 rw [Zc8, ZkO]
 exact m.ga sa k h
theorem LoB (m : ML le a.toList b.toList ia ib out.toList) (sb : Srt le b.toList) (k : Nat) (h : ∀ x ∈ (b.toList.drop ib).take k, ∀ y ∈ a.toList.drop ia, le x y) : ML le a.toList b.toList ia (ib + k) (out ++ b.extract ib (ib + k)).toList := by
 rw [Zc8, ZkO]
 exact m.gb sb k h
theorem Zrl (m : ML le a.toList b.toList ia ib out.toList) (sa : Srt le a.toList) (hx : a[ia]? = some x) (h : ∀ y ∈ b.toList.drop ib, le x y) : ML le a.toList b.toList (ia + 1) ib (out.push x).toList := by
 rw [<- Zc6] at hx
 have := m.ga sa 1 (by rw [Zmt hx]; intro z hz; rw [ZaS.mp hz]; exact h)
 rw [Zmt hx] at this
 rw [Zc9]
 exact this
theorem Zrm (m : ML le a.toList b.toList ia ib out.toList) (sb : Srt le b.toList) (hx : b[ib]? = some x) (h : ∀ y ∈ a.toList.drop ia, le x y) : ML le a.toList b.toList ia (ib + 1) (out.push x).toList := by
 rw [<- Zc6] at hx
 have := m.gb sb 1 (by rw [Zmt hx]; intro z hz; rw [ZaS.mp hz]; exact h)
 rw [Zmt hx] at this
 rw [Zc9]
 exact this
theorem Zmu (m : ML le a.toList b.toList ia ib out.toList) (sa : Srt le a.toList) (sb : Srt le b.toList) (h : ia = a.size \/ ib = b.size) : Mgd le a.toList b.toList (out ++ a.extract ia a.size ++ b.extract ib b.size).toList := by
 rw [Zc8, Zc8, Zhp, Zhp]
 refine m.endAB sa sb fun x hx y hy => ?_
 rcases h with h | h
 ·rw [Zbd (by rw [h, Zc2]; exact ZbK _)] at hx; cases hx
 ·rw [Zbd (by rw [h, Zc2]; exact ZbK _)] at hy; cases hy
theorem ZkP (m : ML le a.toList b.toList ia ib out.toList) (sa : Srt le a.toList) (sb : Srt le b.toList) (hl : ∀ x y, x ∈ b.toList -> a[a.size - 1]? = some y -> le x y) (h : ia + 1 = a.size) : Mgd le a.toList b.toList (out ++ b.extract ib b.size ++ a.extract ia a.size).toList := by
 rw [Zc8, Zc8, Zhp, Zhp]
 refine m.endBA sa sb fun x hx y hy => hl x y (Zba hx) ?_
 obtain ⟨z, hz⟩ := ZfD (xs := a) (i := ia) (by omega)
 rw [<- Zc6] at hz
 obtain ⟨h1, h2⟩ := Zaj.mp hz
 rw [Zbi h1, h2, Zbd (by rw [Zc2]; omega)] at hy
 rw [ZaS.mp hy, show a.size - 1 = ia by omega, <- Zc6]
 exact hz
end
end
section
variable {prog : Program} {w : World} {A : Around} {E : Value -> Shared -> Prop} {s : Shared} {le : Keyed -> Keyed -> Prop} {κ : SortKind} {U : List Keyed}
theorem ifS {M : Model} {σ α : Type} {p q : StateT σ Sem α} {P : Prop} [Decidable P] {R : α -> σ -> Prop} {st : σ} (h1 : P -> wpS M A E s p R st) (h2 : ¬ P -> wpS M A E s q R st) : wpS M A E s (if P then p else q) R st := by
 split
 ·exact h1 ‹_›
 ·exact h2 ‹_›
theorem ZgQ {g : Nat} {Q : Unit -> SortSt -> Prop} {st : SortSt} (h : Q () (ZqT st g)) : wpS (model prog w) A E s (Zqm g) Q st := wpS_modify (f := fun st => ZqT st g) h
theorem Zkf (ask : Ask prog w A s κ U le) (o : Ord le) {a b : Array Keyed} (au : In U a) (bu : In U b) (sa : Srt le a.toList) (sb : Srt le b.toList) (ha : 1 <= a.size) (hb : 1 <= b.size) (h0 : ∀ x y, b[0]? = some x -> a[0]? = some y -> le x y) (hl : ∀ x y, x ∈ b.toList -> a[a.size - 1]? = some y -> le x y)
  {Q : Array Keyed -> SortSt -> Prop} {st : SortSt} (hk : kindOf st = κ) (h : ∀ r st', Mgd le a.toList b.toList r.toList -> G st st' -> Q r st') : wpS (model prog w) A E s (ZnE a b) Q st := by
 obtain ⟨b0, hb0⟩ := ZfD (xs := b) (i := 0) (by omega)
 obtain ⟨a0, ha0⟩ := ZfD (xs := a) (i := 0) (by omega)
 have m1 : ML le a.toList b.toList 0 1 (#[].push b0).toList := Zrm (out := #[]) ML.nil sb hb0 fun y hy => o.tr _ _ _ (h0 _ _ hb0 ha0) (sa.head o (by rw [Zc6]; exact ha0) hy)
 refine wpS_bind (wpS_lift (wpAny_rule ⟨rfl, ?_⟩))
 refine wpS_bind (Zd4 hb0 ?_)
 refine ifS (fun z => wpS_pure (h _ _ (Zmu m1 sa sb (.inr (by simpa using z))) (G.refl _))) fun z1 => ?_
 refine ifS (fun z => wpS_pure (h _ _ (ZkP m1 sa sb hl (by simpa using z)) (G.refl _))) fun z2 => ?_
 have z1 : 1 ≠ b.size := by simpa using z1
 have z2 : 0 + 1 ≠ a.size := by simpa using z2
 refine wpS_bind (wpS_get ?_)
 refine wpS_bind (wpS_mono (wpS_forRange
  (I := fun x c st' => G st st' /\ ∃ out ia ib mg, c = (none, out, ia, ib, mg) /\ ML le a.toList b.toList ia ib out.toList /\ ia + 1 < a.size /\ ib < b.size /\ x + 1 <= ia + ib)
  (Q := fun c st' => G st st' /\ ∃ r, c.1 = some r /\ Mgd le a.toList b.toList r.toList) ?step ?fin ⟨G.refl _, _, 0, 1, _, rfl, m1, by omega, by omega, by omega⟩) ?post)
 case fin =>
  rintro c st' ⟨g, out, ia, ib, mg, rfl, m, g1, g2, g3⟩
  omega
 case post =>
  rintro c st' ⟨g, r, hr, hm⟩
  dsimp only
  rw [hr]
  exact wpS_pure (h r st' hm g)
 case step =>
  rintro x c st' _ hx ⟨g, out, ia, ib, mg, rfl, m, g1, g2, g3⟩
  refine wpS_bind (wpS_mono (wpS_forRange
   (I := fun t c st' => G st st' /\ ∃ out ia ib ac bc, c = (none, out, ia, ib, ac, bc) /\ ML le a.toList b.toList ia ib out.toList /\ ia + 1 < a.size /\ ib < b.size /\ x + 1 + t <= ia + ib)
   (Q := fun c st' => G st st' /\ ((∃ r, c.1 = some r /\ Mgd le a.toList b.toList r.toList) \/ ∃ out ia ib ac bc, c = (none, out, ia, ib, ac, bc) /\ ML le a.toList b.toList ia ib out.toList /\ ia + 1 < a.size /\ ib < b.size /\ x + 2 <= ia + ib)) ?step1 ?fin1 ⟨g, out, ia, ib, _, _, rfl, m, g1, g2, by omega⟩) ?post1)
  case fin1 =>
   rintro c st' ⟨g, out, ia, ib, ac, bc, rfl, m, g1, g2, g3⟩
   exact ⟨g, .inr ⟨out, ia, ib, ac, bc, rfl, m, g1, g2, by omega⟩⟩
  case step1 =>
   clear g1 g2 g3 m g
   rintro t c st' _ ht ⟨g, out, ia, ib, ac, bc, rfl, m, g1, g2, g3⟩
   obtain ⟨xb, hxb⟩ := ZfD (xs := b) (i := ib) g2
   obtain ⟨xa, hxa⟩ := ZfD (xs := a) (i := ia) (by omega)
   have hxa' := hxa
   have hxb' := hxb
   rw [<- Zc6] at hxa' hxb'
   dsimp only
   refine wpS_bind (Zd4 hxb (wpS_bind (Zd4 hxa (wpS_bind (ask xb xa (bu.at hxb) (au.at hxa) _ _ _ (g.kind.trans hk) fun c hc => ?_)))))
   cases c with
   | true =>
    have m' := Zrm m sb hxb fun y hy => o.tr _ _ _ (o.of_not (hc.mp rfl)) (sa.head o hxa' hy)
    refine wpS_bind (Zd4 hxb ?_)
    refine ifS (fun z => wpS_pure ⟨g, .inl ⟨_, rfl, Zmu m' sa sb (.inr (by simpa using z))⟩⟩) fun z => ?_
    have z : ib + 1 ≠ b.size := by simpa using z
    exact ifS (fun _ => wpS_pure ⟨g, .inr ⟨_, _, _, _, _, rfl, m', g1, by omega, by omega⟩⟩) fun _ => wpS_pure ⟨g, _, _, _, _, _, rfl, m', g1, by omega, by omega⟩
   | false =>
    have lab : le xa xb := Classical.byContradiction fun z => by have := hc.mpr z; cases this
    have m' := Zrl m sa hxa fun y hy => o.tr _ _ _ lab (sb.head o hxb' hy)
    refine wpS_bind (Zd4 hxa ?_)
    refine ifS (fun z => wpS_pure ⟨g, .inl ⟨_, rfl, ZkP m' sa sb hl (by simpa using z)⟩⟩) fun z => ?_
    have z : ia + 1 + 1 ≠ a.size := by simpa using z
    exact ifS (fun _ => wpS_pure ⟨g, .inr ⟨_, _, _, _, _, rfl, m', by omega, g2, by omega⟩⟩) fun _ => wpS_pure ⟨g, _, _, _, _, _, rfl, m', by omega, g2, by omega⟩
  case post1 =>
   clear g1 g2 g3 m g
   rintro ⟨r, c⟩ st' ⟨g, ⟨r', hr, hm⟩ | ⟨out, ia, ib, ac, bc, e, m, g1, g2, g3⟩⟩
   ·cases hr
    exact wpS_pure ⟨g, r', rfl, hm⟩
   ·cases e
    dsimp only
    refine wpS_bind (wpS_lift (wpAny_rule ⟨rfl, ?_⟩))
    refine wpS_bind (wpS_mono (wpS_forRange
     (I := fun t c st' => G st st' /\ ∃ out ia ib mg ac bc, c = (none, out, ia, ib, mg, ac, bc) /\ ML le a.toList b.toList ia ib out.toList /\ ia + 1 < a.size /\ ib < b.size /\ x + 2 <= ia + ib)
     (Q := fun c st' => G st st' /\ ((∃ r, c.1 = some r /\ Mgd le a.toList b.toList r.toList) \/ ∃ out ia ib mg ac bc, c = (none, out, ia, ib, mg, ac, bc) /\ ML le a.toList b.toList ia ib out.toList /\ ia + 1 < a.size /\ ib < b.size /\ x + 2 <= ia + ib)) ?step2 ?fin2 ⟨g, out, ia, ib, _, _, _, rfl, m, g1, g2, g3⟩) ?post2)
    case fin2 =>
     rintro c st' ⟨g, out, ia, ib, mg, ac, bc, rfl, m, g1, g2, g3⟩
     exact ⟨g, .inr ⟨out, ia, ib, mg, ac, bc, rfl, m, g1, g2, g3⟩⟩
    case post2 =>
     rintro ⟨r, c⟩ st' ⟨g, ⟨r', hr, hm⟩ | ⟨out, ia, ib, mg, ac, bc, e, m, g1, g2, g3⟩⟩
     ·cases hr
      exact wpS_pure ⟨g, r', rfl, hm⟩
     ·cases e
      dsimp only
      exact wpS_bind (ZgQ (wpS_pure ⟨g.set _, out, ia, ib, _, rfl, m, g1, g2, by omega⟩))
    case step2 =>
     clear g1 g2 g3 m g
     rintro t c st' _ ht ⟨g, out, ia, ib, mg, ac, bc, rfl, m, g1, g2, g3⟩
     obtain ⟨xb, hxb⟩ := ZfD (xs := b) (i := ib) g2
     have hxb' := hxb
     rw [<- Zc6] at hxb'
     dsimp only
     refine ifS (fun _ => ?_) fun _ => ?_
     all_goals
      refine wpS_bind (ZgQ (wpS_bind (Zd4 hxb (wpS_bind (ZfB ask o ((g.set _).kind.trans hk) (bu.at hxb) au (by omega) (by omega) (sa.sg o _ _) fun k hk1 hk2 hk3 => ?_)))))
      have mk := LoA m sa k fun x hx y hy => by
       obtain ⟨j, hj, hxj⟩ := Zms hx
       rw [Zc6] at hxj
       exact o.tr _ _ _ (by have := hk2 j x hj hxj; simpa using this) (sb.head o hxb' hy)
      dsimp only
      have mk' : ∀ xa, a[ia + k]? = some xa -> le xb xa := fun xa hxa => o.of_not (by have := hk3 k xa (ZbK _) (by have := (Zc4.mp hxa).1; omega) hxa; simpa using this)
      refine ifS (fun hk0 => ifS (fun z => wpS_pure ⟨g.set _, .inl ⟨_, rfl, ZkP mk sa sb hl (by simpa using z)⟩⟩) fun z => ifS (fun z => wpS_pure ⟨g.set _, .inl ⟨_, rfl, Zmu mk sa sb (.inl (by simpa using z))⟩⟩) fun z' => ?_) fun hk0 => ?_
      have hia : ia + k + 1 < a.size := by
       have z : ia + k + 1 ≠ a.size := by simpa using z
       have z' : ia + k ≠ a.size := by simpa using z'
       omega
      obtain ⟨ia', out', ei, eo⟩ : ∃ ia' out', ia' = ia + k /\ out' = out ++ a.extract ia (ia + k) := ⟨_, _, rfl, rfl⟩
      rw [<- eo, <- ei] at mk ⊢
      rw [<- ei] at mk' hia
      rotate_left
      have k0 : k = 0 := by omega
      subst k0
      have hia : ia + 1 < a.size := g1
      obtain ⟨ia', out', ei, eo⟩ : ∃ ia' out', ia' = ia /\ out' = out := ⟨_, _, rfl, rfl⟩
      rw [<- ei, <- eo] at ⊢
      have mk : ML le a.toList b.toList ia' ib out'.toList := by rw [ei, eo]; exact m
      have mk' : ∀ xa, a[ia']? = some xa -> le xb xa := by rw [ei]; exact mk'
      have hia : ia' + 1 < a.size := by rw [ei]; exact g1
      all_goals
       obtain ⟨xa, hxa⟩ := ZfD (xs := a) (i := ia') (by omega)
       have hxa' := hxa
       rw [<- Zc6] at hxa'
       have ml := Zrm mk sb hxb fun y hy => o.tr _ _ _ (mk' xa hxa) (sa.head o hxa' hy)
       refine wpS_bind (Zd4 hxb (ifS (fun z => wpS_pure ⟨g.set _, .inl ⟨_, rfl, Zmu ml sa sb (.inr (by simpa using z))⟩⟩) fun z => ?_))
       have hib : ib + 1 < b.size := by
        have z : ib + 1 ≠ b.size := by simpa using z
        omega
       refine wpS_bind (Zd4 hxa (wpS_bind (ZfB ask o ((g.set _).kind.trans hk) (au.at hxa) bu (by omega) (by omega) (sb.sg o _ _) fun k2 hk4 hk5 hk6 => ?_)))
       have mn := LoB ml sb k2 fun x hx y hy => by
        obtain ⟨j, hj, hxj⟩ := Zms hx
        rw [Zc6] at hxj
        exact o.tr _ _ _ (o.of_not (by have := hk5 j x hj hxj; simpa using this)) (sa.head o hxa' hy)
       have mn' : ∀ y ∈ b.toList.drop (ib + 1 + k2), le xa y := fun y hy => by
        obtain ⟨j, hj⟩ := Zbf.mp hy
        rw [Zbh, Zc6, ZbX] at hj
        have := hk6 (k2 + j) y (by omega) (by have := (Zc4.mp hj).1; omega) hj
        simpa using this
       dsimp only
       refine ifS (fun hk0 => ifS (fun z => wpS_pure ⟨g.set _, .inl ⟨_, rfl, Zmu mn sa sb (.inr (by simpa using z))⟩⟩) fun z => ?_) fun hk0 => ?_
       have hib2 : ib + 1 + k2 < b.size := by
        have z : ib + 1 + k2 ≠ b.size := by simpa using z
        omega
       have mo := Zrl mn sa hxa mn'
       rotate_left
       have k0 : k2 = 0 := by omega
       subst k0
       have hib2 := hib
       have mo := Zrl ml sa hxa mn'
       all_goals
        refine wpS_bind (Zd4 hxa (ifS (fun z => wpS_pure ⟨g.set _, .inl ⟨_, rfl, ZkP mo sa sb hl (by simpa using z)⟩⟩) fun z => ?_))
        have z : ia' + 1 + 1 ≠ a.size := by simpa using z
        exact ifS (fun _ => wpS_pure ⟨g.set _, .inr ⟨_, _, _, _, _, _, rfl, mo, by omega, by omega, by omega⟩⟩) fun _ => wpS_pure ⟨g.set _, _, _, _, _, _, _, rfl, mo, by omega, by omega, by omega⟩
end
noncomputable def ZnF : Array Keyed -> Array Keyed -> StateT SortSt Sem (Array Keyed) := sortPriv% PySem.Builtin.mergeHi
section
variable {le : Keyed -> Keyed -> Prop}
theorem ZiD {l : List Keyed} {k n : Nat} {x : Keyed} (h : x ∈ (l.take n).drop k) : ∃ j, k <= j /\ j < n /\ l[j]? = some x := by
 obtain ⟨j, hj⟩ := Zbf.mp h
 rw [Zbh, Zbg] at hj
 by_cases z : k + j < n
 ·rw [if_pos z] at hj
  exact ⟨k + j, by omega, z, hj⟩
 ·rw [if_neg z] at hj
  cases hj
theorem Zmv {l : List Keyed} {n : Nat} {x : Keyed} (h : x ∈ l.take n) : ∃ j, j < n /\ l[j]? = some x := by
 obtain ⟨j, _, h2, h3⟩ := ZiD (k := 0) (by rw [Zbc]; exact h)
 exact ⟨j, h2, h3⟩
theorem ZhC (a : Array Keyed) (i n : Nat) : (a.extract i n).toList = (a.toList.take n).drop i := by
 rw [Zc7, Zbk, List.drop_take]
theorem ZkQ (a : Array Keyed) (n : Nat) : (a.extract 0 n).toList = a.toList.take n := by rw [ZhC, Zbc]
section
variable {a b out : Array Keyed} {na nb : Nat} {x : Keyed}
theorem ZqU {l : List Keyed} {n : Nat} {x : Keyed} (h1 : 1 <= n) (h : l[n - 1]? = some x) : (l.take n).drop (n - 1) = [x] := by
 rw [List.drop_take, show n - (n - 1) = 1 by omega]
 exact Zmt h
theorem HiA (m : MH le a.toList b.toList na nb out.toList.reverse) (sa : Srt le a.toList) {k : Nat} (hk : k <= na) (h : ∀ y ∈ (a.toList.take na).drop k, ∀ x ∈ b.toList.take nb, le x y) : MH le a.toList b.toList k nb (out ++ (a.extract k na).reverse).toList.reverse := by
 rw [Zc8, Zbl, Zda, Zbm, ZhC]
 exact m.ga sa hk h
theorem HiB (m : MH le a.toList b.toList na nb out.toList.reverse) (sb : Srt le b.toList) {k : Nat} (hk : k <= nb) (h : ∀ y ∈ (b.toList.take nb).drop k, ∀ x ∈ a.toList.take na, le x y) : MH le a.toList b.toList na k (out ++ (b.extract k nb).reverse).toList.reverse := by
 rw [Zc8, Zbl, Zda, Zbm, ZhC]
 exact m.gb sb hk h
theorem ZqV (m : MH le a.toList b.toList na nb out.toList.reverse) (sa : Srt le a.toList) (h1 : 1 <= na) (hx : a[na - 1]? = some x) (h : ∀ y ∈ b.toList.take nb, le y x) : MH le a.toList b.toList (na - 1) nb (out.push x).toList.reverse := by
 rw [<- Zc6] at hx
 have := m.ga sa (k := na - 1) (by omega) (by rw [ZqU h1 hx]; intro z hz; rw [ZaS.mp hz]; exact h)
 rw [ZqU h1 hx] at this
 rw [Zc9, Zbl]
 exact this
theorem Zr2 (m : MH le a.toList b.toList na nb out.toList.reverse) (sb : Srt le b.toList) (h1 : 1 <= nb) (hx : b[nb - 1]? = some x) (h : ∀ y ∈ a.toList.take na, le y x) : MH le a.toList b.toList na (nb - 1) (out.push x).toList.reverse := by
 rw [<- Zc6] at hx
 have := m.gb sb (k := nb - 1) (by omega) (by rw [ZqU h1 hx]; intro z hz; rw [ZaS.mp hz]; exact h)
 rw [ZqU h1 hx] at this
 rw [Zc9, Zbl]
 exact this
theorem Zmw (m : MH le a.toList b.toList na nb out.toList.reverse) (sa : Srt le a.toList) (sb : Srt le b.toList) (h : na = 0 \/ nb = 0) : Mgd le a.toList b.toList (a.extract 0 na ++ b.extract 0 nb ++ out.reverse).toList := by
 rw [Zc8, Zc8, ZkQ, ZkQ, Zda]
 refine m.endAB sa sb fun x hx y hy => ?_
 rcases h with h | h
 ·rw [h, Zbe] at hx; cases hx
 ·rw [h, Zbe] at hy; cases hy
theorem ZnG (m : MH le a.toList b.toList na nb out.toList.reverse) (sa : Srt le a.toList) (sb : Srt le b.toList) (h0 : ∀ x y, b[0]? = some x -> y ∈ a.toList -> le x y) (h : nb = 1) : Mgd le a.toList b.toList (b.extract 0 nb ++ a.extract 0 na ++ out.reverse).toList := by
 rw [Zc8, Zc8, ZkQ, ZkQ, Zda]
 refine m.endBA sa sb fun x hx y hy => ?_
 obtain ⟨j, hj, hx⟩ := Zmv hx
 have : j = 0 := by omega
 subst this
 rw [Zc6] at hx
 exact h0 x y hx (Za9 hy)
end
end
section
variable {prog : Program} {w : World} {A : Around} {E : Value -> Shared -> Prop} {s : Shared} {le : Keyed -> Keyed -> Prop} {κ : SortKind} {U : List Keyed}
theorem Zkg (ask : Ask prog w A s κ U le) (o : Ord le) {a b : Array Keyed} (au : In U a) (bu : In U b) (sa : Srt le a.toList) (sb : Srt le b.toList) (ha : 1 <= a.size) (hb : 1 <= b.size) (h0 : ∀ x y, b[0]? = some x -> a[0]? = some y -> le x y) (hl : ∀ x y, x ∈ b.toList -> a[a.size - 1]? = some y -> le x y)
  {Q : Array Keyed -> SortSt -> Prop} {st : SortSt} (hk : kindOf st = κ) (h : ∀ r st', Mgd le a.toList b.toList r.toList -> G st st' -> Q r st') : wpS (model prog w) A E s (ZnF a b) Q st := by
 obtain ⟨a0, ha0⟩ := ZfD (xs := a) (i := 0) (by omega)
 obtain ⟨al, hal⟩ := ZfD (xs := a) (i := a.size - 1) (by omega)
 have h0' : ∀ x y, b[0]? = some x -> y ∈ a.toList -> le x y := fun x y hx hy => o.tr _ _ _ (h0 x a0 hx ha0) (sa.head o (i := 0) (by rw [Zc6]; exact ha0) hy)
 have mn : MH le a.toList b.toList a.size b.size (#[] : Array Keyed).toList.reverse := by
  have := MH.nil (le := le) (a := a.toList) (b := b.toList)
  rw [Zc2, Zc2] at this
  exact this
 have m1 : MH le a.toList b.toList (a.size - 1) b.size (#[].push al).toList.reverse := ZqV (out := #[]) mn sa ha hal fun y hy => hl y al (Za9 hy) hal
 refine wpS_bind (wpS_lift (wpAny_rule ⟨rfl, ?_⟩))
 refine wpS_bind (Zd4 hal ?_)
 refine ifS (fun z => wpS_pure (h _ _ (Zmw m1 sa sb (.inl (by simpa using z))) (G.refl _))) fun z1 => ?_
 refine ifS (fun z => wpS_pure (h _ _ (ZnG m1 sa sb h0' (by simpa using z)) (G.refl _))) fun z2 => ?_
 have z1 : a.size - 1 ≠ 0 := by simpa using z1
 have z2 : b.size ≠ 1 := by simpa using z2
 refine wpS_bind (wpS_get ?_)
 refine wpS_bind (wpS_mono (wpS_forRange
  (I := fun x c st' => G st st' /\ ∃ na nb out mg, c = (none, na, nb, out, mg) /\ MH le a.toList b.toList na nb out.toList.reverse /\ 1 <= na /\ na <= a.size /\ 2 <= nb /\ nb <= b.size /\ na + nb + x + 1 <= a.size + b.size)
  (Q := fun c st' => G st st' /\ ∃ r, c.1 = some r /\ Mgd le a.toList b.toList r.toList) ?step ?fin ⟨G.refl _, _, _, _, _, rfl, m1, by omega, by omega, by omega, by omega, by omega⟩) ?post)
 case fin =>
  rintro c st' ⟨g, na, nb, out, mg, rfl, m, g1, g1', g2, g2', g3⟩
  omega
 case post =>
  rintro c st' ⟨g, r, hr, hm⟩
  dsimp only
  rw [hr]
  exact wpS_pure (h r st' hm g)
 case step =>
  clear z1 z2 m1 mn
  rintro x c st' _ hx ⟨g, na, nb, out, mg, rfl, m, g1, g1', g2, g2', g3⟩
  refine wpS_bind (wpS_mono (wpS_forRange
   (I := fun t c st' => G st st' /\ ∃ na nb out ac bc, c = (none, na, nb, out, ac, bc) /\ MH le a.toList b.toList na nb out.toList.reverse /\ 1 <= na /\ na <= a.size /\ 2 <= nb /\ nb <= b.size /\ na + nb + x + 1 + t <= a.size + b.size)
   (Q := fun c st' => G st st' /\ ((∃ r, c.1 = some r /\ Mgd le a.toList b.toList r.toList) \/ ∃ na nb out ac bc, c = (none, na, nb, out, ac, bc) /\ MH le a.toList b.toList na nb out.toList.reverse /\ 1 <= na /\ na <= a.size /\ 2 <= nb /\ nb <= b.size /\ na + nb + x + 2 <= a.size + b.size)) ?step1 ?fin1 ⟨g, na, nb, out, _, _, rfl, m, g1, g1', g2, g2', by omega⟩) ?post1)
  case fin1 =>
   rintro c st' ⟨g, na, nb, out, ac, bc, rfl, m, g1, g1', g2, g2', g3⟩
   exact ⟨g, .inr ⟨na, nb, out, ac, bc, rfl, m, g1, g1', g2, g2', by omega⟩⟩
  case step1 =>
   clear g1 g1' g2 g2' g3 m g
   rintro t c st' _ ht ⟨g, na, nb, out, ac, bc, rfl, m, g1, g1', g2, g2', g3⟩
   obtain ⟨xb, hxb⟩ := ZfD (xs := b) (i := nb - 1) (by omega)
   obtain ⟨xa, hxa⟩ := ZfD (xs := a) (i := na - 1) (by omega)
   have hxa' := hxa
   have hxb' := hxb
   rw [<- Zc6] at hxa' hxb'
   have la : ∀ y ∈ a.toList.take na, le y xa := fun y hy => sa.last o hxa' (by rw [show na - 1 + 1 = na by omega]; exact hy)
   have lb : ∀ y ∈ b.toList.take nb, le y xb := fun y hy => sb.last o hxb' (by rw [show nb - 1 + 1 = nb by omega]; exact hy)
   dsimp only
   refine wpS_bind (Zd4 hxb (wpS_bind (Zd4 hxa (wpS_bind (ask xb xa (bu.at hxb) (au.at hxa) _ _ _ (g.kind.trans hk) fun c hc => ?_)))))
   cases c with
   | true =>
    have m' := ZqV m sa g1 hxa fun y hy => o.tr _ _ _ (lb y hy) (o.of_not (hc.mp rfl))
    refine wpS_bind (Zd4 hxa ?_)
    refine ifS (fun z => wpS_pure ⟨g, .inl ⟨_, rfl, Zmw m' sa sb (.inl (by simpa using z))⟩⟩) fun z => ?_
    have z : na - 1 ≠ 0 := by simpa using z
    exact ifS (fun _ => wpS_pure ⟨g, .inr ⟨_, _, _, _, _, rfl, m', by omega, by omega, g2, g2', by omega⟩⟩) fun _ => wpS_pure ⟨g, _, _, _, _, _, rfl, m', by omega, by omega, g2, g2', by omega⟩
   | false =>
    have lab : le xa xb := Classical.byContradiction fun z => by have := hc.mpr z; cases this
    have m' := Zr2 m sb (by omega) hxb fun y hy => o.tr _ _ _ (la y hy) lab
    refine wpS_bind (Zd4 hxb ?_)
    refine ifS (fun z => wpS_pure ⟨g, .inl ⟨_, rfl, ZnG m' sa sb h0' (by simpa using z)⟩⟩) fun z => ?_
    have z : nb - 1 ≠ 1 := by simpa using z
    exact ifS (fun _ => wpS_pure ⟨g, .inr ⟨_, _, _, _, _, rfl, m', g1, g1', by omega, by omega, by omega⟩⟩) fun _ => wpS_pure ⟨g, _, _, _, _, _, rfl, m', g1, g1', by omega, by omega, by omega⟩
  case post1 =>
   clear g1 g1' g2 g2' g3 m g
   rintro ⟨r, c⟩ st' ⟨g, ⟨r', hr, hm⟩ | ⟨na, nb, out, ac, bc, e, m, g1, g1', g2, g2', g3⟩⟩
   ·cases hr
    exact wpS_pure ⟨g, r', rfl, hm⟩
   ·cases e
    dsimp only
    refine wpS_bind (wpS_lift (wpAny_rule ⟨rfl, ?_⟩))
    refine wpS_bind (wpS_mono (wpS_forRange
     (I := fun t c st' => G st st' /\ ∃ na nb out mg ac bc, c = (none, na, nb, out, mg, ac, bc) /\ MH le a.toList b.toList na nb out.toList.reverse /\ 1 <= na /\ na <= a.size /\ 2 <= nb /\ nb <= b.size /\ na + nb + x + 2 <= a.size + b.size)
     (Q := fun c st' => G st st' /\ ((∃ r, c.1 = some r /\ Mgd le a.toList b.toList r.toList) \/ ∃ na nb out mg ac bc, c = (none, na, nb, out, mg, ac, bc) /\ MH le a.toList b.toList na nb out.toList.reverse /\ 1 <= na /\ na <= a.size /\ 2 <= nb /\ nb <= b.size /\ na + nb + x + 2 <= a.size + b.size)) ?step2 ?fin2 ⟨g, na, nb, out, _, _, _, rfl, m, g1, g1', g2, g2', g3⟩) ?post2)
    case fin2 =>
     rintro c st' ⟨g, na, nb, out, mg, ac, bc, rfl, m, g1, g1', g2, g2', g3⟩
     exact ⟨g, .inr ⟨na, nb, out, mg, ac, bc, rfl, m, g1, g1', g2, g2', g3⟩⟩
    case post2 =>
     rintro ⟨r, c⟩ st' ⟨g, ⟨r', hr, hm⟩ | ⟨na, nb, out, mg, ac, bc, e, m, g1, g1', g2, g2', g3⟩⟩
     ·cases hr
      exact wpS_pure ⟨g, r', rfl, hm⟩
     ·cases e
      dsimp only
      exact wpS_bind (ZgQ (wpS_pure ⟨g.set _, na, nb, out, _, rfl, m, g1, g1', g2, g2', by omega⟩))
    case step2 =>
     clear g1 g1' g2 g2' g3 m g
     rintro t c st' _ ht ⟨g, na, nb, out, mg, ac, bc, rfl, m, g1, g1', g2, g2', g3⟩
     obtain ⟨xb, hxb⟩ := ZfD (xs := b) (i := nb - 1) (by omega)
     have hxb' := hxb
     rw [<- Zc6] at hxb'
     have lb : ∀ y ∈ b.toList.take nb, le y xb := fun y hy => sb.last o hxb' (by rw [show nb - 1 + 1 = nb by omega]; exact hy)
     dsimp only
     refine ifS (fun _ => ?_) fun _ => ?_
     all_goals
      refine wpS_bind (ZgQ (wpS_bind (Zd4 hxb (wpS_bind (ZfB ask o ((g.set _).kind.trans hk) (bu.at hxb) au (by omega) (by omega) (sa.sg o _ _) fun k hk1 hk2 hk3 => ?_)))))
      simp only [ZbQ] at hk2 hk3
      have mk := HiA m sa hk1 fun y hy x hx => by
       obtain ⟨j, hj1, hj2, hyj⟩ := ZiD hy
       rw [Zc6] at hyj
       exact o.tr _ _ _ (lb x hx) (o.of_not (by have := hk3 j y hj1 hj2 hyj; simpa using this))
      have mk' : ∀ y ∈ a.toList.take k, le y xb := fun y hy => by
       obtain ⟨j, hj, hyj⟩ := Zmv hy
       rw [Zc6] at hyj
       have := hk2 j y hj hyj
       simpa using this
      dsimp only
      refine ifS (fun hk0 => ifS (fun z => wpS_pure ⟨g.set _, .inl ⟨_, rfl, Zmw mk sa sb (.inl (by simpa using z))⟩⟩) fun z => ?_) fun hk0 => ?_
      have hna : 1 <= k := by
       have z : k ≠ 0 := by simpa using z
       omega
      obtain ⟨na', out', ei, eo⟩ : ∃ na' out', na' = k /\ out' = out ++ (a.extract k na).reverse := ⟨_, _, rfl, rfl⟩
      rw [<- eo] at mk ⊢
      rotate_left
      have k0 : k = na := by omega
      subst k0
      have hna : 1 <= k := g1
      obtain ⟨na', out', ei, eo⟩ : ∃ na' out', na' = k /\ out' = out := ⟨_, _, rfl, rfl⟩
      rw [<- eo]
      have mk : MH le a.toList b.toList k nb out'.toList.reverse := by rw [eo]; exact m
      all_goals
       obtain ⟨xa, hxa⟩ := ZfD (xs := a) (i := k - 1) (by omega)
       have hxa' := hxa
       rw [<- Zc6] at hxa'
       have la : ∀ y ∈ a.toList.take k, le y xa := fun y hy => sa.last o hxa' (by rw [show k - 1 + 1 = k by omega]; exact hy)
       have ml := Zr2 mk sb (by omega) hxb mk'
       refine wpS_bind (Zd4 hxb (ifS (fun z => wpS_pure ⟨g.set _, .inl ⟨_, rfl, ZnG ml sa sb h0' (by simpa using z)⟩⟩) fun z => ?_))
       have hnb : 2 <= nb - 1 := by
        have z : nb - 1 ≠ 1 := by simpa using z
        omega
       refine wpS_bind (Zd4 hxa (wpS_bind (ZfB ask o ((g.set _).kind.trans hk) (au.at hxa) bu (by omega) (by omega) (sb.sg o _ _) fun k2 hk4 hk5 hk6 => ?_)))
       simp only [ZbQ] at hk5 hk6
       have mn := HiB ml sb hk4 fun y hy x hx => by
        obtain ⟨j, hj1, hj2, hyj⟩ := ZiD hy
        rw [Zc6] at hyj
        exact o.tr _ _ _ (la x hx) (by have := hk6 j y hj1 hj2 hyj; simpa using this)
       have mn' : ∀ y ∈ b.toList.take k2, le y xa := fun y hy => by
        obtain ⟨j, hj, hyj⟩ := Zmv hy
        rw [Zc6] at hyj
        exact o.of_not (by have := hk5 j y hj hyj; simpa using this)
       dsimp only
       refine ifS (fun hk0 => ifS (fun z => wpS_pure ⟨g.set _, .inl ⟨_, rfl, ZnG mn sa sb h0' (by simpa using z)⟩⟩) fun z => ifS (fun z => wpS_pure ⟨g.set _, .inl ⟨_, rfl, Zmw mn sa sb (.inr (by simpa using z))⟩⟩) fun z' => ?_) fun hk0 => ?_
       have hnb2 : 2 <= k2 := by
        have z : k2 ≠ 1 := by simpa using z
        have z' : k2 ≠ 0 := by simpa using z'
        omega
       have mo := ZqV mn sa hna hxa mn'
       rotate_left
       have k0 : k2 = nb - 1 := by omega
       subst k0
       have hnb2 := hnb
       have mo := ZqV ml sa hna hxa mn'
       all_goals
        refine wpS_bind (Zd4 hxa (ifS (fun z => wpS_pure ⟨g.set _, .inl ⟨_, rfl, Zmw mo sa sb (.inl (by simpa using z))⟩⟩) fun z => ?_))
        have z : k - 1 ≠ 0 := by simpa using z
        exact ifS (fun _ => wpS_pure ⟨g.set _, .inr ⟨_, _, _, _, _, _, rfl, mo, by omega, by omega, by omega, by omega, by omega⟩⟩) fun _ => wpS_pure ⟨g.set _, _, _, _, _, _, _, rfl, mo, by omega, by omega, by omega, by omega, by omega⟩
end
section
variable {le : Keyed -> Keyed -> Prop}
def Pm (lo : Nat) (xs ys : Array Keyed) : Prop := ys.Perm xs /\ ∀ k, k < lo -> ys[k]? = xs[k]?
theorem Pm.refl (lo : Nat) (xs : Array Keyed) : Pm lo xs xs := ⟨Array.Perm.refl _, fun _ _ => rfl⟩
theorem Pm.trans {lo : Nat} {xs ys zs : Array Keyed} (h : Pm lo xs ys) (g : Pm lo ys zs) : Pm lo xs zs := ⟨g.1.trans h.1, fun k hk => (g.2 k hk).trans (h.2 k hk)⟩
theorem Pm.size {lo : Nat} {xs ys : Array Keyed} (h : Pm lo xs ys) : ys.size = xs.size := h.1.size_eq
theorem Pm.mirror {lo i j : Nat} {xs : Array Keyed} (hi : lo <= i) (hj : j <= xs.size) : Pm lo xs (mirror xs i j ((j - i) / 2)) := ⟨mirror_perm _ _ _ _, fun k hk => by rw [getElem?_mirror_all hj, if_neg (by omega)]⟩
def NI (le : Keyed -> Keyed -> Prop) (xs : Array Keyed) (lo hi : Nat) : Prop := ∀ i j x y, lo <= i -> i <= j -> j < hi -> xs[i]? = some x -> xs[j]? = some y -> le y x
def Eqv (le : Keyed -> Keyed -> Prop) (xs : Array Keyed) (lo hi : Nat) : Prop := ∀ i j x y, lo <= i -> i < hi -> lo <= j -> j < hi -> xs[i]? = some x -> xs[j]? = some y -> le x y
theorem Eqv.mirror {xs : Array Keyed} {lo hi p q : Nat} (h : Eqv le xs lo hi) (hp : lo <= p) (hq : q <= hi) (hs : q <= xs.size) : Eqv le (mirror xs p q ((q - p) / 2)) lo hi := by
 intro i j x y h1 h2 h3 h4 hx hy
 rw [getElem?_mirror_all hs] at hx hy
 split at hx <;> split at hy
 all_goals exact h _ _ x y (by omega) (by omega) (by omega) (by omega) hx hy
theorem NI.mirror {xs : Array Keyed} {lo hi p q : Nat} (n : NI le xs lo hi) (e : Eqv le xs p q) (hp : lo <= p) (hq : q <= hi) (hs : q <= xs.size) : NI le (mirror xs p q ((q - p) / 2)) lo hi := by
 intro i j x y h1 h2 h3 hx hy
 rw [getElem?_mirror_all hs] at hx hy
 split at hx <;> split at hy
 ·exact e _ _ y x (by omega) (by omega) (by omega) (by omega) hy hx
 ·exact n _ _ x y (by omega) (by omega) (by omega) hx hy
 ·exact n _ _ x y (by omega) (by omega) (by omega) hx hy
 ·exact n _ _ x y (by omega) (by omega) (by omega) hx hy
theorem NI.turn {xs : Array Keyed} {lo hi : Nat} (n : NI le xs lo hi) (hs : hi <= xs.size) : Sg le (PyProof.Rows.mirror xs lo hi ((hi - lo) / 2)) lo hi := by
 intro i j x y h1 h2 h3 hx hy
 rw [getElem?_mirror_all hs, if_pos (by omega)] at hx hy
 exact n _ _ y x (by omega) (by omega) (by omega) hy hx
theorem Sg.more (o : Ord le) {xs : Array Keyed} {lo hi : Nat} (s : Sg le xs lo hi) (hlt : lo < hi) (hs : hi <= xs.size) (h : ∀ x y, xs[hi - 1]? = some x -> xs[hi]? = some y -> le x y) : Sg le xs lo (hi + 1) := by
 intro i j x y h1 h2 h3 hx hy
 by_cases z : j < hi
 ·exact s i j x y h1 h2 z hx hy
 ·have ej : j = hi := by omega
  subst ej
  by_cases z2 : i = j
  ·subst z2
   rw [hx] at hy
   cases hy
   exact o.refl _
  ·obtain ⟨m, hm⟩ := ZfD (xs := xs) (i := j - 1) (by omega)
   exact o.tr _ _ _ (s i (j - 1) x m h1 (by omega) (by omega) hx hm) (h m y hm hy)
theorem NI.more (o : Ord le) {xs : Array Keyed} {lo hi : Nat} (s : NI le xs lo hi) (hlt : lo < hi) (hs : hi <= xs.size) (h : ∀ x y, xs[hi - 1]? = some x -> xs[hi]? = some y -> le y x) : NI le xs lo (hi + 1) := by
 intro i j x y h1 h2 h3 hx hy
 by_cases z : j < hi
 ·exact s i j x y h1 h2 z hx hy
 ·have ej : j = hi := by omega
  subst ej
  by_cases z2 : i = j
  ·subst z2
   rw [hx] at hy
   cases hy
   exact o.refl _
  ·obtain ⟨m, hm⟩ := ZfD (xs := xs) (i := j - 1) (by omega)
   exact o.tr _ _ _ (h m y hm hy) (s i (j - 1) x m h1 (by omega) (by omega) hx hm)
theorem Sg.one (o : Ord le) (xs : Array Keyed) (lo : Nat) : Sg le xs lo (lo + 1) := fun i j x y h1 h2 h3 hx hy => by
 have : i = j := by omega
 subst this
 rw [hx] at hy
 cases hy
 exact o.refl _
end
section
variable {prog : Program} {w : World} {A : Around} {E : Value -> Shared -> Prop} {s : Shared} {le : Keyed -> Keyed -> Prop} {κ : SortKind} {U : List Keyed}
theorem ZiE (ask : Ask prog w A s κ U le) (o : Ord le) {lo nrem : Nat} {Q : Option Nat -> SortSt -> Prop} {st : SortSt} (hk : kindOf st = κ) (hU : In U (arrOf st)) (hn : lo + nrem <= (arrOf st).size) (h1 : 1 <= nrem)
  (h : ∀ n xs, Pm lo (arrOf st) xs -> 1 <= n -> n <= nrem -> Sg le xs lo (lo + n) -> Q (some n) (setArr st xs)) : wpS (model prog w) A E s (countRun' lo nrem) Q st := by
 have asc : ∀ (xs : Array Keyed) (n0 : Nat) (f : Nat -> Option (Option Nat) × Nat -> StateT SortSt Sem (ForInStep (Option (Option Nat) × Nat))), Pm lo (arrOf st) xs -> Sg le xs lo (lo + n0) -> 1 <= n0 -> n0 <= nrem ->
   (∀ (x n : Nat) (R : ForInStep (Option (Option Nat) × Nat) -> SortSt -> Prop), 1 <= n -> n < nrem -> (∀ (a b : Keyed) (c : Bool), xs[lo + n - 1]? = some a -> xs[lo + n]? = some b -> (c = true ↔ ¬ le a b) -> R (if c = true then ForInStep.done (none, n) else ForInStep.yield (none, n + 1)) (setArr st xs)) -> wpS (model prog w) A E s (f x (none, n)) R (setArr st xs)) ->
   ∀ R : Option (Option Nat) × Nat -> SortSt -> Prop, (∀ n, n0 <= n -> n <= nrem -> Sg le xs lo (lo + n) -> (n = nrem \/ ∀ a b, xs[lo + n - 1]? = some a -> xs[lo + n]? = some b -> ¬ le a b) -> R (none, n) (setArr st xs)) -> wpS (model prog w) A E s (forIn [n0:nrem] (none, n0) f) R (setArr st xs) := fun xs n0 f hp hs h3 h4 hf R hR => by
  have sz := hp.size
  refine wpS_forRange (I := fun x c st' => st' = setArr st xs /\ c = (none, x) /\ Sg le xs lo (lo + x)) ?step ?fin ⟨rfl, rfl, hs⟩
  case fin =>
   rintro c st' ⟨rfl, rfl, hs'⟩
   rw [show max n0 nrem = nrem by omega] at hs' ⊢
   exact hR nrem h4 (ZbK _) hs' (.inl rfl)
  case step =>
   rintro x c st' hx1 hx2 ⟨rfl, rfl, hs'⟩
   refine hf x x _ (by omega) hx2 fun a b c ha hb hc => ?_
   cases c with
   | true =>
    refine hR x hx1 (by omega) hs' (.inr fun a' b' ha' hb' => ?_)
    rw [ha] at ha'
    rw [hb] at hb'
    cases ha'
    cases hb'
    exact hc.mp rfl
   | false =>
    refine ⟨rfl, rfl, hs'.more o (by omega) (by omega) fun a' b' ha' hb' => ?_⟩
    rw [ha] at ha'
    rw [hb] at hb'
    cases ha'
    cases hb'
    exact Classical.byContradiction fun z => by have := hc.mpr z; cases this
 have lts : ∀ {xs : Array Keyed} {i j : Nat} {Q : Option Bool -> SortSt -> Prop}, Pm lo (arrOf st) xs -> i < lo + nrem -> j < lo + nrem -> (∀ (a b : Keyed) (c : Bool), xs[i]? = some a -> xs[j]? = some b -> (c = true ↔ ¬ le b a) -> Q (some c) (setArr st xs)) -> wpS (model prog w) A E s (ltAt' i j) Q (setArr st xs) := fun {xs i j Q} hp hi hj hq => by
  have sz := hp.size
  obtain ⟨a, ha⟩ := ZfD (xs := xs) (i := i) (by omega)
  obtain ⟨b, hb⟩ := ZfD (xs := xs) (i := j) (by omega)
  exact Zmr ask (st := setArr st xs) hk (hU.perm hp.1) ha hb fun c hc => hq a b c ha hb hc
 have rev : ∀ {xs : Array Keyed} {i j : Nat} {Q : Unit -> SortSt -> Prop}, Q () (setArr st (mirror xs i j ((j - i) / 2))) -> wpS (model prog w) A E s (reverseSlice' i j) Q (setArr st xs) := fun {xs i j Q} hq => wpS_reverse (st := setArr st xs) hq
 have p0 := Pm.refl lo (arrOf st)
 show wpS (model prog w) A E s _ Q (setArr st (arrOf st))
 refine wpS_bind (asc (arrOf st) 1 _ p0 (Sg.one o _ _) (ZbK _) h1 ?_ _ fun n hn1 hn2 hsn hor => ?_)
 ·intro x n R hn1 hn2 hR
  dsimp only
  refine wpS_bind (lts p0 (by omega) (by omega) fun a b c ha hb hc => ?_)
  have := hR b a c hb ha hc
  cases c with
  | true => exact wpS_pure this
  | false => exact wpS_pure this
 dsimp only
 refine ifS (fun z => wpS_pure (h n _ p0 hn1 hn2 hsn)) fun z => ?_
 have z : n ≠ nrem := by simpa using z
 have drop := hor.resolve_left z
 refine (fun (key : ∀ xs : Array Keyed, Pm lo (arrOf st) xs -> NI le xs lo (lo + n) -> (∀ a' b', xs[lo + n - 1]? = some a' -> xs[lo + n]? = some b' -> le b' a') -> wpS (model prog w) A E s ?P Q (setArr st xs)) => ?main) ?key
 case main =>
  refine ifS (fun z1 => wpS_bind (lts p0 (by omega) (by omega) fun a b c ha hb hc => ?_)) fun z1 => ?_
  ·cases c with
   | true => exact wpS_pure (h n _ p0 hn1 hn2 hsn)
   | false =>
    have lba : le b a := Classical.byContradiction fun z => by have := hc.mpr z; cases this
    have ev : Eqv le (arrOf st) lo (lo + n) := fun i j x y g1 g2 g3 g4 hx hy => o.tr _ _ _ (hsn i (lo + n - 1) x b g1 (by omega) (by omega) hx hb) (o.tr _ _ _ lba (hsn lo j a y (ZbK _) g3 g4 ha hy))
    refine wpS_bind (rev ?_)
    obtain ⟨xs, hxs⟩ : ∃ xs, xs = mirror (arrOf st) lo (lo + n) ((lo + n - lo) / 2) := ⟨_, rfl⟩
    rw [<- hxs]
    refine key xs (by rw [hxs]; exact Pm.mirror (ZbK _) (by omega)) (fun i j x y g1 g2 g3 hx hy => ?_) fun a' b' ha' hb' => ?_
    ·have := ev.mirror (p := lo) (q := lo + n) (ZbK _) (ZbK _) (by omega)
     rw [<- hxs] at this
     exact this j i y x (by omega) g3 g1 (by omega) hy hx
    ·rw [hxs, getElem?_mirror_all (by omega), if_pos (by omega)] at ha'
     rw [hxs, getElem?_mirror_all (by omega), if_neg (by omega)] at hb'
     refine o.of_not fun zz => ?_
     exact drop b b' hb hb' (o.tr _ _ _ (ev _ _ b a' (by omega) (by omega) (by omega) (by omega) hb ha') zz)
  ·have n1 : n = 1 := by omega
   refine key _ p0 (fun i j x y g1 g2 g3 hx hy => ?_) fun a' b' ha' hb' => o.of_not (drop a' b' ha' hb')
   have : i = j := by omega
   subst this
   rw [hx] at hy
   cases hy
   exact o.refl _
 case key =>
  intro xs px nx dx
  clear hsn hor drop
  have sz := px.size
  have nx' := nx.more o (by omega) (by omega) dx
  refine wpS_bind (wpS_lift (wpAny_rule ⟨rfl, ?_⟩))
  refine wpS_bind (wpS_mono (wpS_forRange (I := fun x c st' => ∃ ys neq, st' = setArr st ys /\ Pm lo (arrOf st) ys /\ c = (none, x, neq) /\ NI le ys lo (lo + x) /\ neq + 1 <= x /\ Eqv le ys (lo + x - (neq + 1)) (lo + x))
   (Q := fun c st' => ∃ ys neq m, st' = setArr st ys /\ Pm lo (arrOf st) ys /\ c = (none, m, neq) /\ 1 <= m /\ m <= nrem /\ NI le ys lo (lo + m) /\ neq + 1 <= m /\ Eqv le ys (lo + m - (neq + 1)) (lo + m)) ?step ?fin ⟨xs, 0, rfl, px, rfl, nx', by omega, ?one⟩) ?post)
  case one =>
   intro i j x y g1 g2 g3 g4 hx hy
   have : i = j := by omega
   subst this
   rw [hx] at hy
   cases hy
   exact o.refl _
  case fin =>
   rintro c st' ⟨ys, neq, rfl, py, rfl, ny, g1, ey⟩
   rw [show max (n + 1) nrem = nrem by omega] at ny g1 ey ⊢
   exact ⟨ys, neq, nrem, rfl, py, rfl, h1, ZbK _, ny, g1, ey⟩
  case step =>
   rintro x c st' hx1 hx2 ⟨ys, neq, rfl, py, rfl, ny, g1, ey⟩
   have sy := py.size
   dsimp only
   refine wpS_bind (lts py (by omega) (by omega) fun a b c ha hb hc => ?_)
   cases c with
   | true =>
    have lab : le a b := o.of_not (hc.mp rfl)
    dsimp only
    rw [if_pos rfl]
    refine ifS (fun zq => wpS_bind (rev (wpS_pure ?_))) fun zq => wpS_pure ?_
    ·have nm := ny.mirror ey (by omega) (ZbK _) (by omega)
     refine ⟨_, 0, rfl, py.trans (Pm.mirror (by omega) (by omega)), rfl, nm.more o (by omega) (by rw [mirror_size]; omega) fun a' b' ha' hb' => ?_, by omega, fun i j x y q1 q2 q3 q4 hx hy => ?_⟩
     ·rw [getElem?_mirror_all (by omega), if_pos (by omega)] at ha'
      rw [getElem?_mirror_all (by omega), if_neg (by omega), ha] at hb'
      cases hb'
      exact o.tr _ _ _ lab (ey _ _ b a' (by omega) (by omega) (by omega) (by omega) hb ha')
     ·have : i = j := by omega
      subst this
      rw [hx] at hy
      cases hy
      exact o.refl _
    ·refine ⟨ys, 0, rfl, py, rfl, ny.more o (by omega) (by omega) fun a' b' ha' hb' => ?_, by omega, fun i j x y q1 q2 q3 q4 hx hy => ?_⟩
     ·rw [hb] at ha'
      rw [ha] at hb'
      cases ha'
      cases hb'
      exact lab
     ·have : i = j := by omega
      subst this
      rw [hx] at hy
      cases hy
      exact o.refl _
   | false =>
    have lba : le b a := Classical.byContradiction fun z => by have := hc.mpr z; cases this
    dsimp only
    rw [if_neg ZcX]
    refine wpS_bind (lts py (by omega) (by omega) fun a' b' c hb' ha' hc => ?_)
    rw [hb] at hb'
    rw [ha] at ha'
    cases hb'
    cases ha'
    cases c with
    | true => exact wpS_pure ⟨ys, neq, x, rfl, py, rfl, by omega, by omega, ny, g1, ey⟩
    | false =>
     have lab : le a b := Classical.byContradiction fun z => by have := hc.mpr z; cases this
     refine wpS_pure ⟨ys, neq + 1, rfl, py, rfl, ny.more o (by omega) (by omega) fun a' b' ha' hb' => ?_, by omega, fun i j p q q1 q2 q3 q4 hp hq => ?_⟩
     ·rw [hb] at ha'
      rw [ha] at hb'
      cases ha'
      cases hb'
      exact lab
     ·have cls : ∀ i p, lo + (x + 1) - (neq + 1 + 1) <= i -> i < lo + (x + 1) -> ys[i]? = some p -> le p b /\ le b p := fun i p q1 q2 hp => by
       by_cases zi : i < lo + x
       ·exact ⟨ey i (lo + x - 1) p b (by omega) zi (by omega) (by omega) hp hb, ey (lo + x - 1) i b p (by omega) (by omega) (by omega) zi hb hp⟩
       ·have ei : i = lo + x := by omega
        rw [ei, ha] at hp
        cases hp
        exact ⟨lab, lba⟩
      exact o.tr _ _ _ (cls i p q1 q2 hp).1 (cls j q q3 q4 hq).2
  case post =>
   rintro c st' ⟨ys, neq, m, rfl, py, rfl, g0, g0', ny, g1, ey⟩
   have sy := py.size
   dsimp only
   refine (fun (key : ∀ zs : Array Keyed, Pm lo (arrOf st) zs -> NI le zs lo (lo + m) -> wpS (model prog w) A E s ?P2 Q (setArr st zs)) => ?m2) ?k2
   case m2 =>
    refine ifS (fun zq => wpS_bind (rev ?_)) fun zq => ?_
    ·exact key _ (py.trans (Pm.mirror (by omega) (by omega))) (ny.mirror ey (by omega) (ZbK _) (by omega))
    ·exact key _ py ny
   case k2 =>
    intro zs pz nz
    clear ey ny py
    have sz := pz.size
    refine wpS_bind (rev ?_)
    have pv := pz.trans (Pm.mirror (xs := zs) (i := lo) (j := lo + m) (ZbK _) (by omega))
    refine wpS_bind (asc _ m _ pv (nz.turn (by omega)) g0 g0' ?_ _ fun n hn1 hn2 hsn hor => wpS_pure (h n _ pv (by omega) hn2 hsn))
    intro x n R hn1 hn2 hR
    dsimp only
    refine wpS_bind (lts pv (by omega) (by omega) fun a b c ha hb hc => ?_)
    have := hR b a c hb ha hc
    cases c with
    | true => exact wpS_pure this
    | false => exact wpS_pure this
end
section
variable {prog : Program} {w : World} {A : Around} {E : Value -> Shared -> Prop} {s : Shared} {le : Keyed -> Keyed -> Prop} {κ : SortKind} {U : List Keyed}
theorem Pm.bubble {lo src d : Nat} {xs : Array Keyed} (hs : src < xs.size) (hd : d <= src) (hl : lo <= src - d) : Pm lo xs (bubble xs src d) := ⟨bubble_perm _ _ _, fun k hk => by rw [getElem?_bubble hs d hd, if_neg (by omega), if_neg (by omega)]⟩
theorem ZhD (ask : Ask prog w A s κ U le) (o : Ord le) {lo n ok : Nat} {Q : Bool -> SortSt -> Prop} {st : SortSt} (hk : kindOf st = κ) (hU : In U (arrOf st)) (hn : lo + n <= (arrOf st).size) (hok : ok <= n) (hs : Sg le (arrOf st) lo (lo + ok))
  (h : ∀ xs, Pm lo (arrOf st) xs -> Sg le xs lo (lo + n) -> Q true (setArr st xs)) : wpS (model prog w) A E s (binarySort' lo n ok) Q st := by
 refine wpS_bind (wpS_mono (wpS_forRange (I := fun k c st' => ∃ xs, st' = setArr st xs /\ c = (none, ()) /\ Pm lo (arrOf st) xs /\ Sg le xs lo (lo + min k n))
  (Q := fun c st' => ∃ xs, st' = setArr st xs /\ c = (none, ()) /\ Pm lo (arrOf st) xs /\ Sg le xs lo (lo + n)) ?step ?fin ⟨arrOf st, rfl, rfl, Pm.refl _ _, ?init⟩) ?post)
 case post =>
  rintro c st' ⟨xs, rfl, rfl, hp, hs'⟩
  exact wpS_pure (h xs hp hs')
 case init =>
  by_cases z : ok = 0
  ·subst z
   intro i j x y h1 h2 h3
   exact Sg.one o _ lo i j x y h1 h2 (by omega)
  ·intro i j x y h1 h2 h3
   exact hs i j x y h1 h2 (by omega)
 case fin =>
  rintro c st' ⟨xs, rfl, rfl, hp, hs'⟩
  rw [show min (max (max ok 1) n) n = n by omega] at hs'
  exact ⟨xs, rfl, rfl, hp, hs'⟩
 case step =>
  rintro k c st' hak hkn ⟨xs, rfl, rfl, hp, hs'⟩
  have sz := hp.size
  rw [show min k n = k by omega] at hs'
  obtain ⟨pv, hpv⟩ := ZfD (xs := xs) (i := lo + k) (by omega)
  refine wpS_bind (wpS_mono (wpS_forRange (I := fun x c st'' => st'' = setArr st xs /\ ∃ l r, c = (none, l, r) /\ l <= r /\ r <= k /\ r - l <= k - x /\
    (∀ i y, i < l -> xs[lo + i]? = some y -> le y pv) /\ (∀ i y, r <= i -> i < k -> xs[lo + i]? = some y -> le pv y))
   (Q := fun c st'' => st'' = setArr st xs /\ ∃ l r, c = (none, l, r) /\ l <= k /\
    (∀ i y, i < l -> xs[lo + i]? = some y -> le y pv) /\ (∀ i y, l <= i -> i < k -> xs[lo + i]? = some y -> le pv y)) ?istep ?ifin ?iinit) ?ipost)
  case iinit => exact ⟨rfl, 0, k, rfl, by omega, by omega, by omega, fun i y hi => by omega, fun i y h1 h2 => by omega⟩
  case ifin =>
   rintro c st'' ⟨rfl, l, r, rfl, hlr, hrk, hm, hlo, hhi⟩
   have : l = r := by omega
   subst this
   exact ⟨rfl, l, l, rfl, hrk, hlo, hhi⟩
  case istep =>
   rintro x c st'' _ hxk ⟨rfl, l, r, rfl, hlr, hrk, hm, hlo, hhi⟩
   dsimp only
   refine ifS (fun hge => wpS_pure ⟨rfl, l, r, rfl, by omega, hlo, fun i y h1 h2 => hhi i y (by omega) h2⟩) fun hge => ?_
   obtain ⟨mv, hmv⟩ := ZfD (xs := xs) (i := lo + (l + r) / 2) (by omega)
   refine wpS_bind (Zmr ask (st := setArr st xs) hk (hU.perm hp.1) hpv hmv fun c hc => ?_)
   cases c with
   | true =>
    refine wpS_pure ⟨rfl, l, (l + r) / 2, rfl, by omega, by omega, by omega, hlo, fun i y h1 h2 hy => ?_⟩
    exact o.tr _ _ _ (o.of_not (hc.mp rfl)) (hs' _ _ mv y (by omega) (by omega) (by omega) hmv hy)
   | false =>
    have lmp : le mv pv := Classical.byContradiction fun z => by have := hc.mpr z; cases this
    refine wpS_pure ⟨rfl, (l + r) / 2 + 1, r, rfl, by omega, by omega, by omega, fun i y h1 hy => ?_, hhi⟩
    exact o.tr _ _ _ (hs' (lo + i) (lo + (l + r) / 2) y mv (by omega) (by omega) (by omega) hy hmv) lmp
  case ipost =>
   rintro c st'' ⟨rfl, l, r, rfl, hlk, hlo, hhi⟩
   show wpS _ _ _ _ (do moveDown' (lo + k) (lo + l); pure (ForInStep.yield (none, ()))) _ _
   rw [moveDown'_eq]
   have hks : lo + k < xs.size := by omega
   refine wpS_bind (wpS_modify (wpS_pure ⟨_, rfl, rfl, hp.trans (Pm.bubble hks (by omega) (by omega)), ?_⟩))
   rw [show min (k + 1) n = k + 1 by omega, show lo + k - (lo + l) = k - l by omega]
   intro i j x y h1 h2 h3 hx hy
   have g : ∀ q : Nat, (Zdq xs (lo + k) (k - l))[q]? = if q = lo + l then some pv else if lo + l < q /\ q <= lo + k then xs[q - 1]? else xs[q]? := fun q => by
    rw [getElem?_bubble hks _ (by omega), hpv, show lo + k - (k - l) = lo + l by omega]
   have hx : (Zdq xs (lo + k) (k - l))[i]? = some x := hx
   have hy : (Zdq xs (lo + k) (k - l))[j]? = some y := hy
   rw [g] at hx hy
   by_cases c1 : i = lo + l
   ·rw [if_pos c1] at hx
    cases hx
    by_cases c2 : j = lo + l
    ·rw [if_pos c2] at hy
     cases hy
     exact o.refl _
    ·rw [if_neg c2, if_pos (by omega)] at hy
     exact hhi (j - 1 - lo) y (by omega) (by omega) (by rw [show lo + (j - 1 - lo) = j - 1 by omega]; exact hy)
   ·rw [if_neg c1] at hx
    by_cases c2 : j = lo + l
    ·rw [if_pos c2] at hy
     cases hy
     rw [if_neg (by omega)] at hx
     exact hlo (i - lo) x (by omega) (by rw [show lo + (i - lo) = i by omega]; exact hx)
    ·rw [if_neg c2] at hy
     split at hx <;> split at hy
     ·exact hs' _ _ x y (by omega) (by omega) (by omega) hx hy
     ·omega
     ·exact hs' _ _ x y (by omega) (by omega) (by omega) hx hy
     ·exact hs' _ _ x y (by omega) (by omega) (by omega) hx hy
end
theorem ar1 {sa na sb k : Nat} (e : sb = sa + na) (h : k <= na) (z : na - k ≠ 0) : sa + k + (na - k - 1) = sb - 1 := by omega
theorem ar2 {sa na sb k : Nat} (e : sb = sa + na) (h : k <= na) : sa + k + (na - k) = sb := by omega
theorem ZpK {α : Type} (L : List α) (n : Nat) (h : n <= L.length) : ∃ a b, L = a ++ b /\ a.length = n := ⟨L.take n, L.drop n, (Za5 n L).symm, by rw [Zax]; omega⟩
theorem ZqW {α : Type} {L a b : List α} {n m : Nat} (e : L = a ++ b) (h : a.length = n) (hL : L.length = m) : b.length = m - n := by
 rw [e, ZaC] at hL
 omega
theorem room {sa na sb nb S k m : Nat} (e : sb = sa + na) (hz : sb + nb <= S) (h1 : k <= na) (h2 : m <= nb) : sa <= S /\ k <= S - sa /\ na - k <= S - sa - k /\ m <= S - sa - k - (na - k) /\ nb - m <= S - sa - k - (na - k) - m :=
 ⟨by omega, by omega, by omega, by omega, by omega⟩
section
variable {le : Keyed -> Keyed -> Prop}
theorem ZjD {L a b c : List Keyed} {i n : Nat} (e : L = a ++ (b ++ c)) (ha : a.length = i) (hb : b.length = n) : (L.take (i + n)).drop i = b := by
 subst ha hb
 rw [e, List.take_append, List.drop_append]
 simp
theorem ZkR {L a b c : List Keyed} {i : Nat} (e : L = a ++ (b ++ c)) (ha : a.length = i) {x : Keyed} (hx : x ∈ b) : ∃ j, j < b.length /\ L[i + j]? = some x := by
 obtain ⟨j, hj⟩ := Zbf.mp hx
 have := (Zaj.mp hj).1
 refine ⟨j, this, ?_⟩
 rw [e, Zay (by omega), show i + j - a.length = j by omega, Zaz this]
 exact hj
theorem Zoh {L a b c : List Keyed} {i j : Nat} (e : L = a ++ (b ++ c)) (ha : a.length = i) (hj : j < b.length) : L[i + j]? = b[j]? := by
 rw [e, Zay (by omega), show i + j - a.length = j by omega, Zaz hj]
theorem Zmx {xs : Array Keyed} {lo hi : Nat} (s : Sg le xs lo hi) : Srt le ((xs.toList.take hi).drop lo) := by
 rw [Srt, Zbn]
 intro i j h1 h2 hij
 have e : ∀ q (hq : q < ((xs.toList.take hi).drop lo).length), xs[lo + q]? = some ((xs.toList.take hi).drop lo)[q] := fun q hq => by
  rw [<- Zc6]
  have e1 : ((xs.toList.take hi).drop lo)[q]? = some ((xs.toList.take hi).drop lo)[q] := ZaT hq
  rw [Zbh, Zbg] at e1
  by_cases z : lo + q < hi
  ·rw [if_pos z] at e1; exact e1
  ·rw [if_neg z] at e1; cases e1
 rw [ZaK, Zax] at h2
 exact s (lo + i) (lo + j) _ _ (by omega) (by omega) (by omega) (e i h1) (e j (by rw [ZaK, Zax]; exact h2))
theorem Zqn (o : Ord le) {xs : Array Keyed} {lo hi : Nat} (s : Srt le ((xs.toList.take hi).drop lo)) : Sg le xs lo hi := fun i j x y h1 h2 h3 hx hy => by
 have e : ∀ q z, lo <= q -> q < hi -> xs[q]? = some z -> ((xs.toList.take hi).drop lo)[q - lo]? = some z := fun q z g1 g2 hz => by
  rw [Zbh, Zbg, show lo + (q - lo) = q by omega, if_pos g2, Zc6]
  exact hz
 have ex := e i x h1 (by omega) hx
 have ey := e j y (by omega) h3 hy
 refine s.head o ex (Zbf.mpr ⟨j - i, ?_⟩)
 rw [Zbh, show i - lo + (j - i) = j - lo by omega]
 exact ey
theorem ZkS (base : Nat) : ∀ (r b : List Keyed) (n : Nat) (arr : Array Keyed) (a c : List Keyed), arr.toList = a ++ (b ++ c) -> a.length = base + n -> b.length = r.length ->
  ((r.zipIdx n).foldl (fun (a : Array Keyed) (q : Keyed × Nat) => a.setIfInBounds (base + q.2) q.1) arr).toList = a ++ (r ++ c)
 | [], b, n, arr, a, c, e, _, hb => by
  rw [Zbo hb] at e
  exact e
 | x :: r, [], n, arr, a, c, e, ha, hb => by cases hb
 | x :: r, y :: b, n, arr, a, c, e, ha, hb => by
  rw [List.zipIdx_cons, ZaU]
  have := ZkS base r b (n + 1) (arr.setIfInBounds (base + n) x) (a ++ [x]) c (by
   rw [Zdb, e, <- ha, Zbp _ _ (ZbK _), ZbY, ZaF, List.set_cons_zero, Za7]
   rfl) (by rw [ZaC, ha]; rfl) (by simpa using hb)
  rw [this, Za7]
  rfl
end
section
variable {prog : Program} {w : World} {A : Around} {E : Value -> Shared -> Prop} {s : Shared} {le : Keyed -> Keyed -> Prop} {κ : SortKind} {U : List Keyed}
theorem Zo8 {σ : Type} {M : Model} {v : σ} {Q : PUnit -> σ -> Prop} {st : σ} (h : Q ⟨⟩ v) : wpS M A E s (set v : StateT σ Sem PUnit) Q st := by
 unfold wpS; rw [StateT.run_set]; exact wpAny_pure ⟨rfl, h⟩
theorem Zkh (ask : Ask prog w A s κ U le) (o : Ord le) {i sa na sb nb pw pv : Nat} {Q : Bool -> SortSt -> Prop} {st : SortSt} (hk : kindOf st = κ) (hf : failedOf st = none) (hU : In U (arrOf st)) (h1 : (pendingOf st)[i]? = some (sa, na, pw)) (h2 : (pendingOf st)[i + 1]? = some (sb, nb, pv)) (esb : sb = sa + na) (na1 : 1 <= na) (nb1 : 1 <= nb) (hz : sb + nb <= (arrOf st).size) (sA : Sg le (arrOf st) sa sb) (sB : Sg le (arrOf st) sb (sb + nb))
  (h : ∀ ys g, ys.Perm (arrOf st) -> (∀ q, q < sa \/ sb + nb <= q -> ys[q]? = (arrOf st)[q]?) -> Sg le ys sa (sb + nb) -> Q true (SortSt.mk' κ ys (((pendingOf st).setIfInBounds i (sa, na + nb, pw)).eraseIdxIfInBounds (i + 1)) g none)) : wpS (model prog w) A E s (mergeAt' i) Q st := by
 refine wpS_bind (wpS_get ?_)
 dsimp only
 rw [h1, h2]
 dsimp only
 refine wpS_bind (Zo8 ?_)
 subst hk
 obtain ⟨B0, hB0⟩ := ZfD (xs := arrOf st) (i := sb) (by omega)
 refine wpS_bind (Zd4 hB0 ?_)
 obtain ⟨P, hP⟩ : ∃ P, ((pendingOf st).setIfInBounds i (sa, na + nb, pw)).eraseIdxIfInBounds (i + 1) = P := ⟨_, rfl⟩
 rw [hP] at h
 have hh : ∀ ys g, ys.Perm (arrOf st) -> (∀ q, q < sa \/ sb + nb <= q -> ys[q]? = (arrOf st)[q]?) -> Sg le ys sa (sb + nb) -> Q (failedOf st).isNone (SortSt.mk' (kindOf st) ys P g (failedOf st)) := by rw [hf]; exact h
 have hT : ∀ ys g, ys.Perm (arrOf st) -> (∀ q, q < sa \/ sb + nb <= q -> ys[q]? = (arrOf st)[q]?) -> Sg le ys sa (sb + nb) -> Q true (SortSt.mk' (kindOf st) ys P g (failedOf st)) := by rw [hf]; exact h
 show wpS (model prog w) A E s _ Q (SortSt.mk' (kindOf st) (arrOf st) (((pendingOf st).setIfInBounds i (sa, na + nb, pw)).eraseIdxIfInBounds (i + 1)) (gallopOf st) (failedOf st))
 rw [hP]
 have whole : (∀ p q x y, sa <= p -> p < sb -> sb <= q -> q < sb + nb -> (arrOf st)[p]? = some x -> (arrOf st)[q]? = some y -> le x y) -> Sg le (arrOf st) sa (sb + nb) := fun mid p q x y g1 g2 g3 hx hy => by
  by_cases z1 : q < sb
  ·exact sA p q x y g1 g2 z1 hx hy
  ·by_cases z2 : p < sb
   ·exact mid p q x y g1 z2 (by omega) g3 hx hy
   ·exact sB p q x y (by omega) g2 g3 hx hy
 refine wpS_bind (ZfB ask o rfl (hU.at hB0) hU (show sa + na <= (arrOf st).size by omega) (by omega) (by rw [<- esb]; exact sA) fun k hk1 hk2 hk3 => ?_)
 dsimp only
 refine ifS (fun z => wpS_pure (hT _ _ (Array.Perm.refl _) (fun _ _ => rfl) (whole fun p q x y g1 g2 g3 g4 hx hy => ?_))) fun z => ?_
 ·have z : na - k = 0 := by simpa using z
  have := hk2 (p - sa) x (by omega) (by rw [show sa + (p - sa) = p by omega]; exact hx)
  exact o.tr _ _ _ (by simpa using this) (sB sb q B0 y (ZbK _) g3 g4 hB0 hy)
 have z : na - k ≠ 0 := by simpa using z
 obtain ⟨LA, hLA⟩ := ZfD (xs := arrOf st) (i := sb - 1) (by omega)
 refine wpS_bind (Zd4 (x := LA) (by rw [show sa + k + (na - k) - 1 = sb - 1 by omega]; exact hLA) (wpS_bind (ZfB ask o rfl (hU.at hLA) hU hz (by omega) sB fun m hk4 hk5 hk6 => ?_)))
 dsimp only
 refine ifS (fun z => wpS_pure (hT _ _ (Array.Perm.refl _) (fun _ _ => rfl) (whole fun p q x y g1 g2 g3 g4 hx hy => ?_))) fun z' => ?_
 ·have z : m = 0 := by simpa using z
  have := hk6 (q - sb) y (by omega) (by omega) (by rw [show sb + (q - sb) = q by omega]; exact hy)
  exact o.tr _ _ _ (sA p (sb - 1) x LA g1 (by omega) (by omega) hx hLA) (by simpa using this)
 have z' : m ≠ 0 := by simpa using z'
 have hLl : (arrOf st).toList.length = (arrOf st).size := Zc2
 obtain ⟨c0, c1, c2, c3, c4⟩ := room esb hz hk1 hk4
 obtain ⟨l0, r0, e0, n0⟩ := ZpK (arrOf st).toList sa (hLl ▸ c0)
 have t0 := ZqW e0 n0 hLl
 obtain ⟨P1, r1, e1, n1⟩ := ZpK r0 k (t0 ▸ c1)
 have t1 := ZqW e1 n1 t0
 obtain ⟨X, r2, e2, n2⟩ := ZpK r1 (na - k) (t1 ▸ c2)
 have t2 := ZqW e2 n2 t1
 obtain ⟨Y, r3, e3, n3⟩ := ZpK r2 m (t2 ▸ c3)
 have t3 := ZqW e3 n3 t2
 obtain ⟨S, l1, e4, n4⟩ := ZpK r3 (nb - m) (t3 ▸ c4)
 clear c0 c1 c2 c3 c4
 subst e4 e3 e2 e1
 clear t0 t1 t2 t3 hLl na1 nb1
 have eP : (arrOf st).toList = l0 ++ (P1 ++ (X ++ (Y ++ (S ++ l1)))) := e0
 have eX : (arrOf st).toList = (l0 ++ P1) ++ (X ++ (Y ++ (S ++ l1))) := by rw [e0]; simp
 have eY : (arrOf st).toList = (l0 ++ P1 ++ X) ++ (Y ++ (S ++ l1)) := by rw [e0]; simp
 have eS : (arrOf st).toList = (l0 ++ P1 ++ X ++ Y) ++ (S ++ l1) := by rw [e0]; simp
 have eXY : (arrOf st).toList = (l0 ++ P1) ++ ((X ++ Y) ++ (S ++ l1)) := by rw [e0]; simp
 have nX : (l0 ++ P1).length = sa + k := by rw [ZaC, n0, n1]
 have nY : (l0 ++ P1 ++ X).length = sb := by rw [ZaC, nX, n2, ar2 esb hk1]
 have nS : (l0 ++ P1 ++ X ++ Y).length = sb + m := by rw [ZaC, nY, n3]
 have fP : ∀ x ∈ P1, le x B0 := fun x hx => by
  obtain ⟨j, hj, ej⟩ := ZkR eP n0 hx
  rw [Zc6] at ej
  have := hk2 j x (n1 ▸ hj) ej
  simpa using this
 have fX : ∀ x ∈ X, le B0 x /\ le x LA := fun x hx => by
  obtain ⟨j, hj, ej⟩ := ZkR eX nX hx
  rw [Zc6, ZbX] at ej
  have := hk3 (k + j) x (by omega) (by omega) ej
  exact ⟨o.of_not (by simpa using this), sA (sa + (k + j)) (sb - 1) x LA (by omega) (by omega) (by omega) ej hLA⟩
 have fY : ∀ y ∈ Y, le B0 y /\ le y LA := fun y hy => by
  obtain ⟨j, hj, ej⟩ := ZkR eY nY hy
  rw [Zc6] at ej
  have := hk5 j y (by omega) ej
  exact ⟨sB sb (sb + j) B0 y (ZbK _) (by omega) (by omega) hB0 ej, o.of_not (by simpa using this)⟩
 have fS : ∀ y ∈ S, le B0 y /\ le LA y := fun y hy => by
  obtain ⟨j, hj, ej⟩ := ZkR eS nS hy
  rw [Zc6, ZbX] at ej
  have := hk6 (m + j) y (by omega) (by omega) ej
  exact ⟨sB sb (sb + (m + j)) B0 y (ZbK _) (by omega) (by omega) hB0 ej, by simpa using this⟩
 have sPX : Srt le (P1 ++ X) := by
  have e : (arrOf st).toList = l0 ++ ((P1 ++ X) ++ (Y ++ (S ++ l1))) := by rw [e0]; simp
  have q := Zmx sA
  rw [show sb = sa + na from esb, ZjD (n := na) e n0 (by rw [ZaC]; omega)] at q
  exact q
 have sYS : Srt le (Y ++ S) := by
  have e : (arrOf st).toList = (l0 ++ P1 ++ X) ++ ((Y ++ S) ++ l1) := by rw [e0]; simp
  have q := Zmx sB
  rw [ZjD (n := nb) e nY (by rw [ZaC]; omega)] at q
  exact q
 rw [Srt, Za6] at sPX sYS
 obtain ⟨sP, sX, sPX⟩ := sPX
 obtain ⟨sY, sS, sYS⟩ := sYS
 have xl : ((arrOf st).extract (sa + k) sb).toList = X := by
  rw [ZhC]
  have := ZjD (n := na - k) eX nX n2
  rw [ar2 esb hk1] at this
  exact this
 have yl : ((arrOf st).extract sb (sb + m)).toList = Y := by
  rw [ZhC]
  exact ZjD eY nY n3
 have xz : ((arrOf st).extract (sa + k) sb).size = na - k := by rw [<- Zc2, xl, n2]
 have yz : ((arrOf st).extract sb (sb + m)).size = m := by rw [<- Zc2, yl, n3]
 have xu : In U ((arrOf st).extract (sa + k) sb) := fun x hx => hU x (by rw [xl] at hx; rw [eX]; simp [hx])
 have yu : In U ((arrOf st).extract sb (sb + m)) := fun x hx => hU x (by rw [yl] at hx; rw [eY]; simp [hx])
 have h0 : ∀ x y, ((arrOf st).extract sb (sb + m))[0]? = some x -> ((arrOf st).extract (sa + k) sb)[0]? = some y -> le x y := fun x y hx hy => by
  rw [<- Zc6, yl, <- Zoh (j := 0) eY nY (n3 ▸ ZbZ z'), Zc6, Zb0, hB0] at hx
  cases hx
  rw [<- Zc6, xl] at hy
  exact (fX y (ZaB hy)).1
 have hl : ∀ x y, x ∈ ((arrOf st).extract sb (sb + m)).toList -> ((arrOf st).extract (sa + k) sb)[((arrOf st).extract (sa + k) sb).size - 1]? = some y -> le x y := fun x y hx hy => by
  rw [<- Zc6, xl, xz, <- Zoh (j := na - k - 1) eX nX (by rw [n2]; exact Nat.sub_lt (ZbZ z) Nat.one_pos), Zc6, ar1 esb hk1 z, hLA] at hy
  cases hy
  rw [yl] at hx
  exact (fY x hx).2
 have fin : ∀ (r : Array Keyed) (g : Nat), Mgd le ((arrOf st).extract (sa + k) sb).toList ((arrOf st).extract sb (sb + m)).toList r.toList -> Q (failedOf st).isNone (SortSt.mk' (kindOf st) (List.foldl (fun (a : Array Keyed) (q : Keyed × Nat) => a.setIfInBounds (sa + k + q.2) q.1) (arrOf st) r.toList.zipIdx) P g (failedOf st)) := fun r g hm => by
  rw [xl, yl] at hm
  have rl := hm.1.length_eq
  clear xz yz nY nS z z'
  have ey := ZkS (sa + k) r.toList (X ++ Y) 0 (arrOf st) (l0 ++ P1) (S ++ l1) eXY nX rl.symm
  obtain ⟨ys, hys⟩ : ∃ ys, List.foldl (fun (a : Array Keyed) (q : Keyed × Nat) => a.setIfInBounds (sa + k + q.2) q.1) (arrOf st) r.toList.zipIdx = ys := ⟨_, rfl⟩
  rw [hys] at ey ⊢
  have hR : ∀ x ∈ r.toList, x ∈ X \/ x ∈ Y := fun x hx => Zah.mp (hm.1.mem_iff.mp hx)
  rw [ZaC] at rl
  refine hh ys g ?_ (fun q hq => ?_) ?_
  ·rw [Zc5, ey, eXY]
   exact (hm.1.append_right _).append_left _
  ·rw [<- Zc6, <- Zc6]
   have E1 : ys.toList = (l0 ++ P1 ++ r.toList ++ S) ++ l1 := by rw [ey]; simp
   have E2 : (arrOf st).toList = (l0 ++ P1 ++ (X ++ Y) ++ S) ++ l1 := by rw [eXY]; simp
   rcases hq with hq | hq
   ·rw [ey, eXY]
    exact (Zaz (by omega)).trans (Zaz (by omega)).symm
   ·rw [E1, E2, Zay (by simp only [ZaC]; omega), Zay (by simp only [ZaC]; omega)]
    congr 1
    simp only [ZaC]
    omega
  ·refine Zqn o ?_
   have E1 : ys.toList = l0 ++ ((P1 ++ (r.toList ++ S)) ++ l1) := by rw [ey]; simp
   have := ZjD (n := na + nb) E1 n0 (by simp only [ZaC]; omega)
   rw [show sb + nb = sa + (na + nb) by omega, this, Srt, Za6, Za6]
   refine ⟨sP, ⟨hm.2, sS, fun x hx y hy => ?_⟩, fun x hx y hy => ?_⟩
   ·rcases hR x hx with hx | hx
    ·exact o.tr _ _ _ (fX x hx).2 (fS y hy).2
    ·exact sYS x hx y hy
   ·rcases Zah.mp hy with hy | hy
    ·rcases hR y hy with hy | hy
     ·exact sPX x hx y hy
     ·exact o.tr _ _ _ (fP x hx) (fY y hy).1
    ·exact o.tr _ _ _ (fP x hx) (fS y hy).1
 refine ifS (fun _ => wpS_bind (Zkf ask o xu yu (by rw [xl]; exact sX) (by rw [yl]; exact sY) (by rw [xz]; exact ZbZ z) (by rw [yz]; exact ZbZ z') h0 hl rfl fun r st' hm hg => ?_)) fun _ => wpS_bind (Zkg ask o xu yu (by rw [xl]; exact sX) (by rw [yl]; exact sY) (by rw [xz]; exact ZbZ z) (by rw [yz]; exact ZbZ z') h0 hl rfl fun r st' hm hg => ?_)
 all_goals
  obtain ⟨g, rfl⟩ := hg
  exact wpS_bind (wpS_modify (wpS_bind (wpS_get (wpS_pure (fin r g hm)))))
end
section
variable {le : Keyed -> Keyed -> Prop}
noncomputable def Rn (le : Keyed -> Keyed -> Prop) (xs : Array Keyed) : Nat -> List (Nat × Nat) -> Nat -> Prop
 | lo, [], hi => lo = hi
 | lo, r :: p, hi => r.1 = lo /\ 1 <= r.2 /\ Sg le xs lo (lo + r.2) /\ Rn le xs (lo + r.2) p hi
theorem Rn.app {xs : Array Keyed} : ∀ {p q : List (Nat × Nat)} {lo hi : Nat}, Rn le xs lo (p ++ q) hi ↔ ∃ m, Rn le xs lo p m /\ Rn le xs m q hi
 | [], q, lo, hi => ⟨fun h => ⟨lo, rfl, h⟩, fun ⟨m, h1, h2⟩ => by cases h1; exact h2⟩
 | r :: p, q, lo, hi => by
  constructor
  ·rintro ⟨h1, h2, h3, h4⟩
   obtain ⟨m, h5, h6⟩ := Rn.app.mp h4
   exact ⟨m, ⟨h1, h2, h3, h5⟩, h6⟩
  ·rintro ⟨m, ⟨h1, h2, h3, h5⟩, h6⟩
   exact ⟨h1, h2, h3, Rn.app.mpr ⟨m, h5, h6⟩⟩
theorem Rn.len {xs : Array Keyed} : ∀ {p : List (Nat × Nat)} {lo hi : Nat}, Rn le xs lo p hi -> lo + p.length <= hi
 | [], lo, hi, h => by cases h; exact ZbK _
 | r :: p, lo, hi, ⟨h1, h2, h3, h4⟩ => by
  have := Rn.len h4
  rw [Zao]
  omega
theorem Sg.congr {xs ys : Array Keyed} {lo hi : Nat} (s : Sg le xs lo hi) (h : ∀ q, lo <= q -> q < hi -> ys[q]? = xs[q]?) : Sg le ys lo hi := fun i j x y h1 h2 h3 hx hy => by
 rw [h i h1 (by omega)] at hx
 rw [h j (by omega) h3] at hy
 exact s i j x y h1 h2 h3 hx hy
theorem Rn.congr {xs ys : Array Keyed} : ∀ {p : List (Nat × Nat)} {lo hi : Nat}, Rn le xs lo p hi -> (∀ q, lo <= q -> q < hi -> ys[q]? = xs[q]?) -> Rn le ys lo p hi
 | [], lo, hi, h, _ => h
 | r :: p, lo, hi, ⟨h1, h2, h3, h4⟩, g => by
  have := Rn.len h4
  exact ⟨h1, h2, h3.congr fun q q1 q2 => g q q1 (by omega), h4.congr fun q q1 q2 => g q (by omega) q2⟩
noncomputable def pj (P : Array (Nat × Nat × Nat)) : List (Nat × Nat) := P.toList.map fun r => (r.1, r.2.1)
theorem Zoi (P : Array (Nat × Nat × Nat)) : (pj P).length = P.size := by unfold pj; rw [Zar, Zc2]
theorem Zmy (P : Array (Nat × Nat × Nat)) (r : Nat × Nat × Nat) : pj (P.push r) = pj P ++ [(r.1, r.2.1)] := by unfold pj; rw [Zc9, ZaO]; rfl
theorem Zqo (P : Array (Nat × Nat × Nat)) (i pw : Nat) : pj (P.modify i fun x => (x.1, x.2.1, pw)) = pj P := by
 unfold pj
 rw [Array.toList_modify]
 apply Zbq
 intro k
 rw [ZaA, ZaA, List.getElem?_modify]
 cases P.toList[k]? with
 | none => rfl
 | some r =>
  obtain ⟨a, b, c⟩ := r
  by_cases e : i = k
  ·simp [e]
  ·simp [e]
end
section
variable {prog : Program} {w : World} {A : Around} {E : Value -> Shared -> Prop} {s : Shared} {le : Keyed -> Keyed -> Prop} {κ : SortKind} {U : List Keyed}
theorem Zie (ask : Ask prog w A s κ U le) (o : Ord le) {xs : Array Keyed} {P : Array (Nat × Nat × Nat)} {g i hi : Nat} {Q : Bool -> SortSt -> Prop} (hU : In U xs) (hs : hi <= xs.size) (h1 : i + 1 < P.size) (hr : Rn le xs 0 (pj P) hi)
  (h : ∀ ys P' g', ys.Perm xs -> (∀ q, hi <= q -> ys[q]? = xs[q]?) -> Rn le ys 0 (pj P') hi -> P'.size + 1 = P.size -> Q true (SortSt.mk' κ ys P' g' none)) : wpS (model prog w) A E s (mergeAt' i) Q (SortSt.mk' κ xs P g none) := by
 obtain ⟨p1, q1, e1, n1⟩ := ZpK P.toList i (by rw [Zc2]; omega)
 have t1 : q1.length = P.size - i := by have := congrArg Zaw e1; rw [ZaC, Zc2] at this; omega
 obtain ⟨r1, q2, rfl⟩ : ∃ r q, q1 = r :: q := by
  cases q1 with
  | nil => rw [ZaG] at t1; omega
  | cons r q => exact ⟨r, q, rfl⟩
 rw [Zao] at t1
 obtain ⟨r2, p2, rfl⟩ : ∃ r q, q2 = r :: q := by
  cases q2 with
  | nil => rw [ZaG] at t1; omega
  | cons r q => exact ⟨r, q, rfl⟩
 obtain ⟨sa, na, pw⟩ := r1
 obtain ⟨sb, nb, pv⟩ := r2
 have hr' := hr
 unfold pj at hr'
 rw [e1, ZaO] at hr'
 obtain ⟨m, g1, ⟨rfl, na1, sA, ⟨hb, nb1, sB, g2⟩⟩⟩ := Rn.app.mp hr'
 dsimp only at na1 sA hb nb1 sB g1 g2
 have G1 := Rn.len g1
 have G2 := Rn.len g2
 refine Zkh ask o (st := SortSt.mk' κ xs P g none) (i := i) (sa := sa) (na := na) (sb := sb) (nb := nb) (pw := pw) (pv := pv) rfl rfl hU ?_ ?_ hb na1 nb1 (show sb + nb <= xs.size by omega) (by rw [hb]; exact sA) (by rw [hb]; exact sB) fun ys g' hp ho hsg => ?_
 ·show P[i]? = _
  rw [<- Zc6, e1, Zay (by omega), n1, ZbY]
  rfl
 ·show P[i + 1]? = _
  rw [<- Zc6, e1, Zay (by omega), n1, Zb1]
  rfl
 have ep : ((P.setIfInBounds i (sa, na + nb, pw)).eraseIdxIfInBounds (i + 1)).toList = p1 ++ (sa, na + nb, pw) :: p2 := by
  rw [Array.toList_eraseIdxIfInBounds, Zdb, e1, <- n1, Zbp _ _ (ZbK _), ZbY, List.set_cons_zero, List.eraseIdx_append_of_length_le (by omega), Zb1]
  rfl
 refine h ys _ g' hp (fun q hq => ho q (.inr (by omega))) ?_ ?_
 ·unfold pj
  rw [ep, ZaO]
  refine Rn.app.mpr ⟨sa, g1.congr fun q _ q2 => ho q (.inl q2), rfl, by show 1 <= na + nb; omega, ?_, ?_⟩
  ·show Sg le ys sa (sa + (na + nb))
   rw [show sa + (na + nb) = sb + nb by omega]
   exact hsg
  ·show Rn le ys (sa + (na + nb)) _ hi
   rw [show sa + (na + nb) = sb + nb by omega]
   rw [hb]
   exact g2.congr fun q q1 _ => ho q (.inr (by omega))
 ·have := congrArg Zaw ep
  rw [Zc2, ZaC, Zao] at this
  rw [this]
  have z := congrArg Zaw e1
  rw [Zc2, ZaC, Zao, Zao] at z
  omega
theorem wpS_sortRunsG (ask : Ask prog w A s κ U le) (o : Ord le) {xs₀ : Array Keyed} {g₀ : Nat} {Q : Unit -> SortSt -> Prop} (hU : In U xs₀)
  (h : ∀ st', (arrOf st').Perm xs₀ -> failedOf st' = none -> Srt le (arrOf st').toList -> Q () st') : wpS (model prog w) A E s sortRuns' Q (SortSt.mk' κ xs₀ #[] g₀ none) := by
 refine wpS_bind (wpS_get ?_)
 dsimp only
 refine wpS_bind (wpS_mono (wpS_forRange
  (I := fun x c st' => ∃ xs P g lo, st' = SortSt.mk' κ xs P g none /\ c = (none, lo) /\ xs.Perm xs₀ /\ Rn le xs 0 (pj P) lo /\ lo <= xs₀.size /\ min x xs₀.size <= lo)
  (Q := fun c st' => ∃ xs P g lo, st' = SortSt.mk' κ xs P g none /\ c = (none, lo) /\ xs.Perm xs₀ /\ Rn le xs 0 (pj P) xs₀.size) ?step ?fin ⟨xs₀, #[], g₀, 0, rfl, rfl, Array.Perm.refl _, rfl, by omega, by omega⟩) ?post)
 case fin =>
  rintro c st' ⟨xs, P, g, lo, rfl, rfl, hp, hr, h1, h2⟩
  have : lo = xs₀.size := by omega
  subst this
  exact ⟨xs, P, g, _, rfl, rfl, hp, hr⟩
 case step =>
  rintro x c st' _ hx ⟨xs, P, g, lo, rfl, rfl, hp, hr, h1, h2⟩
  have sz := hp.size_eq
  dsimp only
  refine ifS (fun z => wpS_pure ⟨xs, P, g, lo, rfl, rfl, hp, ?_⟩) fun z => ?_
  ·have : lo = xs₀.size := by omega
   rw [<- this]
   exact hr
  refine wpS_bind (ZiE ask o (st := SortSt.mk' κ xs P g none) rfl (hU.perm hp) (show lo + (xs₀.size - lo) <= xs.size by omega) (by omega) fun n ys hpm n1 n2 hsg => ?_)
  have hpm : Pm lo xs ys := hpm
  have szy := hpm.size
  dsimp only
  refine ifS (fun zq => wpS_bind (wpS_lift (wpAny_rule ⟨rfl, wpS_bind (ZhD ask o (st := SortSt.mk' κ ys P g none) rfl (hU.perm (hpm.1.trans hp)) (show lo + min (xs₀.size - lo) (minRun' xs₀.size xs₀.size 0) <= ys.size by omega) (show n <= min (xs₀.size - lo) (minRun' xs₀.size xs₀.size 0) from by
   have zq : n < minRun' xs₀.size xs₀.size 0 := zq
   omega) hsg fun zs hpz hsz => ?_)⟩))) fun zq => ?_
  rw [if_neg (by simp)]
  obtain ⟨m, hm⟩ : ∃ m, m = min (xs₀.size - lo) (minRun' xs₀.size xs₀.size 0) := ⟨_, rfl⟩
  have m1 : 1 <= m /\ lo + m <= xs₀.size := by
   have zq : n < minRun' xs₀.size xs₀.size 0 := zq
   omega
  have hpz : Pm lo xs zs := hpm.trans hpz
  have hsz : Sg le zs lo (lo + m) := by rw [hm]; exact hsz
  have hm' : min (xs₀.size - lo) ((sortPriv% PySem.Builtin.minRun) xs₀.size xs₀.size 0) = m := hm.symm
  rw [hm']
  rotate_left
  obtain ⟨m, zs, hm, hzs⟩ : ∃ m zs, m = n /\ zs = ys := ⟨_, _, rfl, rfl⟩
  have m1 : 1 <= m /\ lo + m <= xs₀.size := by omega
  have hpz : Pm lo xs zs := by rw [hzs]; exact hpm
  have hsz : Sg le zs lo (lo + m) := by rw [hzs, hm]; exact hsg
  rw [<- hzs, <- hm]
  all_goals
   have hrz : Rn le zs 0 (pj P) lo := hr.congr fun q _ q2 => hpz.2 q q2
   have hpp := hpz.1.trans hp
   refine wpS_bind (wpS_get ?_)
   dsimp only
   cases hb : (pendingOf (SortSt.mk' κ zs P g none)).back? with
   | none =>
    dsimp only
    refine wpS_bind (wpS_modify (wpS_pure ⟨zs, _, _, _, rfl, rfl, hpp, ?_, m1.2, by omega⟩))
    rw [Zmy]
    exact Rn.app.mpr ⟨lo, hrz, rfl, m1.1, hsz, rfl⟩
   | some r =>
    obtain ⟨s1, n1', p1⟩ := r
    dsimp only
    refine wpS_bind (wpS_mono (wpS_forRange
     (I := fun x c st' => ∃ zs P g, st' = SortSt.mk' κ zs P g none /\ c = (none, ()) /\ zs.Perm xs₀ /\ Rn le zs 0 (pj P) lo /\ Sg le zs lo (lo + m))
     (Q := fun c st' => ∃ zs P g, st' = SortSt.mk' κ zs P g none /\ c = (none, ()) /\ zs.Perm xs₀ /\ Rn le zs 0 (pj P) lo /\ Sg le zs lo (lo + m)) ?mstep (fun c st' hh => hh) ⟨zs, P, g, rfl, rfl, hpp, hrz, hsz⟩) ?mpost)
    case mpost =>
     rintro c st' ⟨zs, P, g, rfl, rfl, hpp, hrz, hsz⟩
     dsimp only
     refine wpS_bind (wpS_modify (wpS_bind (wpS_modify (wpS_pure ⟨zs, _, _, _, rfl, rfl, hpp, ?_, m1.2, by omega⟩))))
     rw [Zmy]
     refine Rn.app.mpr ⟨lo, ?_, rfl, m1.1, hsz, rfl⟩
     show Rn le zs 0 (pj (P.modify _ _)) lo
     rw [Zqo]
     exact hrz
    case mstep =>
     rintro y c st' _ hy ⟨zs, P, g, rfl, rfl, hpp, hrz, hsz⟩
     have szz := hpp.size_eq
     refine wpS_bind (wpS_get ?_)
     dsimp only
     by_cases zp : P.size > 1
     ·rw [if_pos zp]
      obtain ⟨r, hr2⟩ : ∃ r, P[P.size - 2]? = some r := ⟨_, getElem?_pos P (P.size - 2) (by omega)⟩
      obtain ⟨q1, q2, older⟩ := r
      rw [hr2]
      dsimp only
      refine ifS (fun _ => wpS_pure ⟨zs, P, g, rfl, rfl, hpp, hrz, hsz⟩) fun _ => ?_
      refine wpS_bind (Zie ask o (hU.perm hpp) (by omega) (by omega) hrz fun ys P' g' hp' ho' hr' hz' => ?_)
      rw [if_neg (by simp)]
      exact wpS_pure ⟨ys, P', g', rfl, rfl, hp'.trans hpp, hr', hsz.congr fun q q1 _ => ho' q q1⟩
     ·rw [if_neg zp]
      exact wpS_pure ⟨zs, P, g, rfl, rfl, hpp, hrz, hsz⟩
 case post =>
  rintro c st' ⟨xs, P, g, lo, rfl, rfl, hp, hr⟩
  have sz := hp.size_eq
  have rl := Rn.len hr
  rw [Zoi] at rl
  dsimp only
  refine wpS_bind (wpS_mono (wpS_forRange
   (I := fun x c st' => ∃ xs P g, st' = SortSt.mk' κ xs P g none /\ c = (none, ()) /\ xs.Perm xs₀ /\ Rn le xs 0 (pj P) xs₀.size /\ (P.size <= 1 \/ P.size + x <= xs₀.size))
   (Q := fun c st' => ∃ xs P g, st' = SortSt.mk' κ xs P g none /\ c = (none, ()) /\ xs.Perm xs₀ /\ Rn le xs 0 (pj P) xs₀.size /\ P.size <= 1) ?fstep ?ffin ⟨xs, P, g, rfl, rfl, hp, hr, by omega⟩) ?fpost)
  case ffin =>
   rintro c st' ⟨xs, P, g, rfl, rfl, hp, hr, hh⟩
   exact ⟨xs, P, g, rfl, rfl, hp, hr, by omega⟩
  case fstep =>
   rintro x c st' _ hx ⟨xs, P, g, rfl, rfl, hp, hr, hh⟩
   have sz := hp.size_eq
   refine wpS_bind (wpS_get ?_)
   dsimp only
   refine ifS (fun z => wpS_pure ⟨xs, P, g, rfl, rfl, hp, hr, z⟩) fun z => ?_
   have z : ¬ P.size <= 1 := z
   refine wpS_bind (Zie ask o (hU.perm hp) (ZbM sz.symm) ?_ hr fun ys P' g' hp' ho' hr' hz' => ?_)
   ·have ifl : ∀ (b : Prop) [Decidable b], (if b then P.size - 2 - 1 else P.size - 2) + 1 < P.size := fun b _ => by
     by_cases hb : b
     ·rw [if_pos hb]; omega
     ·rw [if_neg hb]; omega
    exact ifl _
   ·rw [if_neg (by simp)]
    exact wpS_pure ⟨ys, P', g', rfl, rfl, hp'.trans hp, hr', by omega⟩
  case fpost =>
   rintro c st' ⟨xs, P, g, rfl, rfl, hp, hr, hh⟩
   have sz := hp.size_eq
   refine wpS_pure (h _ hp rfl ?_)
   show Srt le xs.toList
   have q : Sg le xs 0 xs₀.size := by
    have pl := Zoi P
    cases hpj : pj P with
    | nil =>
     rw [hpj] at hr
     intro i j x y _ _ h3
     rw [<- (show 0 = xs₀.size from hr)] at h3
     omega
    | cons r p =>
     rw [hpj] at hr pl
     rw [Zao] at pl
     have : p = [] := Zbo (by omega)
     subst this
     obtain ⟨_, _, h3, h4⟩ := hr
     rw [<- (show 0 + r.2 = xs₀.size from h4)]
     exact h3
   have := Zmx q
   rw [Zbc, Zbb (by rw [Zc2]; omega)] at this
   exact this
end
end TS.Internal
namespace L2.Internal
open PySem PySem.Spec PyProof.Rows PySem.W
section
variable {prog : Program} {w : World} {A : Around} {E : Value -> Shared -> Prop} {s : Shared} {le : Keyed -> Keyed -> Prop}
def Zmz (prog : Program) (w : World) (A : Around) (le : Keyed -> Keyed -> Prop) (vs : List Value) (s : Shared) : Prop :=
 ∃ κ, (∀ (Q : SortKind -> Shared -> Prop) (E : Value -> Shared -> Prop), Q κ s -> wpAny (model prog w) A (keyKind' vs.toArray) Q E s) /\ TS.Internal.Ask prog w A s κ (vs.zip vs) le
theorem ZnH {a : Addr} {vs : List Value} {n : Nat} {P : PySem.Fin -> Shared -> Prop} (o : TS.Internal.Ord le) (ho : s.heap.get? a = some (seqObj "list" vs.toArray n)) (h2 : 2 <= vs.length) (hz : vs.length <= sizeLine)
  (hk : ∀ h', (∀ b o, b ≠ a -> s.heap.get? b = some o -> h'.get? b = some o) -> Zmz prog w A le vs { s with heap := h' })
  (hq : ∀ out : List Value, out.Perm vs -> out.Pairwise (fun x y => le (x, x) (y, y)) -> P (.done (.ret .none)) { s with heap := sortedHeap s.heap a vs (Za4 out) }) : wpAny (model prog w) A (Builtin.«list.sort» ⟨[.ref a], []⟩) P E s := by
 have lt : a < s.heap.objs.size := Zdk ho
 obtain ⟨e1, g1⟩ : ∃ e1, (s.heap.update a (Obj.mapSeq fun _ => (#[] : Array Value))).get? a = some (seqObj "list" #[] e1) := ⟨_, get?_update_seq ho fun _ => #[]⟩
 have old : ∀ b o, b ≠ a -> s.heap.get? b = some o -> (((s.heap.update a (Obj.mapSeq fun _ => (#[] : Array Value))).push (seqObj "tuple" vs.toArray 0)).push (seqObj "list" #[] 0)).get? b = some o := fun b o nb e =>
  Zdm _ (Zdm _ ((Heap.get?_update_ne _ _ _ _ nb).trans e))
 have g2 : (((s.heap.update a (Obj.mapSeq fun _ => (#[] : Array Value))).push (seqObj "tuple" vs.toArray 0)).push (seqObj "list" #[] 0)).get? a = some (seqObj "list" #[] e1) := Zdm _ (Zdm _ g1)
 obtain ⟨κ, k1, k2⟩ := hk _ old
 rw [list_sort_plain]
 refine wpAny_bind (listItems_at ho rfl (wpAny_bind (listUpdate_at ho rfl ?_ (by rw [ZaJ]; exact hz) (ZbL _))))
 refine wpAny_bind (seqEpoch_at g1 rfl (wpAny_bind (wpAny_newTuple ?_ hz)))
 refine wpAny_bind (wpAny_newList (wpAny_holding ?_) (ZbL _))
 dsimp only
 have n2 : ¬ vs.toArray.size < 2 := by rw [ZaJ]; omega
 rw [if_neg n2, if_neg n2]
 refine wpAny_bind (k1 _ _ ?_)
 have ez : (vs.toArray.zip vs.toArray).toList = vs.zip vs := by simp
 refine wpAny_bind (wpAny_mono (TS.Internal.wpS_sortRunsG (xs₀ := vs.toArray.zip vs.toArray) (g₀ := 7) (Q := fun _ st' => (arrOf st').Perm (vs.toArray.zip vs.toArray) /\ failedOf st' = none /\ TS.Internal.Srt le (arrOf st').toList) k2 o (fun x hx => by rw [ez] at hx; exact hx) fun st' a1 a2 a3 => ⟨a1, a2, a3⟩) ?_ fun _ _ e => e)
 rintro ⟨⟨⟩, st'⟩ s' ⟨rfl, hp, hf, hs⟩
 dsimp only
 have hl : (arrOf st').toList.Perm (vs.zip vs) := by rw [<- ez]; exact Zc5.mp hp
 have eo : (arrOf st').map (·.2) = Za4 ((arrOf st').toList.map Prod.snd) := by
  apply Array.toList_inj.mp
  simp
 rw [eo]
 have po : ((arrOf st').toList.map Prod.snd).Perm vs := by
  have := hl.map Prod.snd
  rwa [List.map_snd_zip (ZbK _)] at this
 have pw : ((arrOf st').toList.map Prod.snd).Pairwise (fun x y => le (x, x) (y, y)) := by
  rw [Zbr]
  refine List.Pairwise.imp_of_mem (fun {x y} hx hy h => ?_) hs
  have dx := (mem_zip_self (hl.mem_iff.mp hx)).1
  have dy := (mem_zip_self (hl.mem_iff.mp hy)).1
  obtain ⟨x1, x2⟩ := x
  obtain ⟨y1, y2⟩ := y
  cases (show x1 = x2 from dx)
  cases (show y1 = y2 from dy)
  exact h
 have hz2 : (Za4 ((arrOf st').toList.map Prod.snd)).size = vs.length := by rw [ZaJ]; exact po.length_eq
 refine wpAny_bind (seqEpoch_at g2 rfl (wpAny_bind (listUpdate_at g2 rfl ?_ (ZbL _) (by rw [hz2]; exact ZbV hz))))
 rw [hf]
 simp only [bne_self_eq_false, Zc0, if_false]
 exact wpAny_pure (hq _ po pw)
theorem Zqp {α : Type} {R : α -> α -> Prop} : ∀ {l : List α}, l.length < 2 -> l.Pairwise R
 | [], _ => .nil
 | [x], _ => by simp
 | _ :: _ :: _, h => by simp only [Zao] at h; omega
theorem Zlx {r : Addr} {F : Heap -> Nat -> List Value -> Prop} {Q : Value -> Shared -> Prop} (o : TS.Internal.Ord le) (hcol : ∀ R : List Value -> Shared -> Prop, (∀ h1 tk vs, F h1 tk vs -> R vs { s with heap := h1, toks := tk }) -> wpAny (model prog w) A.in1 (collect (.ref r)) R E s)
  (hF : ∀ h1 tk vs, F h1 tk vs -> vs.length <= sizeLine /\ (2 <= vs.length -> ∀ h', (∀ b o, h1.get? b = some o -> h'.get? b = some o) -> Zmz prog w A.in1.in1 le vs { s with heap := h', toks := tk }))
  (hq : ∀ h1 tk vs out, F h1 tk vs -> out.Perm vs -> out.Pairwise (fun x y => le (x, x) (y, y)) -> Q (.ref h1.objs.size) { s with heap := sortedHeap (h1.push (seqObj "list" vs.toArray 0)) h1.objs.size vs (Za4 out), toks := tk }) : wpAny (model prog w) A (call (.builtin "sorted") [.ref r]) Q E s := by
 refine Calls.call_function_entry kind_sorted plain_sorted entry_sorted (args_sorted1 _) ?_
 unfold Builtin.«sorted»
 refine wpAny_bind (m := checkCount "sorted" 1 1 _) (wpAny_pure ?_)
 refine wpAny_bind (hcol _ fun h1 tk vs hf => ?_)
 obtain ⟨hz, hs⟩ := hF h1 tk vs hf
 refine wpAny_bind (wpAny_newList ?_ hz)
 have g1 : (h1.push (seqObj "list" vs.toArray 0)).get? h1.objs.size = some (seqObj "list" vs.toArray 0) := Zdl _ rfl
 refine wpAny_bind (wpAny_holding (wpAny_call_entry slot_list_sort ⟨_, g1, rfl⟩ entry_list_sort ?body (args_list_sort _)))
 case body =>
  by_cases h2 : 2 <= vs.length
  ·exact ZnH (s := { s with heap := h1.push (seqObj "list" vs.toArray 0), toks := tk }) o g1 h2 hz (fun h' k => hs h2 h' fun b u e => k b u (ZbG (Zdk e)) (Zdm _ e)) fun out po pw => ⟨_, rfl, wpAny_pure ⟨_, rfl, hq h1 tk vs out hf po pw⟩⟩
  ·exact Zmq (s := { s with heap := h1.push (seqObj "list" vs.toArray 0), toks := tk }) g1 (by omega) ⟨_, rfl, wpAny_pure ⟨_, rfl, hq h1 tk vs vs hf (.refl _) (Zqp (by omega))⟩⟩
end
section
variable {X : Cx}
theorem ZmA : ∀ {ns : List Int} {us : List Value}, Ze0 (ns.map V.int) us -> IntsAre us ns
 | [], _, .nil => .nil
 | x :: ns, _, .cons h r => by
  obtain ⟨t, e⟩ := h
  cases e
  exact .cons x t (ZmA r)
theorem ZmB : bootBuiltins "set" = some (.type "set") := by decide +kernel
end
end L2.Internal
namespace SX.Internal
open PySem
theorem Zki : ∀ (k a b : Nat), 2 ^ k ∣ a * b -> b % 2 = 1 -> 2 ^ k ∣ a
 | 0, a, b, _, _ => by rw [Zb2]; exact Nat.one_dvd _
 | k + 1, a, b, h, hb => by
  obtain ⟨q, hq⟩ := h
  have ha : a % 2 = 0 := by
   have h1 : (a * b) % 2 = 0 := by rw [hq, Zb3, Zb4, Zb5 (2 ^ k), Zb4, Nat.mul_mod_right]
   rw [Nat.mul_mod, hb, Nat.mul_one, Nat.mod_mod] at h1
   exact h1
  obtain ⟨c, rfl⟩ : ∃ c, a = 2 * c := ⟨a / 2, by omega⟩
  have h2 : 2 ^ k ∣ c := Zki k c b ⟨q, by
   have : 2 * (c * b) = 2 * (2 ^ k * q) := by rw [<- Zb4, hq, Zb3]; simp only [Zb4, Zb5, Zb6]
   exact Zb7 (by decide) this⟩ hb
  obtain ⟨d, hd⟩ := h2
  exact ⟨d, by rw [hd, Zb3]; simp only [Zb4, Zb5, Zb6]⟩
noncomputable def sm : Nat -> Nat
 | 0 => 0
 | t + 1 => 5 * sm t + 1
theorem ZmC : ∀ t, 4 * sm t + 1 = 5 ^ t
 | 0 => rfl
 | t + 1 => by
  have := ZmC t
  rw [Zb3, <- this, sm]
  omega
theorem Zoj (u : Nat) : ∀ t, sm (u + t) = 5 ^ t * sm u + sm t
 | 0 => by simp [sm]
 | t + 1 => by
  have ih := Zoj u t
  show 5 * sm (u + t) + 1 = _
  rw [ih, Zb3, sm, Zb5 (5 ^ t) 5, Zb4]
  omega
theorem Zqq (t : Nat) : sm t % 2 = t % 2 := by
 induction t with
 | zero => rfl
 | succ t ih => rw [sm]; omega
theorem Zok : ∀ (k t : Nat), 2 ^ k ∣ sm t -> 2 ^ k ∣ t
 | 0, t, _ => by rw [Zb2]; exact Nat.one_dvd _
 | k + 1, t, h => by
  have he : sm t % 2 = 0 := by
   obtain ⟨q, hq⟩ := h
   rw [hq, Zb3, Zb4, Zb5 (2 ^ k), Zb4, Nat.mul_mod_right]
  rw [Zqq] at he
  obtain ⟨u, rfl⟩ : ∃ u, t = u + u := ⟨t / 2, by omega⟩
  have hs : sm (u + u) = sm u * (5 ^ u + 1) := by rw [Zoj, Nat.mul_add, Nat.mul_one, Zb5]
  have h4 : (5 ^ u + 1) % 4 = 2 := by rw [<- ZmC]; omega
  obtain ⟨o, ho, ho2⟩ : ∃ o, 5 ^ u + 1 = 2 * o /\ o % 2 = 1 := ⟨(5 ^ u + 1) / 2, by omega, by omega⟩
  rw [hs, ho] at h
  have h2 : 2 ^ k ∣ sm u * o := by
   obtain ⟨q, hq⟩ := h
   refine ⟨q, ?_⟩
   have : 2 * (sm u * o) = 2 * (2 ^ k * q) := by
    have e : sm u * (2 * o) = 2 * (sm u * o) := by simp only [Zb4, Zb5, Zb6]
    rw [<- e, hq, Zb3]
    simp only [Zb4, Zb5, Zb6]
   exact Zb7 (by decide) this
  obtain ⟨d, hd⟩ := Zok k u (Zki k _ _ h2 ho2)
  refine ⟨d, ?_⟩
  rw [Zb3]
  have e : 2 ^ k * 2 * d = 2 ^ k * d + 2 ^ k * d := by rw [Zb5 (2 ^ k) 2, Zb4]; omega
  rw [e, <- hd]
noncomputable def fn (M x : Nat) : Nat := (x * 5 + 1) % M
noncomputable def fnN (M : Nat) : Nat -> Nat -> Nat
 | 0, x => x
 | t + 1, x => fn M (fnN M t x)
theorem ZmD (M a : Nat) (x : Nat) : ∀ b, fnN M (a + b) x = fnN M b (fnN M a x)
 | 0 => rfl
 | b + 1 => by
  show fn M (fnN M (a + b) x) = fn M (fnN M b (fnN M a x))
  rw [ZmD M a x b]
theorem Zol {M : Nat} (hM : 0 < M) {x : Nat} (hx : x < M) : ∀ t, fnN M t x < M
 | 0 => hx
 | t + 1 => Zb8 _ hM
theorem Zom (M x : Nat) : ∀ t, fnN M t x % M = (5 ^ t * x + sm t) % M
 | 0 => by simp [fnN, sm]
 | t + 1 => by
  show (fnN M t x * 5 + 1) % M % M = _
  rw [Nat.mod_mod, Nat.add_mod, Nat.mul_mod, Zom M x t, <- Nat.mul_mod, <- Nat.add_mod]
  congr 1
  rw [sm, Zb3, Nat.add_mul]
  have : 5 ^ t * x * 5 = 5 ^ t * 5 * x := by simp only [Zb4, Zb5, Zb6]
  omega
theorem Zqr {k : Nat} {x : Nat} (hx : x < 2 ^ k) {a b : Nat} (hab : a < b) (hb : b < a + 2 ^ k) : fnN (2 ^ k) a x ≠ fnN (2 ^ k) b x := by
 intro e
 have hM : 0 < 2 ^ k := Nat.pow_pos (by decide)
 obtain ⟨d, rfl⟩ : ∃ d, b = a + d := ⟨b - a, by omega⟩
 rw [ZmD] at e
 have hy := Zol hM hx a
 generalize fnN (2 ^ k) a x = y at e hy
 have h1 := Zom (2 ^ k) y d
 rw [<- e, <- ZmC] at h1
 have h2 : (4 * sm d + 1) * y + sm d = sm d * (4 * y + 1) + y := by
  rw [Nat.add_mul, Nat.mul_add, Nat.one_mul, Nat.mul_one]
  have : 4 * sm d * y = sm d * (4 * y) := by simp only [Zb4, Zb5, Zb6]
  omega
 rw [h2] at h1
 have h3 : 2 ^ k ∣ sm d * (4 * y + 1) := by
  have h4 : (sm d * (4 * y + 1) + y - y) % 2 ^ k = 0 := by
   refine Nat.sub_mod_eq_zero_of_mod_eq h1.symm
  rw [Nat.add_sub_cancel] at h4
  exact Nat.dvd_of_mod_eq_zero h4
 have h5 := Zok k d (Zki k _ _ h3 (by omega))
 have := Nat.le_of_dvd (by omega) h5
 omega
def Inc (xs : Array Nat) : Prop := ∀ (i k x y : Nat), i < k -> xs[i]? = some x -> xs[k]? = some y -> x < y
theorem ZiF (xs : Array Nat) (hs : Inc xs) (j : Nat) : ∀ fuel lo hi, lo <= hi -> hi <= xs.size -> hi - lo <= fuel -> (∀ k x, k < lo -> xs[k]? = some x -> x < j) -> (∀ k x, hi <= k -> xs[k]? = some x -> j <= x) ->
  SetTable.below.go xs j fuel lo hi <= xs.size /\ (∀ k x, k < SetTable.below.go xs j fuel lo hi -> xs[k]? = some x -> x < j) /\ ∀ k x, SetTable.below.go xs j fuel lo hi <= k -> xs[k]? = some x -> j <= x
 | 0, lo, hi, h1, h2, h3, h4, h5 => by
  unfold SetTable.below.go
  exact ⟨by omega, h4, fun k x hk => h5 k x (by omega)⟩
 | fuel + 1, lo, hi, h1, h2, h3, h4, h5 => by
  unfold SetTable.below.go
  by_cases hlt : lo < hi
  ·rw [if_pos hlt]
   obtain ⟨y, hy⟩ : ∃ y, xs[(lo + hi) / 2]? = some y := ⟨_, getElem?_pos xs ((lo + hi) / 2) (by omega)⟩
   have hg : xs.getD ((lo + hi) / 2) j = y := by rw [Zdc, hy]; rfl
   dsimp only
   rw [hg]
   by_cases hy2 : y < j
   ·rw [if_pos hy2]
    refine ZiF xs hs j fuel _ _ (by omega) h2 (by omega) (fun k x hk hx => ?_) h5
    by_cases e : k = (lo + hi) / 2
    ·rw [e, hy] at hx; cases hx; exact hy2
    ·have := hs k ((lo + hi) / 2) x y (by omega) hx hy
     omega
   ·rw [if_neg hy2]
    refine ZiF xs hs j fuel _ _ (by omega) (by omega) (by omega) h4 fun k x hk hx => ?_
    by_cases e : k = (lo + hi) / 2
    ·rw [e, hy] at hx; cases hx; omega
    ·have := hs ((lo + hi) / 2) k y x (by omega) hy hx
     omega
  ·rw [if_neg hlt]
   exact ⟨by omega, h4, fun k x hk => h5 k x (by omega)⟩
theorem ZfN {xs : Array Nat} (hs : Inc xs) (j : Nat) : SetTable.below xs j <= xs.size /\ (∀ k x, k < SetTable.below xs j -> xs[k]? = some x -> x < j) /\ ∀ k x, SetTable.below xs j <= k -> xs[k]? = some x -> j <= x :=
 ZiF xs hs j xs.size 0 xs.size (ZbL _) (ZbK _) (by omega) (fun k x h => absurd h (ZbU _)) fun k x hk hx => by
  have := (Zc4.mp hx).1
  omega
theorem ZnI {xs : Array Nat} (hs : Inc xs) {i j : Nat} (h : xs[i]? = some j) : SetTable.below xs j = i := by
 obtain ⟨h1, h2, h3⟩ := ZfN hs j
 by_cases a : i < SetTable.below xs j
 ·have := h2 i j a h
  omega
 ·by_cases b : SetTable.below xs j < i
  ·obtain ⟨y, hy⟩ : ∃ y, xs[SetTable.below xs j]? = some y := ⟨_, getElem?_pos xs _ (by have := (Zc4.mp h).1; omega)⟩
   have := h3 _ y (ZbK _) hy
   have := hs _ i y j b hy h
   omega
  ·omega
theorem len_sub {α : Type} [DecidableEq α] : ∀ (l r : List α), l.Nodup -> (∀ a ∈ l, a ∈ r) -> l.length <= r.length
 | [], _, _, _ => ZbL _
 | a :: l, r, hn, hs => by
  have h1 := Zat.mp hn
  have h2 := len_sub l (r.erase a) h1.2 fun b hb => (List.mem_erase_of_ne (fun e : b = a => h1.1 (e ▸ hb))).mpr (hs b (Zaf _ hb))
  have h3 := Za1 (hs a Zae)
  have h4 := List.length_pos_of_mem (hs a Zae)
  rw [Zao]
  omega
theorem ZnJ {M : Nat} {l : List Nat} (hn : l.Nodup) (hlt : ∀ x ∈ l, x < M) (hl : M <= l.length) {j : Nat} (hj : j < M) : j ∈ l := by
 by_cases h : j ∈ l
 ·exact h
 ·have := len_sub (j :: l) (Zaa M) (Zat.mpr ⟨h, hn⟩) fun a ha => by
   rcases Zag.mp ha with rfl | h'
   ·exact Zac.mpr hj
   ·exact Zac.mpr (hlt a h')
  rw [Zao, Zbs] at this
  omega
noncomputable def adv (c : Nat) (p : SetTable.Probe) : SetTable.Probe :=
 if p.more > 0 then { p with j := p.j + 1, more := p.more - 1 } else
 { p with j := (SetTable.leap c p.i p.perturb).1, more := SetTable.runEnd c (SetTable.leap c p.i p.perturb).1 - (SetTable.leap c p.i p.perturb).1, i := (SetTable.leap c p.i p.perturb).1, perturb := (SetTable.leap c p.i p.perturb).2 }
noncomputable def at0 (c i pt : Nat) : SetTable.Probe := { j := i, more := SetTable.runEnd c i - i, i, perturb := pt, dummy := none }
noncomputable def ZkT (c : Nat) : Nat -> SetTable.Probe -> SetTable.Probe
 | 0, p => p
 | n + 1, p => adv c (ZkT c n p)
theorem Zhq (c a : Nat) (p : SetTable.Probe) : ∀ b, ZkT c (a + b) p = ZkT c b (ZkT c a p)
 | 0 => rfl
 | b + 1 => by
  show adv c (ZkT c (a + b) p) = adv c (ZkT c b (ZkT c a p))
  rw [Zhq c a p b]
noncomputable def way (c : Nat) (h : Int) (n : Nat) : SetTable.Probe := ZkT c n (at0 c (SetTable.bits h % (c + 1)) (SetTable.bits h))
theorem ZkU (c : Nat) (h : Int) (n : Nat) : way c h (n + 1) = adv c (way c h n) := rfl
noncomputable def lpN (c : Nat) : Nat -> Nat -> Nat -> Nat × Nat
 | 0, i, pt => (i, pt)
 | n + 1, i, pt => SetTable.leap c (lpN c n i pt).1 (lpN c n i pt).2
noncomputable def lp (c : Nat) (h : Int) (n : Nat) : Nat × Nat := lpN c n (SetTable.bits h % (c + 1)) (SetTable.bits h)
theorem ZhE {c i : Nat} (h : i <= c) : SetTable.runEnd c i <= c := by
 unfold SetTable.runEnd; split <;> omega
theorem ZhF (c i : Nat) : i <= SetTable.runEnd c i := by
 unfold SetTable.runEnd; split <;> omega
theorem ZnK (c i : Nat) : SetTable.runEnd c i - i <= 9 := by
 unfold SetTable.runEnd; split <;> omega
theorem ZmE (c i pt : Nat) : ∀ k, k <= SetTable.runEnd c i - i -> ZkT c k (at0 c i pt) = { j := i + k, more := SetTable.runEnd c i - i - k, i, perturb := pt, dummy := none }
 | 0, _ => rfl
 | k + 1, h => by
  show adv c (ZkT c k _) = _
  rw [ZmE c i pt k (by omega)]
  unfold adv
  rw [if_pos (show SetTable.runEnd c i - i - k > 0 by omega)]
  show SetTable.Probe.mk _ _ _ _ _ = _
  congr 1
theorem ZmF (c i pt : Nat) : ZkT c (SetTable.runEnd c i - i + 1) (at0 c i pt) = at0 c (SetTable.leap c i pt).1 (SetTable.leap c i pt).2 := by
 show adv c (ZkT c _ _) = _
 rw [ZmE c i pt _ (ZbK _)]
 unfold adv
 rw [if_neg (by simp)]
 rfl
theorem ZmG (c : Nat) (h : Int) : ∀ n, ∃ m, m <= 10 * n /\ way c h m = at0 c (lp c h n).1 (lp c h n).2
 | 0 => ⟨0, ZbK _, rfl⟩
 | n + 1 => by
  obtain ⟨m, h1, h2⟩ := ZmG c h n
  refine ⟨m + (SetTable.runEnd c (lp c h n).1 - (lp c h n).1 + 1), by have := ZnK c (lp c h n).1; omega, ?_⟩
  unfold way at h2 ⊢
  rw [Zhq, h2, ZmF]
  rfl
theorem Zqs (c : Nat) (h : Int) : ∀ n, (lp c h n).1 <= c
 | 0 => Zb9 (Zb8 _ (Zca _))
 | n + 1 => Zb9 (Zb8 _ (Zca _))
theorem Zon (c : Nat) (h : Int) : ∀ n, (way c h n).j + (way c h n).more <= c /\ (way c h n).i <= c
 | 0 => by
  have h0 : SetTable.bits h % (c + 1) <= c := Zb9 (Zb8 _ (Zca _))
  have h1 := ZhE h0
  have h2 := ZhF c (SetTable.bits h % (c + 1))
  exact ⟨by show SetTable.bits h % (c + 1) + (SetTable.runEnd c (SetTable.bits h % (c + 1)) - SetTable.bits h % (c + 1)) <= c; omega, h0⟩
 | n + 1 => by
  have ih := Zon c h n
  rw [ZkU]
  unfold adv
  split
  ·exact ⟨by dsimp only; omega, ih.2⟩
  ·have h0 : (SetTable.leap c (way c h n).i (way c h n).perturb).1 <= c := Zb9 (Zb8 _ (Zca _))
   have h1 := ZhE h0
   have h2 := ZhF c (SetTable.leap c (way c h n).i (way c h n).perturb).1
   exact ⟨by dsimp only; omega, h0⟩
theorem Zo9 (h : Int) : SetTable.bits h < 2 ^ 64 := by unfold SetTable.bits; omega
theorem Zqt (c : Nat) (h : Int) : ∀ n, (lp c h n).2 = SetTable.bits h / 32 ^ n
 | 0 => by show SetTable.bits h = _; rw [Zb2, Nat.div_one]
 | n + 1 => by
  show (lp c h n).2 / 32 = _
  rw [Zqt c h n, Zb3, Zcb]
theorem ZmH (c : Nat) (h : Int) : ∀ t, (lp c h (12 + t)).1 = fnN (c + 1) t (lp c h 12).1
 | 0 => rfl
 | t + 1 => by
  show ((lp c h (12 + t)).1 * 5 + 1 + (lp c h (12 + t)).2 / 32) % (c + 1) = (fnN (c + 1) t (lp c h 12).1 * 5 + 1) % (c + 1)
  have hz : (lp c h (12 + t)).2 / 32 = 0 := by
   rw [Zqt, Zcb, <- Zb3]
   refine Nat.div_eq_of_lt (ZbE (Zo9 h) ?_)
   refine ZbH (show 2 ^ 64 <= 32 ^ 13 by decide) (Nat.pow_le_pow_right (by decide) (by omega))
  rw [hz, ZmH c h t, Zb0]
theorem ZmI {c k : Nat} (hc : c + 1 = 2 ^ k) (h : Int) {j : Nat} (hj : j <= c) : ∃ n, n <= c + 12 /\ (lp c h n).1 = j := by
 have hx : (lp c h 12).1 < 2 ^ k := by have := Zqs c h 12; omega
 have hm : j ∈ (Zaa (2 ^ k)).map fun t => fnN (2 ^ k) t (lp c h 12).1 := by
  refine ZnJ (M := 2 ^ k) ?_ ?_ ?_ (by omega)
  ·rw [Zbt, Zbr]
   refine List.Pairwise.imp_of_mem (fun {a b} ha hb hab => ?_) (Zbu)
   exact Zqr hx hab (by have := Zac.mp hb; omega)
  ·intro x hx'
   obtain ⟨t, _, rfl⟩ := ZaW.mp hx'
   exact Zol (by omega) hx t
  ·rw [Zar, Zbs]; exact ZbK _
 obtain ⟨t, ht, e⟩ := ZaW.mp hm
 have ht := Zac.mp ht
 exact ⟨12 + t, by omega, by rw [ZmH, hc, e]⟩
theorem ZmJ {c k : Nat} (hc : c + 1 = 2 ^ k) (h : Int) {j : Nat} (hj : j <= c) : ∃ m, m <= 10 * (c + 12) /\ (way c h m).j = j := by
 obtain ⟨n, h1, h2⟩ := ZmI hc h hj
 obtain ⟨m, h3, h4⟩ := ZmG c h n
 exact ⟨m, by omega, by rw [h4]; exact h2⟩
theorem ZjE (c : Nat) (h : Int) : ∀ n, (way c h n).dummy = none
 | 0 => rfl
 | n + 1 => by
  rw [ZkU]
  unfold adv
  split <;> exact ZjE c h n
def ZhS (c : Nat) (occ : Nat -> Prop) (h : Int) (j : Nat) : Prop := ∃ m, (way c h m).j = j /\ ∀ m', m' < m -> occ (way c h m').j
theorem ZhS.mono {c : Nat} {o o' : Nat -> Prop} {h : Int} {j : Nat} (hf : ZhS c o h j) (ho : ∀ j, o j -> o' j) : ZhS c o' h j := by
 obtain ⟨m, h1, h2⟩ := hf
 exact ⟨m, h1, fun m' hm => ho _ (h2 m' hm)⟩
def On (t : SetTable) (j : Nat) : Prop := ∃ i : Nat, t.place[i]? = some j
theorem ZjF {t : SetTable} (hi : Inc t.place) {i j : Nat} (h : t.place[i]? = some j) : t.slot j = .live i := by
 unfold SetTable.slot
 dsimp only
 rw [ZnI hi h, h, if_pos (by simp)]
theorem Zly {t : SetTable} (hd : t.dummies = #[]) {j : Nat} (h : ¬On t j) : t.slot j = .empty := by
 unfold SetTable.slot
 dsimp only
 rw [if_neg (fun e => h ⟨_, by simpa using e⟩), if_neg]
 unfold SetTable.has
 rw [hd]
 simp
theorem ZmK {t : SetTable} (hd : t.dummies = #[]) (hi : Inc t.place) (ha : Nat -> Int) (h : Int) : ∀ fuel n,
  (∃ n', n <= n' /\ ¬On t (way t.mask h n').j /\ (∀ m, n <= m -> m < n' -> ∃ i, t.place[i]? = some (way t.mask h m).j /\ ha i ≠ h) /\ SetTable.probe.go t ha h fuel (way t.mask h n) = some (.empty (way t.mask h n').j none)) \/
  (∃ n' i, n <= n' /\ t.place[i]? = some (way t.mask h n').j /\ ha i = h /\ (∀ m, n <= m -> m < n' -> ∃ i, t.place[i]? = some (way t.mask h m).j /\ ha i ≠ h) /\ SetTable.probe.go t ha h fuel (way t.mask h n) = some (.candidate (way t.mask h n').j i (way t.mask h (n' + 1)))) \/
  ∀ m, n <= m -> m < n + fuel -> On t (way t.mask h m).j
 | 0, n => .inr (.inr fun m h1 h2 => by omega)
 | fuel + 1, n => by
  unfold SetTable.probe.go
  by_cases ho : On t (way t.mask h n).j
  ·obtain ⟨i, ho⟩ := ho
   rw [ZjF hi ho]
   dsimp only
   by_cases hh : ha i = h
   ·refine .inr (.inl ⟨n, i, ZbK _, ho, hh, fun m h1 h2 => by omega, ?_⟩)
    rw [if_pos (by simpa using hh)]
    rfl
   ·rw [if_neg (by simpa using hh)]
    have step : ∀ n', (∀ m, n + 1 <= m -> m < n' -> ∃ i, t.place[i]? = some (way t.mask h m).j /\ ha i ≠ h) -> ∀ m, n <= m -> m < n' -> ∃ i, t.place[i]? = some (way t.mask h m).j /\ ha i ≠ h := fun n' g m h1 h2 => by
     by_cases e : m = n
     ·subst e; exact ⟨i, ho, hh⟩
     ·exact g m (by omega) h2
    rcases ZmK hd hi ha h fuel (n + 1) with ⟨n', h1, h2, h3, h4⟩ | ⟨n', i', h1, h2, h3, h4, h5⟩ | h1
    ·exact .inl ⟨n', by omega, h2, step n' h3, h4⟩
    ·exact .inr (.inl ⟨n', i', by omega, h2, h3, step n' h4, h5⟩)
    ·refine .inr (.inr fun m g1 g2 => ?_)
     by_cases e : m = n
     ·subst e; exact ⟨i, ho⟩
     ·exact h1 m (by omega) (by omega)
  ·rw [Zly hd ho]
   refine .inl ⟨n, ZbK _, ho, fun m h1 h2 => by omega, ?_⟩
   dsimp only
   rw [ZjE]
def Oc (ow : Array (Option Nat)) (j : Nat) : Prop := ∃ q : Nat, ow[j]? = some (some q)
theorem ZjG {c : Nat} {ow : Array (Option Nat)} (hz : ow.size = c + 1) (h : Int) : ∀ fuel n m, way c h m = at0 c (lp c h n).1 (lp c h n).2 -> (∀ m', m' < m -> Oc ow (way c h m').j) ->
  (∃ j, SetTable.layClean.free c ow fuel (lp c h n).1 (lp c h n).2 = some j /\ j <= c /\ ¬Oc ow j /\ ZhS c (Oc ow) h j) \/ ∀ n', n <= n' -> n' < n + fuel -> Oc ow (lp c h n').1
 | 0, n, m, _, _ => .inr fun n' h1 h2 => by omega
 | fuel + 1, n, m, hm, ho => by
  unfold SetTable.layClean.free
  have h1 := ZhE (Zqs c h n)
  have h2 := ZhF c (lp c h n).1
  have hw : ∀ k, k <= SetTable.runEnd c (lp c h n).1 - (lp c h n).1 -> (way c h (m + k)).j = (lp c h n).1 + k := fun k hk => by
   have e : way c h (m + k) = ZkT c k (way c h m) := Zhq _ _ _ _
   rw [e, hm, ZmE _ _ _ _ hk]
  have oc : ∀ j, j <= c -> (ow.getD j (some 0)).isNone = false -> Oc ow j := fun j hj e => by
   rw [Zdc, getElem?_pos ow j (by omega)] at e
   cases hq : ow[j]'(by omega) with
   | none => rw [hq] at e; cases e
   | some q => exact ⟨q, by rw [getElem?_pos ow j (by omega), hq]⟩
  cases hf : (Zaa (SetTable.runEnd c (lp c h n).1 + 1 - (lp c h n).1)).find? fun k => (ow.getD ((lp c h n).1 + k) (some 0)).isNone with
  | some k =>
   obtain ⟨g1, g2, g3⟩ := List.find?_range_eq_some.mp hf
   have g2 := Zac.mp g2
   refine .inl ⟨_, rfl, by omega, ?_, m + k, hw k (by omega), fun m' hm' => ?_⟩
   ·rintro ⟨q, hq⟩
    rw [Zdc, hq] at g1
    cases g1
   ·by_cases e : m' < m
    ·exact ho m' e
    ·obtain ⟨k', rfl⟩ : ∃ k', m' = m + k' := ⟨m' - m, by omega⟩
     rw [hw k' (by omega)]
     exact oc _ (by omega) (by simpa using g3 k' (by omega))
  | none =>
   have g := List.find?_range_eq_none.mp hf
   dsimp only
   have oc' : ∀ k, k <= SetTable.runEnd c (lp c h n).1 - (lp c h n).1 -> Oc ow ((lp c h n).1 + k) := fun k hk => oc _ (by omega) (by simpa using g k (by omega))
   rcases ZjG hz h fuel (n + 1) (m + (SetTable.runEnd c (lp c h n).1 - (lp c h n).1 + 1)) (by
    have e : way c h (m + (SetTable.runEnd c (lp c h n).1 - (lp c h n).1 + 1)) = ZkT c _ (way c h m) := Zhq _ _ _ _
    rw [e, hm, ZmF]
    rfl) (fun m' hm' => by
    by_cases e : m' < m
    ·exact ho m' e
    ·obtain ⟨k', rfl⟩ : ∃ k', m' = m + k' := ⟨m' - m, by omega⟩
     rw [hw k' (by omega)]
     exact oc' _ (by omega)) with r | r
   ·exact .inl r
   ·refine .inr fun n' g1 g2 => ?_
    by_cases e : n' = n
    ·subst e
     have := oc' 0 (ZbL _)
     rwa [Zb0] at this
    ·exact r n' (by omega) (by omega)
structure Ow (c : Nat) (hs : List Int) (ow : Array (Option Nat)) (k : Nat) : Prop where
 sz : ow.size = c + 1
 all : ∀ q : Nat, q < k -> ∃ j : Nat, ow[j]? = some (some q)
 one : ∀ j q : Nat, ow[j]? = some (some q) -> q < k /\ ZhS c (Oc ow) (hs.getD q 0) j
 inj : ∀ j j' q : Nat, ow[j]? = some (some q) -> ow[j']? = some (some q) -> j = j'
theorem Ow.free {c k : Nat} {hs : List Int} {ow : Array (Option Nat)} (o : Ow c hs ow k) (hk : k <= c) : ∃ j, j <= c /\ ¬Oc ow j := by
 refine Classical.byContradiction fun z => ?_
 have hz : ∀ j, j <= c -> Oc ow j := fun j hj => Classical.byContradiction fun g => z ⟨j, hj, g⟩
 have := len_sub ((Zaa (c + 1)).map fun j => ((ow.getD j none).getD 0)) (Zaa k) (by
   rw [Zbt, Zbr]
   refine List.Pairwise.imp_of_mem (fun {a b} ha hb hab e => ?_) (Zbu)
   obtain ⟨q, hq⟩ := hz a (by have := Zac.mp ha; omega)
   obtain ⟨q', hq'⟩ := hz b (by have := Zac.mp hb; omega)
   simp only [Zdc, hq, hq', Zci] at e
   subst e
   have := o.inj a b q hq hq'
   omega) (fun a ha => by
   obtain ⟨j, hj, rfl⟩ := ZaW.mp ha
   obtain ⟨q, hq⟩ := hz j (by have := Zac.mp hj; omega)
   simp only [Zdc, hq, Zci]
   exact Zac.mpr (o.one j q hq).1)
 rw [Zar, Zbs, Zbs] at this
 omega
noncomputable def ZmL (c : Nat) (acc : Option (Array (Option Nat) × Nat)) (h : Int) : Option (Array (Option Nat) × Nat) := do
 let (owner, k) <- acc
 let j <- SetTable.layClean.free c owner (SetTable.turns c) (SetTable.bits h % (c + 1)) (SetTable.bits h)
 pure (owner.setIfInBounds j (some k), k + 1)
theorem ZjH {c e : Nat} (hc : c + 1 = 2 ^ e) (hs : List Int) : ∀ (l done : List Int) (ow : Array (Option Nat)), hs = done ++ l -> hs.length <= c -> Ow c hs ow done.length ->
  ∃ ow', l.foldl (ZmL c) (some (ow, done.length)) = some (ow', hs.length) /\ Ow c hs ow' hs.length
 | [], done, ow, eh, _, o => by
  rw [Zas] at eh
  subst eh
  exact ⟨ow, rfl, o⟩
 | h :: l, done, ow, eh, hl, o => by
  have hlen : hs.length = done.length + (l.length + 1) := by rw [eh, ZaC, Zao]
  obtain ⟨j0, hj0, hn0⟩ := o.free (by omega)
  obtain ⟨n0, hn1, hn2⟩ := ZmI hc h hj0
  have hg : hs.getD done.length 0 = h := by
   rw [eh, ZaY, Zay (ZbK _), ZbY]; rfl
  rcases ZjG o.sz h (SetTable.turns c) 0 0 rfl (fun m' hm => absurd hm (ZbU _)) with ⟨j, e1, h2, h3, h4⟩ | r
  ·have e2 : SetTable.layClean.free c ow (SetTable.turns c) (SetTable.bits h % (c + 1)) (SetTable.bits h) = some j := e1
   have hz := o.sz
   have key : ∀ j' q, (ow.setIfInBounds j (some done.length))[j']? = some (some q) ↔ (j' = j /\ q = done.length) \/ ow[j']? = some (some q) := fun j' q => by
    rw [Array.getElem?_setIfInBounds]
    by_cases z : j = j'
    ·subst z
     rw [if_pos rfl, if_pos (by omega)]
     constructor
     ·intro g; simp only [Zce.injEq] at g; exact .inl ⟨rfl, g.symm⟩
     ·rintro (⟨_, rfl⟩ | g)
      ·rfl
      ·exact absurd ⟨q, g⟩ h3
    ·rw [if_neg z]
     constructor
     ·exact .inr
     ·rintro (⟨g, _⟩ | g)
      ·exact absurd g.symm z
      ·exact g
   have mo : ∀ j', Oc ow j' -> Oc (ow.setIfInBounds j (some done.length)) j' := fun j' ⟨q, hq⟩ => ⟨q, (key j' q).mpr (.inr hq)⟩
   obtain ⟨ow', g1, g2⟩ := ZjH hc hs l (done ++ [h]) (ow.setIfInBounds j (some done.length)) (by rw [eh]; simp) hl {
    sz := by rw [Array.size_setIfInBounds, hz]
    all := fun q hq => by
     rw [ZaC, ZaL] at hq
     by_cases z : q < done.length
     ·obtain ⟨j', hj'⟩ := o.all q z
      exact ⟨j', (key j' q).mpr (.inr hj')⟩
     ·exact ⟨j, (key j q).mpr (.inl ⟨rfl, by omega⟩)⟩
    one := fun j' q hq => by
     rw [ZaC, ZaL]
     rcases (key j' q).mp hq with ⟨rfl, rfl⟩ | hq
     ·exact ⟨by omega, by rw [hg]; exact h4.mono mo⟩
     ·exact ⟨by have := (o.one j' q hq).1; omega, (o.one j' q hq).2.mono mo⟩
    inj := fun j1 j2 q q1 q2 => by
     rcases (key j1 q).mp q1 with ⟨z1, y1⟩ | y1 <;> rcases (key j2 _).mp q2 with ⟨z2, y2⟩ | y2
     ·rw [z1, z2]
     ·have := (o.one j2 _ y2).1; omega
     ·have := (o.one j1 _ y1).1; omega
     ·exact o.inj j1 j2 q y1 y2 }
   refine ⟨ow', ?_, g2⟩
   rw [ZaU, <- g1]
   congr 1
   show ZmL c (some (ow, done.length)) h = _
   unfold ZmL
   simp only [Zcj, Option.bind_some, e2]
   rw [ZaC, ZaL]
   rfl
  ·exact absurd (hn2 ▸ r n0 (ZbL _) (by unfold SetTable.turns; omega)) hn0
theorem Zlz {c e : Nat} (hc : c + 1 = 2 ^ e) (hs : Array Int) (hl : hs.size <= c) : ∃ ow, SetTable.layClean c hs = some ow /\ Ow c hs.toList ow hs.size := by
 obtain ⟨ow, h1, h2⟩ := ZjH hc hs.toList hs.toList [] (Zdd (c + 1) none) rfl (by rw [Zc2]; exact hl) {
  sz := Array.size_replicate
  all := fun q hq => absurd hq (ZbU _)
  one := fun j q h => by rw [Zde] at h; split at h <;> cases h
  inj := fun j j' q h => by rw [Zde] at h; split at h <;> cases h }
 rw [Zc2] at h1 h2
 refine ⟨ow, ?_, h2⟩
 have e : SetTable.layClean c hs = (hs.foldl (ZmL c) (some (Zdd (c + 1) none, 0))).map (·.1) := rfl
 rw [e, <- Array.foldl_toList]
 have h1 : hs.toList.foldl (ZmL c) (some (Zdd (c + 1) none, 0)) = some (ow, hs.size) := h1
 rw [h1]
 rfl
theorem ZmM {c e : Nat} (hc : c + 1 = 2 ^ e) (hs : Array Int) (hl : hs.size <= c) (fi mv : Nat) (led pl : Bool) : ∃ (pc od : Array Nat), SetTable.laid c fi mv led pl hs = some (⟨c, pc, #[], fi, led, mv, pl⟩, od) /\ Inc pc /\ pc.size = od.size /\ od.toList.Perm (Zaa hs.size) /\
  ∀ i j q : Nat, pc[i]? = some j -> od[i]? = some q -> j <= c /\ ZhS c (fun j => ∃ i : Nat, pc[i]? = some j) (hs.toList.getD q 0) j := by
 obtain ⟨ow, h1, o⟩ := Zlz hc hs hl
 obtain ⟨L, hL⟩ : ∃ L, (Zaa (c + 1)).filterMap (fun j => (ow.getD j none).map (j, ·)) = L := ⟨_, rfl⟩
 have hm : ∀ p : Nat × Nat, p ∈ L ↔ ow[p.1]? = some (some p.2) := fun p => by
  rw [<- hL, Zam]
  constructor
  ·rintro ⟨j, hj, e⟩
   have hj := Zac.mp hj
   rw [Zdc, getElem?_pos ow j (by have := o.sz; omega)] at e
   cases hq : ow[j]'(by have := o.sz; omega) with
   | none => rw [hq] at e; cases e
   | some q => rw [hq] at e; cases e; rw [getElem?_pos ow j (by have := o.sz; omega), hq]
  ·intro e
   refine ⟨p.1, Zac.mpr ?_, ?_⟩
   ·have := (Zc4.mp e).1
    rw [o.sz] at this; exact this
   ·rw [Zdc, e]; rfl
 have hp : L.Pairwise fun a b => a.1 < b.1 := by
  rw [<- hL, List.pairwise_filterMap]
  refine List.Pairwise.imp_of_mem (fun {a b} ha hb hab x hx y hy => ?_) (Zbu)
  obtain ⟨_, _, rfl⟩ := Zch.mp hx
  obtain ⟨_, _, rfl⟩ := Zch.mp hy
  exact hab
 refine ⟨(L.map (·.1)).toArray, (L.map (·.2)).toArray, ?_, ?_, ?_, ?_, ?_⟩
 ·unfold SetTable.laid
  rw [h1]
  simp only [Zcj, Option.bind_some]
  rw [hL]
  rfl
 ·intro i k x y hik hx hy
  rw [Zbv, ZaA] at hx hy
  obtain ⟨a, ha, rfl⟩ := Zch.mp hx
  obtain ⟨b, hb, rfl⟩ := Zch.mp hy
  obtain ⟨h1, e1⟩ := Zaj.mp ha
  obtain ⟨h2, e2⟩ := Zaj.mp hb
  rw [<- e1, <- e2]
  exact Zbn.mp hp i k h1 h2 hik
 ·simp
 ·show (L.map (·.2)).Perm _
  refine (Zbw ?_ List.nodup_range).mpr fun q => ?_
  ·rw [Zbt, Zbr]
   refine List.Pairwise.imp_of_mem (fun {a b} ha hb hab e => ?_) hp
   have := o.inj a.1 b.1 a.2 ((hm a).mp ha) (by rw [e]; exact (hm b).mp hb)
   omega
  ·rw [Zac, ZaW]
   constructor
   ·rintro ⟨p, hp, rfl⟩
    exact (o.one p.1 p.2 ((hm p).mp hp)).1
   ·intro hq
    obtain ⟨j, hj⟩ := o.all q hq
    exact ⟨(j, q), (hm (j, q)).mpr hj, rfl⟩
 ·intro i j q hj hq
  rw [Zbv, ZaA] at hj hq
  obtain ⟨a, ha, rfl⟩ := Zch.mp hj
  rw [ha] at hq
  cases hq
  have h2 := (hm a).mp (ZaB ha)
  refine ⟨by have := (Zc4.mp h2).1; rw [o.sz] at this; omega, (o.one a.1 a.2 h2).2.mono fun j' ⟨q', hq'⟩ => ?_⟩
  obtain ⟨i', hi'⟩ := Zbf.mp ((hm (j', q')).mpr hq')
  exact ⟨i', by rw [Zbv, ZaA, hi']; rfl⟩
theorem ZiG {α : Type} (xs : Array α) (p : Nat) (x : α) : (SetTable.insertAt xs p x).toList = xs.toList.take p ++ x :: xs.toList.drop p := by
 unfold SetTable.insertAt
 rw [Zc8, Zc9, Zc7, Zc7, Zbk, Zbk, Za7]
 simp
 rw [Zbb (by simp)]
theorem Zgm {α : Type} (xs : Array α) {p : Nat} (hp : p <= xs.size) (x : α) : (SetTable.insertAt xs p x).size = xs.size + 1 := by
 rw [<- Zc2, ZiG, ZaC, Zao, Zax, ZaK, Zc2]
 omega
theorem ZjI {α : Type} (xs : Array α) {p : Nat} (hp : p <= xs.size) (x : α) (i : Nat) : (SetTable.insertAt xs p x)[i]? = if i < p then xs[i]? else if i = p then some x else xs[i - 1]? := by
 rw [<- Zc6, ZiG]
 have hl : (xs.toList.take p).length = p := by rw [Zax, Zc2]; omega
 by_cases h1 : i < p
 ·rw [if_pos h1, Zaz (by omega), Zbg, if_pos h1, Zc6]
 ·rw [if_neg h1, Zay (by omega), hl]
  by_cases h2 : i = p
  ·rw [if_pos h2, h2, ZbY]; rfl
  ·rw [if_neg h2, show i - p = (i - 1 - p) + 1 by omega, ZaX, Zbh, show p + (i - 1 - p) = i - 1 by omega, Zc6]
theorem ZjJ {α β : Type} {xs : Array α} {ys : Array β} {p : Nat} (h1 : p <= xs.size) (h2 : p <= ys.size) {x a : α} {y b : β} {i : Nat} (ha : (SetTable.insertAt xs p x)[i]? = some a) (hb : (SetTable.insertAt ys p y)[i]? = some b) : (a = x /\ b = y) \/ ∃ k : Nat, xs[k]? = some a /\ ys[k]? = some b := by
 rw [ZjI xs h1] at ha
 rw [ZjI ys h2] at hb
 by_cases g1 : i < p
 ·rw [if_pos g1] at ha hb; exact .inr ⟨i, ha, hb⟩
 ·rw [if_neg g1] at ha hb
  by_cases g2 : i = p
  ·rw [if_pos g2] at ha hb; cases ha; cases hb; exact .inl ⟨rfl, rfl⟩
  ·rw [if_neg g2] at ha hb; exact .inr ⟨i - 1, ha, hb⟩
theorem ZnL {α : Type} {xs : Array α} {p : Nat} (hp : p <= xs.size) (x : α) {k : Nat} {a : α} (h : xs[k]? = some a) : ∃ i : Nat, (SetTable.insertAt xs p x)[i]? = some a := by
 by_cases g : k < p
 ·exact ⟨k, by rw [ZjI xs hp, if_pos g]; exact h⟩
 ·exact ⟨k + 1, by rw [ZjI xs hp, if_neg (by omega), if_neg (by omega)]; exact h⟩
def Msk (c : Nat) : Prop := c = 7 \/ c = 31 \/ c = 127 \/ c = 511 \/ c = 2047 \/ c = 8191
theorem Msk.pow {c : Nat} (h : Msk c) : ∃ k, c + 1 = 2 ^ k := by
 rcases h with rfl | rfl | rfl | rfl | rfl | rfl
 ·exact ⟨3, rfl⟩
 ·exact ⟨5, rfl⟩
 ·exact ⟨7, rfl⟩
 ·exact ⟨9, rfl⟩
 ·exact ⟨11, rfl⟩
 ·exact ⟨13, rfl⟩
theorem Msk.odd {c : Nat} (h : Msk c) : c % 2 = 1 /\ c <= 8191 /\ 7 <= c := by rcases h with rfl | rfl | rfl | rfl | rfl | rfl <;> decide
structure TB (es : Array (Int × Value)) (t : SetTable) : Prop where
 msk : Msk t.mask
 dum : t.dummies = #[]
 sz : t.place.size = es.size
 le : es.size <= t.mask
 inc : Inc t.place
 rch : ∀ (i j : Nat) (e : Int × Value), t.place[i]? = some j -> es[i]? = some e -> j <= t.mask /\ ZhS t.mask (On t) e.1 j
theorem TB.fill {es : Array (Int × Value)} {t : SetTable} (b : TB es t) : t.fill = es.size := by
 unfold SetTable.fill
 rw [b.dum, b.sz]
 rfl
theorem TB.fits {es : Array (Int × Value)} {t : SetTable} (b : TB es t) : t.fits es.size = true := by
 unfold SetTable.fits
 rw [b.fill, b.sz]
 simp [b.le]
theorem TB.free {es : Array (Int × Value)} {t : SetTable} (b : TB es t) : ∃ j, j <= t.mask /\ ¬On t j := by
 refine Classical.byContradiction fun z => ?_
 have hz : ∀ j, j <= t.mask -> On t j := fun j hj => Classical.byContradiction fun g => z ⟨j, hj, g⟩
 have := len_sub (Zaa (t.mask + 1)) t.place.toList List.nodup_range fun a ha => by
  obtain ⟨i, hi⟩ := hz a (by have := Zac.mp ha; omega)
  exact Zbf.mpr ⟨i, by rw [Zc6]; exact hi⟩
 rw [Zbs, Zc2, b.sz] at this
 have := b.le
 omega
theorem ZnM (led : Bool) : TB #[] (.fresh 0 0 led) where
 msk := .inl rfl
 dum := rfl
 sz := rfl
 le := ZbL _
 inc := fun i k x y _ hx => by cases (show (#[] : Array Nat)[i]? = some x from hx)
 rch := fun i j e h => by cases (show (#[] : Array Nat)[i]? = some j from h)
theorem Zpa {xs : Array Nat} (h : Inc xs) {i k j : Nat} (hi : xs[i]? = some j) (hk : xs[k]? = some j) : i = k := by
 rcases Nat.lt_trichotomy i k with g | g | g
 ·have := h i k j j g hi hk; omega
 ·exact g
 ·have := h k i j j g hk hi; omega
theorem Zqu {t : SetTable} (hd : t.dummies = #[]) (j : Nat) : t.put j = ({ t with place := SetTable.insertAt t.place (SetTable.below t.place j) j }, SetTable.below t.place j) := by
 unfold SetTable.put
 dsimp only
 rw [if_neg (by unfold SetTable.has; rw [hd]; simp)]
theorem TB.put {es : Array (Int × Value)} {t : SetTable} (b : TB es t) {j : Nat} {e : Int × Value} (hj : j <= t.mask) (hn : ¬On t j) (hf : ZhS t.mask (On t) e.1 j) (hl : es.size + 1 <= t.mask) :
  TB (SetTable.insertAt es (SetTable.below t.place j) e) { t with place := SetTable.insertAt t.place (SetTable.below t.place j) j } := by
 obtain ⟨h1, h2, h3⟩ := ZfN b.inc j
 have h1' : SetTable.below t.place j <= es.size := by rw [<- b.sz]; exact h1
 have on : ∀ j', On t j' -> On { t with place := SetTable.insertAt t.place (SetTable.below t.place j) j } j' := fun j' ⟨i, hi⟩ => ZnL h1 j hi
 refine ⟨b.msk, b.dum, ?_, ?_, ?_, ?_⟩
 ·show (SetTable.insertAt t.place _ j).size = _
  rw [Zgm _ h1, Zgm _ h1', b.sz]
 ·rw [Zgm _ h1']; exact hl
 ·intro i k x y hik hx hy
  have hx : (SetTable.insertAt t.place (SetTable.below t.place j) j)[i]? = some x := hx
  have hy : (SetTable.insertAt t.place (SetTable.below t.place j) j)[k]? = some y := hy
  have no : ∀ q z, SetTable.below t.place j <= q -> t.place[q]? = some z -> j < z := fun q z g1 g2 => by
   have := h3 q z g1 g2
   by_cases e : z = j
   ·exact absurd ⟨q, e ▸ g2⟩ hn
   ·omega
  rw [ZjI _ h1] at hx hy
  by_cases g1 : k < SetTable.below t.place j
  ·rw [if_pos g1] at hy
   rw [if_pos (by omega)] at hx
   exact b.inc i k x y hik hx hy
  ·rw [if_neg g1] at hy
   by_cases g2 : i < SetTable.below t.place j
   ·rw [if_pos g2] at hx
    have hxj := h2 i x g2 hx
    by_cases g3 : k = SetTable.below t.place j
    ·rw [if_pos g3] at hy; cases hy; exact hxj
    ·rw [if_neg g3] at hy
     exact Nat.lt_trans hxj (no (k - 1) y (by omega) hy)
   ·rw [if_neg g2] at hx
    rw [if_neg (by omega)] at hy
    by_cases g3 : i = SetTable.below t.place j
    ·rw [if_pos g3] at hx; cases hx
     exact no (k - 1) y (by omega) hy
    ·rw [if_neg g3] at hx
     exact b.inc (i - 1) (k - 1) x y (by omega) hx hy
 ·intro i j' e' hi he
  rcases ZjJ h1 h1' hi he with ⟨rfl, rfl⟩ | ⟨k, g1, g2⟩
  ·exact ⟨hj, hf.mono on⟩
  ·exact ⟨(b.rch k j' e' g1 g2).1, (b.rch k j' e' g1 g2).2.mono on⟩
theorem Zpb {α : Type} (es : Array α) : ∀ (l : List Nat), (∀ q ∈ l, q < es.size) -> ∀ i : Nat, (l.filterMap (es[·]?))[i]? = (l[i]?).bind (es[·]?)
 | [], _, i => by simp
 | q :: l, h, i => by
  have hq : es[q]? = some (es[q]'(h q Zae)) := getElem?_pos es q _
  rw [Zad, hq]
  cases i with
  | zero => simp [hq]
  | succ i =>
   simp only [ZaX]
   exact Zpb es l (fun q hq => h q (Zaf _ hq)) i
theorem ZnN {α : Type} (es : Array α) : (Zaa es.size).filterMap (es[·]?) = es.toList := by
 apply Zbq
 intro i
 rw [Zpb es _ fun q hq => Zac.mp hq]
 by_cases h : i < es.size
 ·rw [List.getElem?_range h, Zc6]; rfl
 ·rw [Zbx (by simp; omega), Zbx (by simp; omega)]
  rfl
theorem ZhG {α : Type} (es : Array α) {od : Array Nat} (h : od.toList.Perm (Zaa es.size)) : (od.filterMap (es[·]?)).toList.Perm es.toList := by
 rw [Zdf]
 have := h.filterMap (es[·]?)
 rw [ZnN] at this
 exact this
theorem ZmN {α : Type} (es : Array α) {od : Array Nat} (h : od.toList.Perm (Zaa es.size)) (i : Nat) : (od.filterMap (es[·]?))[i]? = (od[i]?).bind (es[·]?) := by
 rw [<- Zc6, Zdf, Zpb es _ fun q hq => Zac.mp (h.mem_iff.mp hq), Zc6]
theorem grow {n c : Nat} (hc : Msk c) (h1 : 3 * c <= 5 * n) (h2 : 5 * n < 3 * c + 5) (hn : n <= 4914) : Msk (SetTable.sizeAbove (SetTable.grown n) - 1) /\ n <= SetTable.sizeAbove (SetTable.grown n) - 1 /\ 5 * n < 3 * (SetTable.sizeAbove (SetTable.grown n) - 1) /\ SetTable.sizeAbove (SetTable.grown n) <= 8192 := by
 rcases hc with rfl | rfl | rfl | rfl | rfl | rfl
 ·obtain rfl : n = 5 := by omega
  have e : SetTable.sizeAbove (SetTable.grown 5) = 32 := by decide +kernel
  rw [e]; exact ⟨.inr (.inl rfl), by omega, by omega, by omega⟩
 ·obtain rfl : n = 19 := by omega
  have e : SetTable.sizeAbove (SetTable.grown 19) = 128 := by decide +kernel
  rw [e]; exact ⟨.inr (.inr (.inl rfl)), by omega, by omega, by omega⟩
 ·obtain rfl : n = 77 := by omega
  have e : SetTable.sizeAbove (SetTable.grown 77) = 512 := by decide +kernel
  rw [e]; exact ⟨.inr (.inr (.inr (.inl rfl))), by omega, by omega, by omega⟩
 ·obtain rfl : n = 307 := by omega
  have e : SetTable.sizeAbove (SetTable.grown 307) = 2048 := by decide +kernel
  rw [e]; exact ⟨.inr (.inr (.inr (.inr (.inl rfl)))), by omega, by omega, by omega⟩
 ·obtain rfl : n = 1229 := by omega
  have e : SetTable.sizeAbove (SetTable.grown 1229) = 8192 := by decide +kernel
  rw [e]; exact ⟨.inr (.inr (.inr (.inr (.inr rfl)))), by omega, by omega, by omega⟩
 ·omega
theorem TB.relaid {es : Array (Int × Value)} {t : SetTable} (b : TB es t) {wt : Nat} (hm : Msk (SetTable.sizeAbove wt - 1)) (hl : es.size <= SetTable.sizeAbove wt - 1) :
  ∃ (t' : SetTable) (od : Array Nat), t.relaid (es.map (·.1)) wt = some (t', od) /\ od.toList.Perm (Zaa es.size) /\ TB (od.filterMap (es[·]?)) t' /\ t'.mask = SetTable.sizeAbove wt - 1 /\ t'.led = t.led /\ t'.plain = t.plain := by
 obtain ⟨k, hk⟩ := hm.pow
 obtain ⟨pc, od, e, h1, h2, h3, h4⟩ := ZmM hk (es.map (·.1)) (by rw [Zc3]; exact hl) t.finger (t.movedTo (SetTable.sizeAbove wt - 1)) t.led t.plain
 rw [Zc3] at h3
 have z : (od.filterMap (es[·]?)).size = es.size := by
  rw [<- Zc2, (ZhG es h3).length_eq, Zc2]
 have zo : od.size = es.size := by rw [<- Zc2, h3.length_eq, Zbs]
 refine ⟨_, od, e, h3, ⟨hm, rfl, ?_, ?_, h1, ?_⟩, rfl, rfl, rfl⟩
 ·show pc.size = _
  rw [h2, z, zo]
 ·rw [z]; exact hl
 ·intro i j e' hi he
  rw [ZmN es h3] at he
  obtain ⟨q, hq, he⟩ := Zck.mp he
  have := h4 i j q hi hq
  rw [ZaY, Zc6, Array.getElem?_map, he] at this
  exact this
end SX.Internal
namespace SX.Internal
open PySem PySem.Spec PyProof.Rows
section
variable {prog : Program} {w : World} {A : Around} {E : Value -> Shared -> Prop} {s : Shared}
noncomputable abbrev TK (prog : Program) (w : World) (h : Heap) (k : List Int) (a : Addr) : Prop := IsTupleKey (intKind prog w) h k a
theorem Zpc (n : Nat) {v : Value} (h : carriedByValue v = true) : ofAClassStatement n v = pure false := by
 cases v with
 | ref a => simp [carriedByValue] at h
 | _ => unfold ofAClassStatement; rfl
theorem Zoo {k : List Int} {a : Addr} {Q : Bool -> Shared -> Prop} (hk : TK prog w s.heap k a) (h : Q false s) : wpAny (model prog w) A (ofAClassStatement 8 (.ref a)) Q E s := by
 have hT := hk.typeIs
 obtain ⟨o, its, n, ho, hc, hd, hi⟩ := hk
 unfold ofAClassStatement
 refine wpAny_bind (wpAny_typeOf hT ?_)
 dsimp only
 refine wpAny_bind (wpAny_pure ?_)
 simp only [Zc1, Zc0, if_false]
 refine wpAny_bind (wpAny_seqItems ho hd ?_)
 dsimp only
 refine wpAny_bind ?_
 rw [<- Array.forIn_toList]
 refine wpAny_forIn_list _ (fun rest r s' => r.1 = none /\ s' = s /\ ∀ v ∈ rest, carriedByValue v = true) _ ?_ ?_ _ _ ⟨rfl, rfl, hi.byValue⟩
 ·rintro v rest r s' ⟨hr, rfl, hall⟩
  rw [Zpc _ (hall v Zae)]
  refine wpAny_bind (wpAny_pure ?_)
  simp only [Zc0, if_false]
  exact wpAny_pure ⟨rfl, rfl, fun u hu => hall u (Zaf _ hu)⟩
 ·rintro ⟨r1, r2⟩ s' ⟨hr, rfl, _⟩
  cases hr
  exact wpAny_pure h
theorem Zpd {x : Addr} {kx : List Int} {l : List Value} {Q : Bool -> Shared -> Prop} (hx : TK prog w s.heap kx x) (hl : ∀ v ∈ l, ∃ b k, v = .ref b /\ TK prog w s.heap k b) (h : Q false s) : wpAny (model prog w) A (searchCouldBeSeen (.ref x) l) Q E s := by
 unfold searchCouldBeSeen
 refine wpAny_bind ?_
 refine wpAny_forIn_list _ (fun rest r s' => r.1 = none /\ s' = s /\ ∀ v ∈ rest, ∃ b k, v = .ref b /\ TK prog w s.heap k b) _ ?_ ?_ _ _ ⟨rfl, rfl, hl⟩
 ·rintro v rest r s' ⟨hr, rfl, hall⟩
  obtain ⟨b, k, rfl, hb⟩ := hall v Zae
  have go : ∀ v ∈ rest, ∃ b k, v = .ref b /\ TK prog w s'.heap k b := fun u hu => hall u (Zaf _ hu)
  dsimp only
  refine wpAny_ite ?_
  split
  ·exact wpAny_pure ⟨rfl, rfl, go⟩
  ·refine wpAny_bind (wpAny_eqIsQuiet_tuple hx ?_)
   simp only [Zc1, Zc0, if_false]
   refine wpAny_bind (wpAny_eqIsQuiet_tuple hb ?_)
   simp only [Zc1, Zc0, if_false]
   refine wpAny_bind (Zoo hx ?_)
   simp only [Zc0, if_false]
   refine wpAny_bind (Zoo hb ?_)
   simp only [Zc0, if_false]
   exact wpAny_pure ⟨rfl, rfl, go⟩
 ·rintro ⟨r1, r2⟩ s' ⟨hr, rfl, _⟩
  cases hr
  exact wpAny_pure h
theorem ZnO {k : List Int} {a : Addr} {Q : Bool -> Shared -> Prop} (hk : TK prog w s.heap k a) (h : Q true s) : wpAny (model prog w) A (hashByValue 8 (.ref a)) Q E s := by
 have hT := hk.typeIs
 obtain ⟨o, its, n, ho, hc, hd, hi⟩ := hk
 unfold hashByValue
 refine wpAny_bind (wpAny_specialOf hT F.slot_tuple_hash.lookup ?_)
 dsimp only
 refine wpAny_bind (wpAny_seqItems ho hd ?_)
 refine wpAny_bind ?_
 show wpAny _ _ (forIn its _ _) _ _ _
 rw [<- Array.forIn_toList]
 refine wpAny_forIn_list _ (fun rest r s' => r.1 = none /\ s' = s /\ ∃ ks, ItemsAre (intKind prog w) ks rest) _ ?_ ?_ _ _ ⟨rfl, rfl, k, hi⟩
 ·rintro v rest r s' ⟨hr, rfl, ks, hall⟩
  cases hall with
  | @cons k' _ ks' _ h1 h2 =>
   obtain ⟨t, rfl⟩ : ∃ t, v = .int k' t := Value.isInt_shape h1
   rw [show hashByValue 7 (.int k' t) = pure true from rfl]
   refine wpAny_bind (wpAny_pure ?_)
   simp only [Zc1, Zc0, if_false]
   exact wpAny_pure ⟨rfl, rfl, ks', h2⟩
 ·rintro ⟨r1, r2⟩ s' ⟨hr, rfl, _⟩
  cases hr
  exact wpAny_pure h
end
section
variable {prog : Program} {w : World} {U : Addr -> Prop} {A : Around} {E : Value -> Shared -> Prop} {s : Shared}
noncomputable def hT (prog : Program) (w : World) (k : List Int) : Int := tupleKeyHash (intKind prog w) k
structure ElT (prog : Program) (w : World) (U : Addr -> Prop) (h : Heap) (es : Array (Int × Value)) (ks : Array (List Int)) : Prop where
 sz : ks.size = es.size
 el : ∀ (i : Nat) (e : Int × Value) (k : List Int), es[i]? = some e -> ks[i]? = some k -> e.1 = hT prog w k /\ ∃ b, e.2 = .ref b /\ U b /\ TK prog w h k b
theorem ElT.at {h : Heap} {es : Array (Int × Value)} {ks : Array (List Int)} (l : ElT prog w U h es ks) {i : Nat} {e : Int × Value} (he : es[i]? = some e) : ∃ k, ks[i]? = some k /\ e.1 = hT prog w k /\ ∃ b, e.2 = .ref b /\ U b /\ TK prog w h k b := by
 have hi := (Zc4.mp he).1
 have hk : ks[i]? = some (ks[i]'(by rw [l.sz]; exact hi)) := getElem?_pos ks i _
 exact ⟨_, hk, l.el i e _ he hk⟩
theorem ElT.to {h : Heap} {es : Array (Int × Value)} {ks : Array (List Int)} (l : ElT prog w U h es ks) {i : Nat} {k : List Int} (hk : ks[i]? = some k) : ∃ e, es[i]? = some e /\ e.1 = hT prog w k /\ ∃ b, e.2 = .ref b /\ U b /\ TK prog w h k b := by
 have hi := (Zc4.mp hk).1
 have he : es[i]? = some (es[i]'(by rw [<- l.sz]; exact hi)) := getElem?_pos es i _
 exact ⟨_, he, l.el i _ k he hk⟩
theorem ZnP {es : Array (Int × Value)} {t : SetTable} (b : TB es t) (ha : Nat -> Int) (h : Int) {n : Nat} (hn : ∀ m, m < n -> On t (way t.mask h m).j) :
  (∃ n', n <= n' /\ ¬On t (way t.mask h n').j /\ (∀ m, n <= m -> m < n' -> ∃ i, t.place[i]? = some (way t.mask h m).j /\ ha i ≠ h) /\ t.probe ha h (way t.mask h n) = some (.empty (way t.mask h n').j none)) \/
  (∃ n' i, n <= n' /\ n' < 10 * (t.mask + 12) /\ t.place[i]? = some (way t.mask h n').j /\ ha i = h /\ (∀ m, n <= m -> m < n' -> ∃ i, t.place[i]? = some (way t.mask h m).j /\ ha i ≠ h) /\ t.probe ha h (way t.mask h n) = some (.candidate (way t.mask h n').j i (way t.mask h (n' + 1)))) := by
 obtain ⟨k, hk⟩ := b.msk.pow
 obtain ⟨j0, h1, h2⟩ := b.free
 obtain ⟨m0, h3, h4⟩ := ZmJ hk h h1
 have h5 : n <= m0 := by
  refine ZbO fun z => h2 ?_
  rw [<- h4]
  exact hn m0 z
 unfold SetTable.probe
 rcases ZmK b.dum b.inc ha h (10 * SetTable.turns t.mask) n with g | ⟨n', i, g1, g2, g3, g4, g5⟩ | g
 ·exact .inl g
 ·refine .inr ⟨n', i, g1, ?_, g2, g3, g4, g5⟩
  refine ZbE (Zcc fun z => h2 ?_) h3
  rw [<- h4]
  by_cases e : m0 = n'
  ·exact ⟨i, by rw [e]; exact g2⟩
  ·obtain ⟨i', hi', _⟩ := g4 m0 h5 (by omega)
   exact ⟨i', hi'⟩
 ·exact absurd (h4 ▸ g m0 h5 (by unfold SetTable.turns; omega)) h2
theorem ZmO {M : Model} {y : Addr} {Q : Bool -> Shared -> Prop} (h : Q true s) : wpAny M A (isSame (.ref y) (.ref y)) Q E s := by
 show wpAny M A (if (y == y) = true then pure true else _) Q E s
 rw [if_pos (by simp)]
 exact wpAny_pure h
theorem ZjK {a x : Addr} {o : Obj} {es : Array (Int × Value)} {ep : Nat} {t : SetTable} {ks : Array (List Int)} {kx : List Int} {Q : SetFound -> Shared -> Prop}
  (hu : A.units < cLine) (ho : s.heap.get? a = some o) (hd : o.data = .set es ep t) (b : TB es t) (l : ElT prog w U s.heap es ks) (hx : TK prog w s.heap kx x)
  (h1 : (∃ i : Nat, ks[i]? = some kx) -> Q (.there none) s) (h2 : ∀ j, (∀ i : Nat, ks[i]? ≠ some kx) -> j <= t.mask -> ¬On t j -> ZhS t.mask (On t) (hT prog w kx) j -> Q (.free j false) s) :
  ∀ fuel n (st : Option SetTable.Probe), st.getD (t.probeStart (hT prog w kx)) = way t.mask (hT prog w kx) n -> 10 * (t.mask + 12) < n + fuel ->
   (∀ m, m < n -> ∃ i : Nat, t.place[i]? = some (way t.mask (hT prog w kx) m).j /\ ks[i]? ≠ some kx) ->
   wpAny (model prog w) A (setSearchFrom a (.ref x) (hT prog w kx) true fuel st) Q E s
 | 0, n, st, hs, hf, hn => by
  obtain ⟨k, hk⟩ := b.msk.pow
  obtain ⟨j0, g1, g2⟩ := b.free
  obtain ⟨m0, g3, g4⟩ := ZmJ hk (hT prog w kx) g1
  obtain ⟨i, hi, _⟩ := hn m0 (by omega)
  exact absurd ⟨i, g4 ▸ hi⟩ g2
 | fuel + 1, n, st, hs, hf, hn => by
  unfold setSearchFrom
  refine wpAny_bind (wpAny_setState_of ho hd b.fits ?_)
  dsimp only
  rw [if_neg (by unfold SetTable.gaveWay; have := b.msk.odd.1; simp [this])]
  rw [hs]
  have hon : ∀ m, m < n -> On t (way t.mask (hT prog w kx) m).j := fun m hm => (hn m hm).imp fun i h => h.1
  have key : ∀ (ha : Nat -> Int), (∀ (i : Nat) (e : Int × Value), es[i]? = some e -> ha i = e.1) -> ∀ n', n <= n' -> (∀ m, n <= m -> m < n' -> ∃ i, t.place[i]? = some (way t.mask (hT prog w kx) m).j /\ ha i ≠ hT prog w kx) -> ∀ m, m < n' -> ∃ i : Nat, t.place[i]? = some (way t.mask (hT prog w kx) m).j /\ ks[i]? ≠ some kx := fun ha hha n' _ g m hm => by
   by_cases z : m < n
   ·exact hn m z
   ·obtain ⟨i, g1, g2⟩ := g m (by omega) hm
    refine ⟨i, g1, fun e => g2 ?_⟩
    obtain ⟨e', f1, f2, _⟩ := l.to e
    rw [hha i e' f1, f2]
  have use : ∀ (ha : Nat -> Int) (met : Option SetTable.Met), t.probe ha (hT prog w kx) (way t.mask (hT prog w kx) n) = met -> (∀ (i : Nat) (e : Int × Value), es[i]? = some e -> ha i = e.1) ->
    (∃ j, met = some (.empty j none) /\ (∀ i : Nat, ks[i]? ≠ some kx) /\ j <= t.mask /\ ¬On t j /\ ZhS t.mask (On t) (hT prog w kx) j) \/
    (∃ n' i e, n <= n' /\ n' < 10 * (t.mask + 12) /\ t.place[i]? = some (way t.mask (hT prog w kx) n').j /\ es[i]? = some e /\ e.1 = hT prog w kx /\ (∀ m, m < n' -> ∃ i : Nat, t.place[i]? = some (way t.mask (hT prog w kx) m).j /\ ks[i]? ≠ some kx) /\ met = some (.candidate (way t.mask (hT prog w kx) n').j i (way t.mask (hT prog w kx) (n' + 1)))) := fun ha met em hha => by
   rcases ZnP b ha (hT prog w kx) hon with ⟨n', g1, g2, g3, g4⟩ | ⟨n', i, g1, g2, g3, g4, g5, g6⟩
   ·have g5 := key ha hha n' g1 g3
    refine .inl ⟨_, em.symm.trans g4, fun i hi => ?_, by have := (Zon t.mask (hT prog w kx) n').1; omega, g2, n', rfl, fun m hm => (g5 m hm).imp fun i h => h.1⟩
    obtain ⟨e, f1, f2, _⟩ := l.to hi
    have hp : t.place[i]? = some (t.place[i]'(by rw [b.sz]; exact (Zc4.mp f1).1)) := getElem?_pos t.place i _
    obtain ⟨m1, r1, r2⟩ := (b.rch i _ e hp f1).2
    rw [f2] at r1 r2
    have hlt : m1 < n' := by
     refine Zcc fun z => g2 ?_
     by_cases q : n' = m1
     ·exact ⟨i, by rw [hp, q, r1]⟩
     ·exact r2 n' (by omega)
    obtain ⟨i', q1, q2⟩ := g5 m1 hlt
    rw [r1] at q1
    exact q2 (Zpa b.inc hp q1 ▸ hi)
   ·have hi : i < es.size := by rw [<- b.sz]; exact (Zc4.mp g3).1
    have he : es[i]? = some (es[i]'hi) := getElem?_pos es i _
    exact .inr ⟨n', i, _, g1, g2, g3, he, by rw [<- hha i _ he]; exact g4, key ha hha n' g1 g5, em.symm.trans g6⟩
  split
  rename_i met em
  ·rcases use _ _ em (fun i e he => by show (es[i]?.map (·.1)).getD 0 = e.1; rw [he]; rfl) with ⟨j, e, g1, g2, g3, g4⟩ | ⟨n', i, e, g1, g2, g3, g4, g5, g6, g7⟩
   ·cases e
    dsimp only
    exact wpAny_pure (h2 j g1 g2 g3 g4)
   ·cases g7
    obtain ⟨ky, q1, q2, y, q3, _, q4⟩ := l.at g4
    have hl : ∀ v ∈ ((es.filter (·.1 == hT prog w kx)).toList.map (·.2)), ∃ b k, v = .ref b /\ TK prog w s.heap k b := fun v hv => by
     obtain ⟨e', he', rfl⟩ := ZaW.mp hv
     rw [Array.toList_filter] at he'
     obtain ⟨i', hi'⟩ := Zbf.mp (Zab.mp he').1
     rw [Zc6] at hi'
     obtain ⟨k', _, _, b', r1, _, r2⟩ := l.at hi'
     exact ⟨b', k', r1, r2⟩
    obtain ⟨eh, ev⟩ := e
    cases (show ev = .ref y from q3)
    dsimp only
    cases hled : t.led
    rw [if_pos (show (!false) = true from rfl)]
    refine wpAny_bind (Zpd hx hl ?_)
    rw [if_neg (by decide)]
    rotate_left
    rw [if_neg (show ¬(!true) = true by decide)]
    all_goals
     rw [g4]
     dsimp only
     refine wpAny_bind (wpAny_holding (wpAny_eqBool_tuple hu q4 hx ?_))
     refine wpAny_bind (wpAny_setState_of ho hd b.fits ?_)
     dsimp only
     by_cases hk : ky = kx
     ·rw [decide_eq_true hk, if_pos (by rfl)]
      exact wpAny_pure (h1 ⟨i, hk ▸ q1⟩)
     ·rw [decide_eq_false hk, if_neg (by decide), show t.sameMemory t.moves t.mask = some true by unfold SetTable.sameMemory; rw [if_pos (by simp)]]
      dsimp only
      rw [if_pos rfl, ZjF b.inc g3]
      dsimp only
      rw [g4]
      dsimp only
      refine wpAny_bind (ZmO ?_)
      refine wpAny_bind (wpAny_pure ?_)
      rw [if_pos rfl]
      dsimp only
      rw [if_neg (by decide)]
      refine ZjK hu ho hd b l hx h1 h2 fuel (n' + 1) _ rfl (by omega) fun m hm => ?_
      by_cases z : m = n'
      ·subst z
       exact ⟨i, g3, fun e => hk (Zce.inj (q1.symm.trans e))⟩
      ·exact g6 m (by omega)
  ·rename_i em
   rcases use _ _ rfl (fun i e he => by show (es[i]?.map (·.1)).getD 0 = e.1; rw [he]; rfl) with ⟨j, e, _⟩ | ⟨n', i, e, _, _, _, _, _, _, g7⟩
   ·exact (em _ e).elim
   ·exact (em _ g7).elim
end
section
variable {prog : Program} {w : World} {U : Addr -> Prop} {A : Around} {E : Value -> Shared -> Prop} {s : Shared}
def ZlM (prog : Program) (w : World) (U : Addr -> Prop) (h : Heap) (a : Addr) (S : List (List Int)) : Prop :=
 ∃ o es ep t ks, h.get? a = some o /\ o.ExactSet /\ o.data = .set es ep t /\ TB es t /\ 5 * es.size < 3 * t.mask /\ t.plain = true /\ t.led = !w.params.followText "set-order" /\ ElT prog w U h es ks /\ ks.toList.Perm S
theorem TK.keep {h h' : Heap} {k : List Int} {b a : Addr} {o : Obj} {es ep t} (x : TK prog w h k b) (ho : h.get? a = some o) (hd : o.data = .set es ep t) (hs : Heap.SameBut a h h') : TK prog w h' k b := by
 obtain ⟨o', its, n, ho', hc, hd', hi⟩ := x
 refine ⟨o', its, n, (hs.2 b ?_).trans ho', hc, hd', hi⟩
 rintro rfl
 cases ho.symm.trans ho'
 rw [hd] at hd'
 cases hd'
theorem ElT.keep {h h' : Heap} {es : Array (Int × Value)} {ks : Array (List Int)} {a : Addr} {o : Obj} {es' ep t} (l : ElT prog w U h es ks) (ho : h.get? a = some o) (hd : o.data = .set es' ep t) (hs : Heap.SameBut a h h') : ElT prog w U h' es ks :=
 ⟨l.sz, fun i e k he hk => ⟨(l.el i e k he hk).1, (l.el i e k he hk).2.imp fun b hb => ⟨hb.1, hb.2.1, hb.2.2.keep ho hd hs⟩⟩⟩
theorem ElT.put {h : Heap} {es : Array (Int × Value)} {ks : Array (List Int)} (l : ElT prog w U h es ks) {p : Nat} (hp : p <= es.size) {k : List Int} {x : Addr} (hU : U x) (hx : TK prog w h k x) : ElT prog w U h (SetTable.insertAt es p (hT prog w k, .ref x)) (SetTable.insertAt ks p k) := by
 have hp' : p <= ks.size := by rw [l.sz]; exact hp
 refine ⟨by rw [Zgm _ hp, Zgm _ hp', l.sz], fun i e k' he hk => ?_⟩
 rcases ZjJ hp hp' he hk with ⟨rfl, rfl⟩ | ⟨i', g1, g2⟩
 ·exact ⟨rfl, x, rfl, hU, hx⟩
 ·exact l.el i' e k' g1 g2
theorem ElT.anew {h : Heap} {es : Array (Int × Value)} {ks : Array (List Int)} (l : ElT prog w U h es ks) {od : Array Nat} (hp : od.toList.Perm (Zaa es.size)) : ElT prog w U h (od.filterMap (es[·]?)) (od.filterMap (ks[·]?)) := by
 have hp' : od.toList.Perm (Zaa ks.size) := by rw [l.sz]; exact hp
 refine ⟨?_, fun i e k he hk => ?_⟩
 ·rw [<- Zc2, (ZhG ks hp').length_eq, <- Zc2, (ZhG es hp).length_eq, Zc2, Zc2, l.sz]
 ·rw [ZmN es hp] at he
  rw [ZmN ks hp'] at hk
  obtain ⟨q, hq, he⟩ := Zck.mp he
  rw [hq] at hk
  exact l.el q e k he hk
theorem ZmP {h : Heap} {a : Addr} {o : Obj} {es ep t} (es' : Array (Int × Value)) (t' : SetTable) (ho : h.get? a = some o) (hd : o.data = .set es ep t) : (h.update a (Obj.putSet es' t')).get? a = some { o with data := .set es' (ep + 1) t' } := by
 have e := putSet_of es' t' hd
 exact e ▸ Zdo (Obj.putSet es' t') ho (e ▸ rfl)
theorem ZnQ {α : Type} (xs : Array α) (p : Nat) (x : α) : (SetTable.insertAt xs p x).toList.Perm (x :: xs.toList) := by
 rw [ZiG]
 refine List.perm_middle.trans (List.Perm.cons x ?_)
 rw [Za5]
theorem Zqv {a x : Addr} {S : List (List Int)} {kx : List Int} {Q : Bool -> Shared -> Prop} (hu : A.units < cLine) (hS : ZlM prog w U s.heap a S) (hU : U x) (hx : TK prog w s.heap kx x) (hn : S.length + 1 <= 4914)
  (h1 : kx ∈ S -> Q false s) (h2 : kx ∉ S -> ∀ h', Heap.SameBut a s.heap h' -> ZlM prog w U h' a (kx :: S) -> Q true { s with heap := h' }) (fuel : Nat) : wpAny (model prog w) A (setAddHashedIn a (.ref x) (hT prog w kx) (fuel + 1)) Q E s := by
 obtain ⟨o, es, ep, t, ks, ho, hex, hd, b, hr, hp, hled, l, pm⟩ := hS
 have hz : es.size = S.length := by rw [<- l.sz, <- Zc2, pm.length_eq]
 unfold setAddHashedIn
 refine wpAny_bind (wpAny_setState_of ho hd b.fits ?_)
 dsimp only
 rw [if_neg (by unfold byScan; simp [Value.scannable])]
 unfold setSearch
 refine wpAny_bind (ZjK hu ho hd b l hx ?_ ?_ 100000 0 none rfl (by have := b.msk.odd; omega) fun m hm => absurd hm (ZbU _))
 ·rintro ⟨i, hi⟩
  dsimp only
  exact wpAny_pure (h1 (pm.mem_iff.mp (Zbf.mpr ⟨i, by rw [Zc6]; exact hi⟩)))
 ·intro j hni hj hon hf
  have hS : kx ∉ S := fun hm => by
   obtain ⟨i, hi⟩ := Zbf.mp (pm.mem_iff.mpr hm)
   rw [Zc6] at hi
   exact hni i hi
  dsimp only
  refine wpAny_bind (wpAny_setState_of ho hd b.fits ?_)
  dsimp only
  rw [Zqu b.dum]
  dsimp only
  rw [if_pos hp]
  refine wpAny_bind (ZnO hx ?_)
  rw [if_pos rfl]
  have hm := b.msk.odd
  have b' := b.put (e := (hT prog w kx, .ref x)) hj hon hf (by omega)
  have hbl : SetTable.below t.place j <= es.size := by rw [<- b.sz]; exact (ZfN b.inc j).1
  have l' := l.put hbl hU hx
  have z' := Zgm es hbl (hT prog w kx, .ref x)
  have pm' : (SetTable.insertAt ks (SetTable.below t.place j) kx).toList.Perm (kx :: S) := (ZnQ ks _ kx).trans (pm.cons kx)
  refine wpAny_bind (wpAny_storeSet_of ho hd ?_ (by rw [z', sizeLine_eq]; omega))
  have sb := Heap.SameBut.update s.heap a (Obj.putSet (SetTable.insertAt es (SetTable.below t.place j) (hT prog w kx, .ref x)) { t with place := SetTable.insertAt t.place (SetTable.below t.place j) j })
  have g : (s.heap.update a (Obj.putSet (SetTable.insertAt es (SetTable.below t.place j) (hT prog w kx, .ref x)) { t with place := SetTable.insertAt t.place (SetTable.below t.place j) j })).get? a = some { o with data := .set (SetTable.insertAt es (SetTable.below t.place j) (hT prog w kx, .ref x)) (ep + 1) { t with place := SetTable.insertAt t.place (SetTable.below t.place j) j } } := ZmP _ _ ho hd
  generalize s.heap.update a (Obj.putSet (SetTable.insertAt es (SetTable.below t.place j) (hT prog w kx, .ref x)) { t with place := SetTable.insertAt t.place (SetTable.below t.place j) j }) = H at sb g ⊢
  have l1 := l'.keep ho hd sb
  have hf1 := b'.fill
  have hmk : ({ t with place := SetTable.insertAt t.place (SetTable.below t.place j) j } : SetTable).mask = t.mask := rfl
  have hpl : ({ t with place := SetTable.insertAt t.place (SetTable.below t.place j) j } : SetTable).plain = true := hp
  have hle : ({ t with place := SetTable.insertAt t.place (SetTable.below t.place j) j } : SetTable).led = !w.params.followText "set-order" := hled
  generalize SetTable.insertAt es (SetTable.below t.place j) (hT prog w kx, .ref x) = es1 at *
  generalize ({ t with place := SetTable.insertAt t.place (SetTable.below t.place j) j } : SetTable) = t1 at *
  generalize SetTable.insertAt ks (SetTable.below t.place j) kx = ks1 at *
  by_cases ht : t1.tooFull = true
  ·rw [ht, if_pos (by rfl)]
   unfold SetTable.tooFull at ht
   rw [hf1, hmk] at ht
   have ht := of_decide_eq_true ht
   obtain ⟨r1, r2, r3, r4⟩ := grow (n := es.size + 1) b.msk (by omega) (by omega) (by omega)
   obtain ⟨t2, od, e2, p2, b2, m2, le2, pl2⟩ := b'.relaid r1 (by omega)
   unfold setRelay
   refine wpAny_bind (wpAny_bind (wpAny_setState_of g rfl b'.fits ?_))
   dsimp only
   rw [if_neg (by rw [sizeLine_eq]; omega), e2]
   refine wpAny_bind (wpAny_ite ?_)
   have z2 : (od.filterMap (es1[·]?)).size = es1.size := by rw [<- Zc2, (ZhG es1 p2).length_eq, Zc2]
   rw [if_neg (by simp [z2])]
   refine wpAny_pure ?_
   dsimp only
   refine wpAny_storeSet_of g rfl ?_ (by rw [z2, z', sizeLine_eq]; omega)
   refine wpAny_pure (h2 hS _ (sb.trans (Heap.SameBut.update _ a _)) ⟨_, _, _, t2, _, ZmP _ _ g rfl, ⟨hex.1, hex.2.1, hex.2.2⟩, rfl, b2, by rw [z2, m2, z']; exact r3, pl2.trans hpl, le2.trans hle, (l1.anew p2).keep g rfl (Heap.SameBut.update _ a _), ?_⟩)
   exact (ZhG ks1 (by rw [l1.sz]; exact p2)).trans pm'
  ·rw [Bool.eq_false_iff.mpr ht, if_neg (by simp)]
   unfold SetTable.tooFull at ht
   rw [hf1, hmk] at ht
   have ht := of_decide_eq_false (Bool.eq_false_iff.mpr ht)
   exact wpAny_pure (h2 hS H sb ⟨_, es1, ep + 1, t1, ks1, g, ⟨hex.1, hex.2.1, hex.2.2⟩, rfl, b', by rw [hmk]; omega, hpl, hle, l1, pm'⟩)
end
section
variable {prog : Program} {w : World} {U : Addr -> Prop} {A : Around} {E : Value -> Shared -> Prop} {s : Shared}
noncomputable def Znj (acc : List (List Int)) (k : List Int) : List (List Int) := if k ∈ acc then acc else k :: acc
noncomputable def ZkV (ks : List (List Int)) (i : Nat) : List (List Int) := (ks.take i).foldl Znj []
theorem ZjL {ks : List (List Int)} {i : Nat} {k : List Int} (h : ks[i]? = some k) : ZkV ks (i + 1) = Znj (ZkV ks i) k := by
 unfold ZkV
 rw [Zbj, h, List.foldl_append]
 rfl
theorem ZmQ (acc : List (List Int)) (k : List Int) (hn : acc.Nodup) : (Znj acc k).Nodup /\ ∀ x, x ∈ Znj acc k ↔ x ∈ acc \/ x = k := by
 unfold Znj
 by_cases h : k ∈ acc
 ·rw [if_pos h]
  exact ⟨hn, fun x => ⟨.inl, fun z => z.elim id fun e => e ▸ h⟩⟩
 ·rw [if_neg h]
  exact ⟨Zat.mpr ⟨h, hn⟩, fun x => by rw [Zag]; exact Or.comm⟩
theorem ZjM : ∀ (l acc : List (List Int)), acc.Nodup -> (l.foldl Znj acc).Nodup /\ ∀ x, x ∈ l.foldl Znj acc ↔ x ∈ acc \/ x ∈ l
 | [], acc, h => ⟨h, fun x => by simp⟩
 | k :: l, acc, h => by
  obtain ⟨h1, h2⟩ := ZmQ acc k h
  obtain ⟨h3, h4⟩ := ZjM l (Znj acc k) h1
  refine ⟨h3, fun x => ?_⟩
  rw [ZaU, h4, h2, Zag, or_assoc]
theorem seen_spec (ks : List (List Int)) (i : Nat) : (ZkV ks i).Nodup /\ ∀ x, x ∈ ZkV ks i ↔ x ∈ ks.take i := by
 obtain ⟨h1, h2⟩ := ZjM (ks.take i) [] ZaI
 exact ⟨h1, fun x => by rw [ZkV, h2]; simp⟩
section
variable {R : Result -> Shared -> Prop} {I : Addr} {fp wr : List Addr} {G : Array GenState -> Array GenState -> Prop} {n : Nat} {P : Nat -> Value -> Prop} {St : Nat -> Shared -> Prop}
theorem ZlM.same {h h' : Heap} {a : Addr} {S : List (List Int)} (x : ZlM prog w U h a S) (hk : ∀ b o, b = a \/ o.cls = .type "tuple" -> h.get? b = some o -> h'.get? b = some o) : ZlM prog w U h' a S := by
 obtain ⟨o, es, ep, t, ks, ho, hex, hd, b, hr, hp, hled, l, pm⟩ := x
 refine ⟨o, es, ep, t, ks, hk a o (.inl rfl) ho, hex, hd, b, hr, hp, hled, ⟨l.sz, fun i e k he hk' => ⟨(l.el i e k he hk').1, (l.el i e k he hk').2.imp fun b hb => ⟨hb.1, hb.2.1, ?_⟩⟩⟩, pm⟩
 obtain ⟨o', its, m, g, c, r⟩ := hb.2.2
 exact ⟨o', its, m, hk b o' (.inr c) g, c, r⟩
theorem Zrn (W : WalksS prog w A.in1 I fp wr G n P St) (hu : A.in1.units < cLine) (S : Addr) (hSf : S ∉ fp) (ks : List (List Int)) (hl : ks.length = n) (hm : ∀ l : List (List Int), l.Nodup -> (∀ k ∈ l, k ∈ ks) -> l.length + 1 <= 4914)
  (K : Shared -> Prop) (hK : ∀ s s', K s -> (∀ b o, b ∉ S :: wr -> s.heap.get? b = some o -> s'.heap.get? b = some o) -> K s') (hIT : ∀ i s b o, St i s -> b ∈ wr -> s.heap.get? b = some o -> o.cls ≠ .type "tuple")
  (hval : ∀ i v s k, K s -> P i v -> ks[i]? = some k -> ∃ b, v = .ref b /\ U b /\ TK prog w s.heap k b) :
  ∀ (d i : Nat) (s : Shared), n - i = d -> i <= n -> St i s -> K s -> ZlM prog w U s.heap S (ZkV ks i) ->
   (∀ s', Moved (S :: wr) G s s' -> ZlM prog w U s'.heap S (ZkV ks n) -> R (.ok (.ret .none)) s') ->
   codeAny (model prog w) A (.builtin "set.update.loop" ⟨[.ref S, .ref I], []⟩) R s := by
 have hSw : S ∉ wr := fun h => hSf (W.sub _ h)
 have up : ∀ b ∈ wr, b ∈ S :: wr := fun b hb => Zaf _ hb
 have mv : ∀ {s s' : Shared}, Moved wr G s s' -> ∀ {i}, St i s -> ZlM prog w U s.heap S (ZkV ks i) -> ZlM prog w U s'.heap S (ZkV ks i) := fun {s s'} m i k x => x.same fun b o hb e => m.heap b o (fun hw => by
  rcases hb with rfl | hc
  ·exact hSw hw
  ·exact hIT i s b o k hw e hc) e
 intro d
 induction d with
 | zero =>
  intro i s hk hi hst hKs hS hR
  obtain rfl : i = n := by omega
  refine codeAny_builtin F.entry_set_update_loop ?_
  rw [Around.under_plainId F.plain_set_update_loop _]
  refine wpAny_bind (W.done s _ _ hst fun s' m => ?_)
  exact wpAny_pure (hR s' (m.mono up) (mv m hst hS))
 | succ d ih =>
  intro i s hk hi hst hKs hS hR
  have hlt : i < n := by omega
  obtain ⟨k, ek⟩ : ∃ k, ks[i]? = some k := ⟨_, ZaT (by omega)⟩
  refine codeAny_builtin F.entry_set_update_loop ?_
  rw [Around.under_plainId F.plain_set_update_loop _]
  refine wpAny_bind (W.item i s _ _ hlt hst fun v s' hP hst' m => ?_)
  have hKs' : K s' := hK s s' hKs fun b o hb e => m.heap b o (fun z => hb (up b z)) e
  obtain ⟨x, rfl, hUx, hx⟩ := hval i v s' k hKs' hP ek
  have hS' := mv m hst hS
  obtain ⟨nd, mem⟩ := seen_spec ks i
  have hroom : (ZkV ks i).length + 1 <= 4914 := hm _ nd fun k hk => Za9 ((mem k).mp hk)
  have go : ∀ h', Heap.SameBut S s'.heap h' -> ZlM prog w U h' S (ZkV ks (i + 1)) -> codeAny (model prog w) A (.builtin "set.update.loop" ⟨[.ref S, .ref I], []⟩) R { s' with heap := h', toks := s'.toks + (k.length + 1) } := fun h' sb hS2 => by
   have keep : ∀ b o, b ≠ S -> s'.heap.get? b = some o -> h'.get? b = some o := fun b o hb e => (sb.2 b hb).trans e
   refine ih (i + 1) _ (by omega) hlt (W.frame _ s' _ _ hst' (ZbS _ _) fun b hb o e => keep b o (fun z => hSf (z ▸ hb)) e) (hK s' _ hKs' fun b o hb e => keep b o (fun z => hb (z ▸ Zae)) e) hS2 fun s'' m'' hS'' => ?_
   exact hR s'' (Moved.trans W.gtrans ((m.mono up).then_heap (ZbS _ _) fun b o hb e => keep b o (fun z => hb (z ▸ Zae)) e) m'') hS''
  refine wpAny_bind (wpAny_holding ?_)
  unfold setAdd
  refine wpAny_holding (wpAny_bind (wpAny_pyHash_tuple hu hx ?_))
  unfold setAddHashed
  refine wpAny_holding (Zqv (s := { s' with toks := s'.toks + (k.length + 1) }) hu hS' hUx hx hroom (fun hin => ?_) (fun hin h' sb hS2 => ?_) 99999)
  ·refine wpAny_pure ⟨plainId_quiet F.plain_set_update_loop _, go s'.heap (Heap.SameBut.refl _ _) ?_⟩
   rw [ZjL ek, Znj, if_pos hin]
   exact hS'
  ·refine wpAny_pure ⟨plainId_quiet F.plain_set_update_loop _, go h' sb ?_⟩
   rw [ZjL ek, Znj, if_neg hin]
   exact hS2
end
end
section
variable {prog : Program} {w : World} {U : Addr -> Prop} {A : Around} {E : Value -> Shared -> Prop} {s : Shared}
noncomputable def ZlA (w : World) : Obj := { cls := .type "set", dict := none, data := .set #[] 0 (.fresh 0 0 (!w.params.followText "set-order")) }
theorem newT (v : Value) {Q : Value -> Shared -> Prop} (h : Q (.ref s.heap.objs.size) { s with heap := s.heap.push (ZlA w) }) : codeAny (model prog w) A (.call (.builtin "set.__new__") ⟨[.type "set", v], []⟩) (wants Q E) s := by
 refine codeAny_of_tree (wpAny_bind (wpAny_of_eq (F.newCall_set_1 v) (wpAny_pure ⟨plainId_quiet F.plain_set_new _, codeAny_builtin F.entry_set_new ?_⟩)))
 rw [Around.under_plainId F.plain_set_new _]
 unfold Builtin.«set.__new__» Builtin.Frozenset.newClass
 have hsub := sub_set_self
 obtain ⟨hp, g, d, tk, os⟩ := s
 dsimp only
 wp_walk
 refine wpAny_askSetting (wpAny_pure ?_)
 dsimp only
 simp only [newObj]
 exact wpAny_bind (wpAny_alloc (wpAny_pure (wpAny_pure h)))
def Its (prog : Program) (w : World) (U : Addr -> Prop) (h : Heap) (its : Array Value) (ks : List (List Int)) : Prop := its.size = ks.length /\ ∀ (i : Nat) v k, its[i]? = some v -> ks[i]? = some k -> ∃ b, v = .ref b /\ U b /\ TK prog w h k b
theorem call_setL {l : Addr} {its : Array Value} {ks : List (List Int)} {Q : Value -> Shared -> Prop} (hh : A.handled = none) (hu : A.in1.in1.in1.units < cLine) (hl : s.heap.IsList l its) (hi : Its prog w U s.heap its ks)
  (hm : ∀ l : List (List Int), l.Nodup -> (∀ k ∈ l, k ∈ ks) -> l.length + 1 <= 4914)
  (h : ∀ (h' : Heap) (tk : Nat), ZlM prog w U h' s.heap.objs.size (ZkV ks ks.length) -> (∀ b o, s.heap.get? b = some o -> h'.get? b = some o) -> Q (.ref s.heap.objs.size) { s with heap := h', toks := tk }) : wpAny (model prog w) A (call (.type "set") [.ref l]) Q E s := by
 have C := F.called_set
 obtain ⟨c, tl, hmro⟩ := C.mro
 have hmade := C.made
 have hsub := C.sub
 have h1 := C.notType
 have h2 := C.canCreate
 have hct := F.typeCall_set_1 (.ref l)
 refine wpAny_call (codeAny_of_tree (wpAny_pure ⟨Code.quiet_builtin _ (by decide +kernel), codeAny_builtin F.entry_type_call ?_⟩))
 rw [Around.under_plain (weight_type_call_type "set" [.ref l] []) rfl]
 repeat (any_goals (first | assumption | wp_step))
 refine codeAny_mono (newT (.ref l) (E := E) (Q := fun v s₁ => v = .ref s.heap.objs.size /\ s₁ = { s with heap := s.heap.push (ZlA w) }) ⟨rfl, rfl⟩) fun r s₁ hr => ?_
 cases r with
 | error e => exact hr
 | ok fl =>
  cases fl with
  | ret v =>
   obtain ⟨rfl, rfl⟩ := hr
   have hS : (s.heap.push (ZlA w)).get? s.heap.objs.size = some (ZlA w) := Zdl _ rfl
   have hTy : Shared.TypeIs { s with heap := s.heap.push (ZlA w) } (.ref s.heap.objs.size) "set" := ⟨_, hS, rfl⟩
   have hli := C.init.lookup
   have hbi := C.init.bind (.ref s.heap.objs.size)
   repeat (any_goals (first | assumption | wp_step))
   refine codeAny_mono (codeAny_call_builtin (R := wants (fun r s₂ => r = .none /\ ∃ h' tk, s₂ = { s with heap := h', toks := tk } /\ ZlM prog w U h' s.heap.objs.size (ZkV ks ks.length) /\ ∀ b o, s.heap.get? b = some o -> h'.get? b = some o) E) C.init.plain F.entry_set_init (check_set_init_1 hTy ?_)) fun r₂ s₂ hr₂ => ?_
   ·obtain ⟨ol, hol, hcl, nl, hdl⟩ := id hl
    obtain ⟨ocls, odict, odata, oslots⟩ := ol
    cases (show ocls = _ from hcl)
    cases (show odata = _ from hdl)
    have hol' : (s.heap.push (ZlA w)).get? l = some { cls := .type "list", dict := odict, data := .seq its nl, slots := oslots } := Zdm _ hol
    have hsls := F.sub_list_set
    have hslf := F.sub_list_frozenset
    have hne : (Value.type "list" == Value.type "dict") = false := by decide
    have hl1 : (s.heap.push (ZlA w)).IsList l its := ⟨_, hol', rfl, nl, rfl⟩
    unfold Builtin.«set.__init__» noKeywords Builtin.Frozenset.updateFrom
    generalize hPI : pyIter = PI
    unfold ZlA at hS hol' ⊢
    wp_walk
    subst hPI
    refine wpAny_pyIter_list hl1 ?_
    refine wpAny_bind (wpAny_runValue ?_)
    have zI : (s.heap.push (ZlA w)).objs.size = s.heap.objs.size + 1 := Zdn _ _
    have hlt : l < s.heap.objs.size := Zdk hol
    have nIn : ∀ b, b < s.heap.objs.size -> b ∉ [s.heap.objs.size, (s.heap.push (ZlA w)).objs.size] := fun b hb => by
     rw [zI]
     simp only [Zag, ZaV, or_false, not_or]
     exact ⟨ZbG hb, ZbG (ZbP hb)⟩
    have sIn : s.heap.objs.size ∉ [(s.heap.push (ZlA w)).objs.size, l] := by
     rw [zI]
     simp only [Zag, ZaV, or_false, not_or]
     exact ⟨ZbG (ZbN _), ZbJ hlt⟩
    refine Zrn (U := U) (Walks.list (A := A.in1.in1.in1) (by simp [hh]) (s.heap.push (ZlA w)).objs.size l (by rw [zI]; exact ZbG (ZbP hlt)) its).toS hu s.heap.objs.size sIn ks hi.1.symm hm
     (fun s' => ∀ (i : Nat) v k, its[i]? = some v -> ks[i]? = some k -> ∃ b, v = .ref b /\ b < s.heap.objs.size /\ U b /\ TK prog w s'.heap k b) (fun s1 s2 k1 keep i v k hv hk => ?_) (fun i s1 b o st hb e => ?_) (fun i v s1 k k1 hP hk => ?_)
     (its.size - 0) 0 _ rfl (ZbL _) ⟨⟨_, Zdl _ rfl, rfl, rfl⟩, hl1.push _⟩ (fun i v k hv hk => ?_) ?_ fun s' m hS' => ?_
    ·obtain ⟨b, e1, e2, e3, o, x1, x2, g, r⟩ := k1 i v k hv hk
     exact ⟨b, e1, e2, e3, o, x1, x2, keep b o (nIn b e2) g, r⟩
    ·simp only [Zag, ZaV, or_false] at hb
     subst hb
     obtain ⟨⟨o', g, c, _⟩, _⟩ := st
     cases e.symm.trans g
     rw [c]
     decide
    ·obtain ⟨b, e1, _, e3⟩ := k1 i v k hP hk
     exact ⟨b, e1, e3⟩
    ·obtain ⟨b, e1, e3, o, x1, x2, g, r⟩ := hi.2 i v k hv hk
     exact ⟨b, e1, Zdk g, e3, o, x1, x2, Zdm _ (Zdm _ g), r⟩
    ·refine ⟨ZlA w, #[], 0, _, #[], Zdm _ hS, ⟨rfl, rfl, rfl⟩, rfl, ZnM _, (by show 5 * 0 < 3 * 7; decide), rfl, rfl, ⟨rfl, fun i e k he => by cases (show (#[] : Array (Int × Value))[i]? = some e from he)⟩, .nil⟩
    ·obtain ⟨h', g', d', tk', os'⟩ := s'
     cases (show g' = s.gens from m.gens)
     cases (show d' = s.drawn from m.drawn)
     cases (show os' = s.os from m.os)
     refine wpAny_pure (wpAny_pure ⟨rfl, h', tk', rfl, hi.1 ▸ hS', fun b o e => ?_⟩)
     exact m.heap b o (nIn b (Zdk e)) (Zdm _ (Zdm _ e))
   ·cases r₂ with
    | error e => exact hr₂
    | ok fl₂ =>
     cases fl₂ with
     | ret r =>
      obtain ⟨rfl, h', tk, rfl, hS', hk'⟩ := hr₂
      repeat (any_goals (first | assumption | wp_step))
      exact h _ _ hS' hk'
     | _ => exact hr₂
  | _ => exact hr
end
theorem Zg6 : Slot "set_iterator" "__next__" "set_iterator.__next__" := .of (owner := "set_iterator") (n := "__next__") (by rw [typeLookup_type, builtinLookup_eq_fast]; kernel_rfl) (by decide +kernel) (by decide +kernel) (by decide +kernel) (by first | exact .inl (by decide +kernel) | exact .inr (by decide +kernel)) (by rw [isSubtype_type]; kernel_rfl)
theorem ZmR : Slot "set_iterator" "__iter__" "set_iterator.__iter__" := .of (owner := "set_iterator") (n := "__iter__") (by rw [typeLookup_type, builtinLookup_eq_fast]; kernel_rfl) (by decide +kernel) (by decide +kernel) (by decide +kernel) (by first | exact .inl (by decide +kernel) | exact .inr (by decide +kernel)) (by rw [isSubtype_type]; kernel_rfl)
theorem ZmS : entryFor table "set_iterator.__next__" = some Builtin.«set_iterator.__next__» := entryFor_of_tree (by kernel_rfl)
theorem Zpe : entryFor table "set_iterator.__iter__" = some Builtin.«dict_keyiterator.__iter__» := entryFor_alias (id' := "dict_keyiterator.__iter__") (by kernel_rfl) rfl (by decide +kernel) (by kernel_rfl)
theorem Zpf : entryFor table "set.__iter__" = some Builtin.«frozenset.__iter__» := entryFor_alias (id' := "frozenset.__iter__") (by kernel_rfl) rfl (by decide +kernel) (by kernel_rfl)
theorem Zop : Manifest.owners.lookup (String.ofList ['r', 'o', 't', 'a', 'r', 'e', 't', 'i', '_', 't', 'e', 's'].reverse) = some Manifest.sig_set_iterator := by kernel_rfl
theorem ZmT (a : Value) : argsOk "set_iterator.__next__" ⟨[a], []⟩ := by
 unfold argsOk
 rw [signature?_of (id := "set_iterator.__next__") (n := ['_', '_', 't', 'x', 'e', 'n', '_', '_']) (o := ['r', 'o', 't', 'a', 'r', 'e', 't', 'i', '_', 't', 'e', 's']) (by kernel_rfl) Zop]
 kernel_rfl
theorem Zpg (a : Value) : argsOk "set_iterator.__iter__" ⟨[a], []⟩ := by
 unfold argsOk
 rw [signature?_of (id := "set_iterator.__iter__") (n := ['_', '_', 'r', 'e', 't', 'i', '_', '_']) (o := ['r', 'o', 't', 'a', 'r', 'e', 't', 'i', '_', 't', 'e', 's']) (by kernel_rfl) Zop]
 kernel_rfl
theorem ZmU {α : Type} (nx : Nat -> Nat) : ∀ (fuel k : Nat) (l : List α) (out : Array α), l.length = fuel -> (pickOrder.go nx fuel k l out).toList.Perm (out.toList ++ l)
 | 0, k, l, out, h => by
  rw [Zbo h, Zas]
  exact .refl _
 | fuel + 1, k, l, out, h => by
  unfold pickOrder.go
  have hlt : nx k % l.length < l.length := Zb8 _ (by omega)
  rw [ZaT hlt]
  dsimp only
  refine (ZmU nx fuel (k + 1) _ _ (by rw [List.length_eraseIdx, if_pos hlt]; omega)).trans ?_
  rw [Zc9, Za7]
  refine List.Perm.append_left _ ?_
  rw [List.eraseIdx_eq_take_drop_succ, List.singleton_append]
  refine List.perm_middle.symm.trans ?_
  rw [<- Zbi hlt, Za5]
theorem ZmV {α : Type} (nx : Nat -> Nat) (xs : Array α) : (pickOrder nx xs).toList.Perm xs.toList := by
 have := ZmU nx xs.size 0 xs.toList #[] Zc2
 exact this
noncomputable def wlk (w : World) (a : Addr) (es : Array (Int × Value)) (ep : Nat) : Array (Int × Value) := if w.params.followText "set-order" then pickOrder (w.params.setOrder a ep) es else es
theorem wlk_perm (w : World) (a : Addr) (es : Array (Int × Value)) (ep : Nat) : (wlk w a es ep).toList.Perm es.toList := by
 unfold wlk
 split
 ·exact ZmV _ _
 ·exact .refl _
theorem ZlB {xs : Array Nat} (h : Inc xs) : SetTable.below xs 0 = 0 := by
 obtain ⟨h1, h2, _⟩ := ZfN h 0
 refine Nat.eq_zero_of_not_pos fun z => ?_
 have := h2 0 _ z (getElem?_pos xs 0 (by omega))
 omega
theorem ZlC {xs : Array Nat} (h : Inc xs) {i j : Nat} (hi : xs[i]? = some j) : SetTable.below xs (j + 1) = i + 1 := by
 obtain ⟨h1, h2, h3⟩ := ZfN h (j + 1)
 have a : i < SetTable.below xs (j + 1) := by
  refine Zcc fun z => ?_
  have := h3 i j z hi
  omega
 refine Nat.le_antisymm (ZbO fun z => ?_) a
 have g := getElem?_pos xs (i + 1) (by omega)
 have := h2 (i + 1) _ z g
 have := h i (i + 1) j _ (ZbN _) hi g
 omega
section
variable {prog : Program} {w : World} {A : Around} {E : Value -> Shared -> Prop} {s : Shared} {a it : Addr} {o : Obj} {es : Array (Int × Value)} {ep : Nat} {t : SetTable}
structure Wk (w : World) (o : Obj) (es : Array (Int × Value)) (ep : Nat) (t : SetTable) : Prop where
 cls : o.cls = .type "set"
 dat : o.data = .set es ep t
 tb : TB es t
 pl : t.plain = true
 led : t.led = !w.params.followText "set-order"
def SIt (w : World) (it a : Addr) (es : Array (Int × Value)) (ep : Nat) (t : SetTable) (i : Nat) (h : Heap) : Prop :=
 ∃ oi sl, h.get? it = some oi /\ oi.cls = .type "set_iterator" /\ oi.data = .fields #[.int (sl : Nat) 0, .int i 0, .ref a, .int es.size 0, .int ep 0] /\ (w.params.followText "set-order" = false -> SetTable.below t.place sl = i)
theorem ZnR {Q : Value -> Shared -> Prop} (k : Wk w o es ep t) (ho : s.heap.get? a = some o)
  (hQ : Q (.ref s.heap.objs.size) { s with heap := s.heap.push { cls := .type "set_iterator", data := .fields #[.int 0 0, .int 0 0, .ref a, .int es.size 0, .int ep 0] } }) : wpAny (model prog w) A (pyIter (.ref a)) Q E s := by
 have hT : s.TypeIs (.ref a) "set" := ⟨o, ho, k.cls⟩
 refine wpAny_pyIter_slot hT F.slot_set_iter (wpAny_call_entry F.slot_set_iter hT Zpf ?_ (F.args_set_iter_1 _))
 unfold Builtin.«frozenset.__iter__»
 refine wpAny_bind (wpAny_pure ?_)
 dsimp only
 unfold Builtin.Frozenset.sizeOf
 refine wpAny_bind (wpAny_bind (wpAny_setEntries_of ho k.dat k.tb.fits (wpAny_pure ?_)))
 unfold setDrawn setsByText
 refine wpAny_bind (wpAny_bind (wpAny_setState_of ho k.dat k.tb.fits ?_))
 dsimp only
 refine wpAny_bind (wpAny_bind (wpAny_askSetting (wpAny_pure (wpAny_pure ?_))))
 rw [if_neg (fun z => by
  have z2 : (!t.plain && decide (es.size > 1)) = true := ((ZcZ _ _).mp z).2
  rw [k.pl] at z2
  cases z2)]
 refine wpAny_bind (wpAny_pure (wpAny_bind (wpAny_setEpoch_of ho k.dat k.tb.fits ?_)))
 exact wpAny_bind (wpAny_newObj_type (wpAny_pure ⟨_, rfl, "set_iterator", _, ⟨_, Zdl _ rfl, rfl⟩, Zg6.lookup, hQ⟩))
theorem ZkW {i : Nat} {Q : Option (Value × Nat) -> Shared -> Prop} {sl : Nat} (k : Wk w o es ep t) (ho : s.heap.get? a = some o) (hsl : w.params.followText "set-order" = false -> SetTable.below t.place sl = i)
  (h : ∀ nx, (w.params.followText "set-order" = false -> i < es.size -> SetTable.below t.place nx = i + 1) -> Q (((wlk w a es ep)[i]?).map fun e => (e.2, nx)) s) : wpAny (model prog w) A (setNext a sl i ep) Q E s := by
 unfold setNext setsByText
 refine wpAny_bind (wpAny_setState_of ho k.dat k.tb.fits ?_)
 dsimp only
 refine wpAny_bind (wpAny_bind (wpAny_askSetting (wpAny_pure ?_)))
 unfold wlk at h
 cases hb : w.params.followText "set-order" with
 | true =>
  rw [hb] at h
  rw [if_pos (show (model prog w).w.params.followText "set-order" = true from hb), if_neg (by simp)]
  unfold setWalk setsByText
  refine wpAny_bind (wpAny_bind (wpAny_setState_of ho k.dat k.tb.fits ?_))
  dsimp only
  refine wpAny_bind (wpAny_bind (wpAny_askSetting (wpAny_pure ?_)))
  rw [if_pos (show (model prog w).w.params.followText "set-order" = true from hb)]
  refine wpAny_bind (wpAny_askSetting (wpAny_pure (wpAny_pure ?_)))
  exact h sl fun z => by cases z
 | false =>
  rw [hb] at h
  have hl := k.led
  rw [hb] at hl
  rw [if_neg (show ¬(model prog w).w.params.followText "set-order" = true by show ¬w.params.followText "set-order" = true; rw [hb]; decide)]
  rw [if_neg (fun z => by
   have z2 : (!t.plain && decide (es.size > 1)) = true := z
   rw [k.pl] at z2
   cases z2)]
  refine wpAny_bind (wpAny_ite ?_)
  rw [if_neg (by rw [hl]; simp)]
  refine wpAny_pure ?_
  rw [hsl hb]
  have go : ∀ q : Option (Value × Nat), (∃ nx, (i < es.size -> SetTable.below t.place nx = i + 1) /\ q = (es[i]?).map fun e => (e.2, nx)) -> Q q s := fun q ⟨nx, h1, e⟩ => by
   rw [e]
   exact h nx fun _ => h1
  refine wpAny_pure (go _ ?_)
  by_cases hi : i < es.size
  ·have e1 : es[i]? = some es[i] := getElem?_pos es i hi
   have e2 : t.place[i]? = some (t.place[i]'(by rw [k.tb.sz]; exact hi)) := getElem?_pos t.place i _
   rw [e1, e2]
   exact ⟨_, fun _ => ZlC k.tb.inc e2, rfl⟩
  ·have e1 : es[i]? = none := Zdg (by omega)
   rw [e1]
   exact ⟨0, fun z => absurd z hi, rfl⟩
end
end SX.Internal
namespace SX.Internal
open PySem PySem.Spec PyProof.Rows PySem.W
section
variable {prog : Program} {w : World} {A : Around} {E : Value -> Shared -> Prop} {s : Shared} {a it : Addr} {o : Obj} {es : Array (Int × Value)} {ep : Nat} {t : SetTable}
theorem wlk_size : (wlk w a es ep).size = es.size := by
 rw [<- Zc2, (wlk_perm w a es ep).length_eq, Zc2]
theorem SIt.ty {i : Nat} (x : SIt w it a es ep t i s.heap) : s.TypeIs (.ref it) "set_iterator" := let ⟨oi, _, g, c, _⟩ := x; ⟨oi, g, c⟩
theorem ZnS {i : Nat} {e : Int × Value} {Q : Option Value -> Shared -> Prop} (k : Wk w o es ep t) (ho : s.heap.get? a = some o) (x : SIt w it a es ep t i s.heap) (he : (wlk w a es ep)[i]? = some e)
  (hQ : ∀ h', SIt w it a es ep t (i + 1) h' -> Heap.SameBut it s.heap h' -> Q (some e.2) { s with heap := h' }) : wpAny (model prog w) A (pyNext (.ref it)) Q E s := by
 have hT := x.ty
 obtain ⟨oi, sl, g, c, d, hsl⟩ := x
 have hi : i < es.size := by rw [<- wlk_size (w := w) (a := a) (ep := ep)]; exact (Zc4.mp he).1
 unfold pyNext
 refine wpAny_bind (wpAny_attempt (wpAny_callSpecial?_slot (name := Str.ofString "__next__") hT Zg6 (wpAny_call_entry Zg6 hT ZmS ?_ (ZmT _))))
 unfold Builtin.«set_iterator.__next__»
 refine wpAny_bind (wpAny_pure ?_)
 refine wpAny_bind (wpAny_fieldsOf g d ?_)
 dsimp only
 refine wpAny_bind (wpAny_setEntries_of ho k.dat k.tb.fits ?_)
 rw [if_neg (by simp)]
 refine wpAny_bind (ZkW (i := i) (sl := sl) (ep := ep) k ho hsl fun nx hnx => ?_)
 rw [he]
 dsimp only [Option.map]
 refine wpAny_bind (wpAny_setField g d (by simp) ?_)
 have g1 := Zdo (Obj.mapFields (·.setIfInBounds 0 (rawInt (nx : Nat)))) g (Obj.isFreed_of_fields (Obj.data_mapFields d _))
 have d1 := Obj.data_mapFields d (·.setIfInBounds 0 (rawInt (nx : Nat)))
 refine wpAny_bind (wpAny_setField (s := { s with heap := s.heap.update it (Obj.mapFields (·.setIfInBounds 0 (rawInt (nx : Nat)))) }) g1 d1 (by simp) ?_)
 refine wpAny_pure ⟨_, rfl, wpAny_pure (hQ _ ⟨_, nx, Zdo _ g1 (Obj.isFreed_of_fields (Obj.data_mapFields d1 _)), ?_, ?_, fun z => hnx z hi⟩ ((Heap.SameBut.update ..).trans (Heap.SameBut.update ..)))⟩
 ·rw [Obj.cls_mapFields, Obj.cls_mapFields]
  exact c
 ·rw [Obj.data_mapFields d1]
  simp [rawInt]
theorem Zqw {B : Around} {s₀ : Shared} {h : Heap} {Q : Option Value -> Shared -> Prop} (hh : B.handled = none) (hx : Heap.ExtBut it s₀.heap h) (hQ : ∀ h', Heap.ExtBut it s₀.heap h' -> Q none { s₀ with heap := h' }) {R : PySem.Fin -> Shared -> Prop} :
  wpAny (model prog w) B.in1 (newExc (.type "StopIteration") []) (fun v s' => wpAny (model prog w) B.in1 (raiseNew v) R (fun e s' => wpAny (model prog w) B (do if <- isInstance e (.type "StopIteration") then pure none else throw e) Q E s') s') (fun e s' => wpAny (model prog w) B (do if <- isInstance e (.type "StopIteration") then pure none else throw e) Q E s') { s₀ with heap := h } := by
 simp only [newExc, newTuple]
 refine wpAny_bind (wpAny_newObj_type ?_ (by size_fits))
 refine wpAny_bind (m := firstArgMember _ _) (wpAny_of_eq (a := Value.none) (by first | rfl | (simp only [firstArgMember]; rfl)) ?_)
 refine wpAny_newObj_type ?_ (by size_fits)
 simp only [raiseNew]
 refine wpAny_bind (wpAny_handled ?_)
 rw [show B.in1.handled = none from hh]
 refine wpAny_bind (wpAny_pure (wpAny_throw ?_))
 refine wpAny_bind (wpAny_isInstance (T := "StopIteration") (b := true) ⟨_, Zdl _ rfl, rfl⟩ isSubtype_stop ?_)
 exact wpAny_pure (hQ _ ((hx.push _).push _))
theorem Zph {Q : Option Value -> Shared -> Prop} (hh : A.handled = none) (k : Wk w o es ep t) (ho : s.heap.get? a = some o) (x : SIt w it a es ep t es.size s.heap)
  (hQ : ∀ h', Heap.ExtBut it s.heap h' -> Q none { s with heap := h' }) : wpAny (model prog w) A (pyNext (.ref it)) Q E s := by
 have hT := x.ty
 obtain ⟨oi, sl, g, c, d, hsl⟩ := x
 unfold pyNext
 refine wpAny_bind (wpAny_attempt (wpAny_callSpecial?_slot (name := Str.ofString "__next__") hT Zg6 (wpAny_call_entry Zg6 hT ZmS ?_ (ZmT _))))
 unfold Builtin.«set_iterator.__next__»
 refine wpAny_bind (wpAny_pure ?_)
 refine wpAny_bind (wpAny_fieldsOf g d ?_)
 dsimp only
 refine wpAny_bind (wpAny_setEntries_of ho k.dat k.tb.fits ?_)
 rw [if_neg (by simp)]
 refine wpAny_bind (ZkW (i := es.size) (sl := sl) (ep := ep) k ho hsl fun nx _ => ?_)
 rw [Zdg (by rw [wlk_size]; exact ZbK _)]
 dsimp only [Option.map]
 refine wpAny_bind (wpAny_setField g d (by simp) ?_)
 refine wpAny_bind ?_
 exact Zqw hh ((Heap.SameBut.update ..).extBut) hQ
theorem SIt.at' {i : Nat} {h h' : Heap} (x : SIt w it a es ep t i h) (e : ∀ o, h.get? it = some o -> h'.get? it = some o) : SIt w it a es ep t i h' := let ⟨oi, sl, g, r⟩ := x; ⟨oi, sl, e _ g, r⟩
theorem Zro (hh : A.handled = none) (I : Addr) (hne : a ≠ I) (k : Wk w o es ep t) : Walks prog w A I [I, a] [I] es.size (fun i v => ∃ e, (wlk w a es ep)[i]? = some e /\ v = e.2) (fun i h => SIt w I a es ep t i h /\ h.get? a = some o) where
 sub := fun b hb => by simp at hb; simp [hb]
 frame := fun _ _ _ st hk => ⟨st.1.at' fun o e => hk I (by simp) o e, hk a (by simp) _ st.2⟩
 item := fun i s Q E hi st hQ => by
  have he : (wlk w a es ep)[i]? = some ((wlk w a es ep)[i]'(by rw [wlk_size]; exact hi)) := getElem?_pos _ i _
  refine ZnS k st.2 st.1 he fun h' x' hs' => ?_
  exact hQ _ h' s.toks ⟨_, he, rfl⟩ ⟨x', (hs'.2 a hne).trans st.2⟩ fun b o hb e => hs'.extBut b o (fun h => hb (by simp [h])) e
 done := fun s Q E st hQ => Zph hh k st.2 st.1 fun h' he' => hQ h' s.toks fun b o hb e => he' b o (fun h => hb (by simp [h])) e
 self := fun _ _ _ _ st hQ => by
  refine wpAny_pyIter_slot st.1.ty ZmR (wpAny_call_entry ZmR st.1.ty Zpe ?_ (Zpg _))
  exact wpAny_pure ⟨_, rfl, "set_iterator", _, st.1.ty, Zg6.lookup, hQ⟩
theorem Zrp {Q : Bool -> Shared -> Prop} (hT : s.TypeIs (.ref a) "set") (h : Q false s) : wpAny (model prog w) A (Builtin.List.listLengthHint (.ref a)) Q E s := by
 unfold Builtin.List.listLengthHint
 refine wpAny_bind (wpAny_specialOf hT F.slot_set_len.lookup ?_)
 generalize hid : ("set.__len__" : String) = id0
 wp_delta
 rw [show splitId id0 = some ("set", "__len__") from by subst hid; decide +kernel]
 subst hid
 refine wpAny_bind (wpAny_isInstance (T := "set") (b := true) hT sub_set_self ?_)
 refine wpAny_ite_split (fun z => absurd z (by decide)) fun _ => ?_
 refine wpAny_ite_split (fun _ => ?_) fun z => absurd (by decide +kernel) z
 refine wpAny_bind (wpAny_typeOf hT ?_)
 exact wpAny_pure h
theorem srcS (k : Wk w o es ep t) : KdlSrc prog w "set" a a es.size (fun i v => ∃ e, (wlk w a es ep)[i]? = some e /\ v = e.2) (fun h => h.get? a = some o) where
 type := fun _ g => ⟨o, g, k.cls⟩
 there := fun _ g => ⟨Zdk g, Zdk g⟩
 keep := fun _ _ g hk => hk a (.inl rfl) o g
 notList := by decide
 notTuple := by decide
 hint := fun _ _ _ _ g hq => Zrp ⟨o, g, k.cls⟩ hq
 iter := fun _ _ hh g => ⟨_, _, fun _ _ hq => ZnR k g hq, Zro hh _ (ZbG (Zdk g)) k, ⟨_, 0, Zdl _ rfl, rfl, rfl, fun _ => ZlB k.tb.inc⟩, Zdm _ g⟩
end
section
variable {prog : Program} {w : World} {A : Around} {E : Value -> Shared -> Prop} {s : Shared} {d it : Addr} {o : Obj} {es : Array DictEntry} {ep i : Nat}
theorem Zrq {Q : Value -> Shared -> Prop} (hs : (d == sysModules) = false) (ho : s.heap.get? d = some o) (hc : o.cls = .type "dict") (hd : o.data = .dict es ep)
  (hQ : Q (.ref s.heap.objs.size) { s with heap := s.heap.push { cls := .type "dict_keyiterator", data := .fields #[.ref d, .int 0 0, .int es.size 0, .int ep 0] } }) : wpAny (model prog w) A (pyIter (.ref d)) Q E s := by
 have hT : s.TypeIs (.ref d) "dict" := ⟨o, ho, hc⟩
 refine wpAny_pyIter_slot hT F.slot_dict_iter (wpAny_call_entry F.slot_dict_iter hT F.entry_dict_iter ?_ (F.args_dict_iter_1 _))
 unfold Builtin.«dict.__iter__» Builtin.Dict.dictSlotNone
 refine wpAny_bind (wpAny_bind (wpAny_notOrdered_dict hT (wpAny_pure ?_)))
 unfold Builtin.Dict.showsAll
 refine wpAny_bind (wpAny_pure ?_)
 rw [if_neg (by rw [hs]; exact ZcX)]
 refine wpAny_bind (wpAny_pure (wpAny_bind (wpAny_dictEntries ho hd (wpAny_bind (wpAny_dictEpoch ho hd ?_)))))
 exact wpAny_bind (wpAny_newObj_type (wpAny_pure ⟨_, rfl, "dict_keyiterator", _, ⟨_, Zdl _ rfl, rfl⟩, F.slot_dict_keyiterator_next.lookup, hQ⟩))
theorem Zrr {e : DictEntry} {Q : Option Value -> Shared -> Prop} (ho : s.heap.get? d = some o) (hd : o.data = .dict es ep) (x : s.heap.IsKeyIter it d i es.size ep) (he : es[i]? = some e)
  (hQ : ∀ h', h'.IsKeyIter it d (i + 1) es.size ep -> Heap.SameBut it s.heap h' -> Q (some e.key) { s with heap := h' }) : wpAny (model prog w) A (pyNext (.ref it)) Q E s := by
 have hT := x.typeIs
 obtain ⟨oi, g, c, f⟩ := x
 unfold pyNext
 refine wpAny_bind (wpAny_attempt (wpAny_callSpecial?_slot (name := Str.ofString "__next__") hT F.slot_dict_keyiterator_next (wpAny_call_entry F.slot_dict_keyiterator_next hT F.entry_dict_keyiterator_next ?_ (F.args_dict_keyiterator_next_1 _))))
 refine wpAny_bind (wpAny_pure (wpAny_bind (wpAny_bind (wpAny_bind (wpAny_typeNameOfWhole_keyiter hT (wpAny_pure ?_))))))
 refine wpAny_bind (wpAny_fieldsOf g f ?_)
 have hown : Builtin.Dict_items.ownsTuple "dict_keyiterator" = false := by decide
 simp only [hown, Zc0, if_false]
 refine wpAny_ite ?_
 rw [if_neg (show ¬((Value.ref d == Value.none) = true) from ZcX)]
 refine wpAny_bind (wpAny_pure (wpAny_bind (wpAny_dictEntries ho hd ?_)))
 rw [if_neg (by simp)]
 refine wpAny_bind (wpAny_pure (wpAny_bind (wpAny_dictEpoch ho hd ?_)))
 rw [if_neg (by simp)]
 refine wpAny_pure ?_
 simp only [show ¬((i : Int) < 0) from by omega, if_false, Zdh, he]
 refine wpAny_bind (wpAny_bind (wpAny_typeNameOfWhole_keyiter hT (wpAny_pure ?_)))
 refine wpAny_bind (wpAny_isOneOf_keyiter hT ?_)
 refine wpAny_bind (m := setField (.ref it) 1 (rawInt ((i : Int) + 1))) (wpAny_setField g f (by simp) ?_)
 have x' : (s.heap.update it (Obj.mapFields (·.setIfInBounds 1 (rawInt ((i : Int) + 1))))).IsKeyIter it d (i + 1) es.size ep :=
  ⟨_, Zdo _ g (Obj.isFreed_of_fields (Obj.data_mapFields f _)), (Obj.cls_mapFields ..).trans c, by rw [Obj.data_mapFields f]; simp [rawInt]⟩
 refine wpAny_bind (wpAny_holding (wpAny_bind (wpAny_isOneOf_keyiter (s := { s with heap := s.heap.update it (Obj.mapFields (·.setIfInBounds 1 (rawInt ((i : Int) + 1)))) }) x'.typeIs ?_)))
 exact wpAny_pure (wpAny_pure ⟨_, rfl, wpAny_pure (hQ _ x' (Heap.SameBut.update ..))⟩)
theorem endD {Q : Option Value -> Shared -> Prop} (hh : A.handled = none) (ho : s.heap.get? d = some o) (hd : o.data = .dict es ep) (x : s.heap.IsKeyIter it d es.size es.size ep)
  (hQ : ∀ h', Heap.ExtBut it s.heap h' -> Q none { s with heap := h' }) : wpAny (model prog w) A (pyNext (.ref it)) Q E s := by
 have hT := x.typeIs
 obtain ⟨oi, g, c, f⟩ := x
 unfold pyNext
 refine wpAny_bind (wpAny_attempt (wpAny_callSpecial?_slot (name := Str.ofString "__next__") hT F.slot_dict_keyiterator_next (wpAny_call_entry F.slot_dict_keyiterator_next hT F.entry_dict_keyiterator_next ?_ (F.args_dict_keyiterator_next_1 _))))
 refine wpAny_bind (wpAny_pure (wpAny_bind (wpAny_bind (wpAny_bind (wpAny_typeNameOfWhole_keyiter hT (wpAny_pure ?_))))))
 refine wpAny_bind (wpAny_fieldsOf g f ?_)
 have hown : Builtin.Dict_items.ownsTuple "dict_keyiterator" = false := by decide
 simp only [hown, Zc0, if_false]
 refine wpAny_ite ?_
 rw [if_neg (show ¬((Value.ref d == Value.none) = true) from ZcX)]
 refine wpAny_bind (wpAny_pure (wpAny_bind (wpAny_dictEntries ho hd ?_)))
 rw [if_neg (by simp)]
 refine wpAny_bind (wpAny_pure (wpAny_bind (wpAny_dictEpoch ho hd ?_)))
 rw [if_neg (by simp)]
 refine wpAny_pure ?_
 simp only [show ¬((es.size : Int) < 0) from by omega, if_false, Zdh, Zdg (ZbK es.size)]
 refine wpAny_bind (wpAny_bind (wpAny_typeNameOfWhole_keyiter hT (wpAny_pure ?_)))
 refine wpAny_bind (m := setField (.ref it) 0 .none) (wpAny_setField g f (by simp) ?_)
 refine wpAny_bind ?_
 exact Zqw hh ((Heap.SameBut.update ..).extBut) hQ
theorem Zrs (hh : A.handled = none) (I : Addr) (hne : d ≠ I) (hd : o.data = .dict es ep) : Walks prog w A I [I, d] [I] es.size (fun i v => ∃ e, es[i]? = some e /\ v = e.key) (fun i h => h.IsKeyIter I d i es.size ep /\ h.get? d = some o) where
 sub := fun b hb => by simp at hb; simp [hb]
 frame := fun _ _ _ st hk => ⟨st.1.at fun o e => hk I (by simp) o e, hk d (by simp) _ st.2⟩
 item := fun i s Q E hi st hQ => by
  have he : es[i]? = some (es[i]'hi) := getElem?_pos _ i _
  refine Zrr st.2 hd st.1 he fun h' x' hs' => ?_
  exact hQ _ h' s.toks ⟨_, he, rfl⟩ ⟨x', (hs'.2 d hne).trans st.2⟩ fun b o hb e => hs'.extBut b o (fun h => hb (by simp [h])) e
 done := fun s Q E st hQ => endD hh st.2 hd st.1 fun h' he' => hQ h' s.toks fun b o hb e => he' b o (fun h => hb (by simp [h])) e
 self := fun _ _ _ _ st hQ => wpAny_pyIter_keyiter st.1 hQ
theorem srcD (hs : (d == sysModules) = false) (hc : o.cls = .type "dict") (hd : o.data = .dict es ep) : KdlSrc prog w "dict" d d es.size (fun i v => ∃ e, es[i]? = some e /\ v = e.key) (fun h => h.get? d = some o) where
 type := fun _ g => ⟨o, g, hc⟩
 there := fun _ g => ⟨Zdk g, Zdk g⟩
 keep := fun _ _ g hk => hk d (.inl rfl) o g
 notList := by decide
 notTuple := by decide
 hint := fun _ _ _ _ g hq => kdl_hint_dict ⟨o, g, hc⟩ hq
 iter := fun _ _ hh g => ⟨_, _, fun _ _ hq => Zrq hs g hc hd hq, Zrs hh _ (ZbG (Zdk g)) hd, ⟨_, Zdl _ rfl, rfl, rfl⟩, Zdm _ g⟩
end
end SX.Internal
namespace L2.Internal
open PySem PySem.Spec PyProof.Rows PySem.W
noncomputable def ltL : List Int -> List Int -> Bool
 | _, [] => false
 | [], _ :: _ => true
 | a :: as, b :: bs => if a = b then ltL as bs else decide (a < b)
def leL (x y : List Int) : Prop := ltL y x = false
theorem Zoq : ∀ {x y : List Int}, ltL x y = true -> ltL y x = false
 | [], [], h => by cases h
 | _ :: _, [], h => by cases h
 | [], _ :: _, _ => rfl
 | a :: as, b :: bs, h => by
  unfold ltL at h ⊢
  by_cases e : a = b
  ·rw [if_pos e] at h
   rw [if_pos e.symm]
   exact Zoq h
  ·rw [if_neg e, decide_eq_true_eq] at h
   rw [if_neg (fun z => e z.symm)]
   exact decide_eq_false (by omega)
theorem Zpi (x y : List Int) : leL x y \/ leL y x := by
 cases h : ltL y x with
 | false => exact .inl h
 | true => exact .inr (Zoq h)
theorem ZkX {a b : Int} {as bs : List Int} : leL (a :: as) (b :: bs) ↔ a < b \/ (a = b /\ leL as bs) := by
 unfold leL
 rw [ltL]
 by_cases e : b = a
 ·rw [if_pos e]
  exact ⟨fun h => .inr ⟨e.symm, h⟩, fun h => h.elim (fun z => by omega) fun z => z.2⟩
 ·rw [if_neg e, decide_eq_false_iff_not]
  exact ⟨fun h => .inl (by omega), fun h => h.elim (fun z => by omega) fun z => absurd z.1.symm e⟩
theorem Zor : ∀ (x y z : List Int), leL x y -> leL y z -> leL x z
 | [], _, z, _, _ => by unfold leL; cases z <;> rfl
 | a :: as, [], z, h, _ => by cases h
 | a :: as, b :: bs, [], _, h => by cases h
 | a :: as, b :: bs, c :: cs, h1, h2 => by
  rw [ZkX] at h1 h2 ⊢
  rcases h1 with h1 | ⟨h1, g1⟩ <;> rcases h2 with h2 | ⟨h2, g2⟩
  ·exact .inl (by omega)
  ·exact .inl (by omega)
  ·exact .inl (by omega)
  ·exact .inr ⟨h1.trans h2, Zor as bs cs g1 g2⟩
theorem Zos : ∀ (x y : List Int), leL x y -> leL y x -> x = y
 | [], [], _, _ => rfl
 | [], b :: bs, _, h => by cases h
 | a :: as, [], h, _ => by cases h
 | a :: as, b :: bs, h1, h2 => by
  rw [ZkX] at h1 h2
  have e : a = b := by omega
  subst e
  rw [Zos as bs (h1.elim (fun z => by omega) fun z => z.2) (h2.elim (fun z => by omega) fun z => z.2)]
theorem Zpj {x y : List (List Int)} (hx : x.Pairwise leL) (hy : y.Pairwise leL) (hp : x.Perm y) : x = y :=
 hp.eq_of_pairwise (fun a b _ _ h1 h2 => Zos a b h1 h2) hx hy
noncomputable def Zot (fin : Bool) : List Int -> List Int -> Bool
 | a :: as, b :: bs => if a = b then Zot fin as bs else decide (a < b)
 | _, _ => fin
theorem ZmW : ∀ (x y : List Int), Zot (decide (x.length < y.length)) x y = ltL x y
 | [], [] => rfl
 | [], _ :: _ => by simp [Zot, ltL]
 | _ :: _, [] => by simp [Zot, ltL]
 | a :: as, b :: bs => by
  rw [Zot, ltL, <- ZmW as bs]
  simp
section
variable {prog : Program} {w : World} {A : Around} {E : Value -> Shared -> Prop} {s : Shared}
theorem ZkY {C : Bool -> Shared -> Prop} {fin : Bool} : ∀ {vs us : List Value} {xs ys : List Int}, IntsAre vs xs -> IntsAre us ys -> ∀ i, C (Zot fin xs ys) s -> KatLex prog w A true fin C (vs.zip us) i s
 | _, _, _, _, .nil, _, i, h => by
  rw [List.zip_nil_left]
  exact h
 | _, _, _, _, .cons a t r, .nil, i, h => h
 | _, _, _, _, .cons a t r, .cons b u r', i, h => by
  rw [List.zip_cons_cons]
  refine kat_cons (wpAny_eqBool_int (kat_go (fun e => kat_yes (ZkY r r' (i + 1) ?_)) fun e => kat_no ?_))
  ·rw [Zot, if_pos (of_decide_eq_true e)] at h
   exact h
  ·rw [Zot, if_neg (of_decide_eq_false e)] at h
   cases (true && i == 0) with
   | true => exact oneLt_int h
   | false => exact kat_one _ _ (lt_int h)
def Zrt (h : Heap) (key : Value -> List Int) (v : Value) : Prop := ∃ a o its n, v = .ref a /\ h.get? a = some o /\ o.cls = .type "tuple" /\ o.data = .seq its n /\ IntsAre its.toList (key v) /\ 1 <= (key v).length
def leK (key : Value -> List Int) (x y : Keyed) : Prop := leL (key x.1) (key y.1)
theorem ordK (key : Value -> List Int) : TS.Internal.Ord (leK key) := ⟨fun x y => Zpi _ _, fun _ _ _ => Zor _ _ _⟩
theorem ZmX {h : Heap} {key : Value -> List Int} : ∀ vs : List Value, (∀ v ∈ vs, Zrt h key v) -> ∃ fs, KatTups h vs fs /\ fs.length = vs.length /\ ∀ f ∈ fs, ∃ n t, f = .int n t
 | [], _ => ⟨[], .nil, rfl, fun f hf => by cases hf⟩
 | v :: vs, hv => by
  obtain ⟨fs, h1, h2, h3⟩ := ZmX vs fun u hu => hv u (Zaf _ hu)
  obtain ⟨a, o, its, n, e, g, c, d, hi, hl⟩ := hv v Zae
  have hz : 0 < its.size := by rw [<- Zc2, hi.length]; exact hl
  have g0 := getElem?_pos its 0 hz
  obtain ⟨m, t, em⟩ := hi.all its[0] (by simp)
  subst e
  refine ⟨its[0] :: fs, .cons g c d g0 h1, by rw [Zao, Zao, h2], fun f hf => ?_⟩
  rcases Zag.mp hf with rfl | hf
  ·exact ⟨m, t, em⟩
  ·exact h3 f hf
theorem Zpk {vs : List Value} {key : Value -> List Int} (h2 : 2 <= vs.length) (hv : ∀ v ∈ vs, Zrt s.heap key v) : Zmz prog w A (leK key) vs s := by
 obtain ⟨fs, t, lf, kf⟩ := ZmX vs hv
 refine ⟨tuples' true, fun Q E q => ?_, fun x y hx hy E Q st hk h => ?_⟩
 ·refine kat_kind (T := .type "int") t (by omega) (fun v hv' => ?_) (by decide) q
  obtain ⟨n, t, rfl⟩ := kf v hv'
  exact Looks.of_pure rfl
 ·obtain ⟨a1, o1, i1, n1, e1, g1, _, d1, r1, _⟩ := hv _ (mem_zip_self hx).2
  obtain ⟨a2, o2, i2, n2, e2, g2, _, d2, r2, _⟩ := hv _ (mem_zip_self hy).2
  rw [lt'_eq]
  refine wpS_bind (wpS_get ?_)
  rw [hk]
  have hlt : ∀ C : Bool -> Shared -> Prop, ∀ E, C (ltL (key x.1) (key y.1)) s -> wpAny (model prog w) A (keyLt' (tuples' true) x.1 y.1) C E s := fun C E hc => by
   rw [e1, e2] at hc ⊢
   rw [e1] at r1
   rw [e2] at r2
   refine kat_lt g1 d1 g2 d2 ?_
   rw [show i1.size = _ from Zc2.symm.trans r1.length, show i2.size = _ from Zc2.symm.trans r2.length]
   refine ZkY r1 r2 0 ?_
   rw [ZmW]
   exact hc
  refine wpS_bind (wpS_lift (wpAny_attempt (hlt _ _ ⟨rfl, ?_⟩)))
  refine wpS_pure (h _ ?_)
  unfold leK leL
  rw [Bool.not_eq_false]
end
end L2.Internal
namespace L2.Internal
open PySem PySem.Spec PyProof.Rows PySem.W
section
variable {prog : Program} {w : World} {U : Addr -> Prop} {h : Heap}
theorem ZkZ : ∀ (es : List (Int × Value)) (ks : List (List Int)), ks.length = es.length -> (∀ (i : Nat) e k, es[i]? = some e -> ks[i]? = some k -> ∃ b, e.2 = .ref b /\ U b /\ SX.Internal.TK prog w h k b) ->
  ∃ ps : List (Addr × List Int), ps.map Prod.snd = ks /\ es.map Prod.snd = ps.map (fun p => Value.ref p.1) /\ ∀ p ∈ ps, U p.1 /\ SX.Internal.TK prog w h p.2 p.1
 | [], [], _, _ => ⟨[], rfl, rfl, fun p hp => by cases hp⟩
 | [], _ :: _, hl, _ => by cases hl
 | _ :: _, [], hl, _ => by cases hl
 | e :: es, k :: ks, hl, hh => by
  obtain ⟨ps, h1, h2, h3⟩ := ZkZ es ks (by simpa using hl) fun i e k he hk => hh (i + 1) e k he hk
  obtain ⟨b, e1, e2, e3⟩ := hh 0 e k rfl rfl
  refine ⟨(b, k) :: ps, by rw [Zaq, h1], by rw [Zaq, Zaq, h2, e1], fun p hp => ?_⟩
  rcases Zag.mp hp with rfl | hp
  ·exact ⟨e2, e3⟩
  ·exact h3 p hp
end
section
variable {X : Cx} {pins : List (Addr × Obj)} {σ : St} {H : Hp} {s : Shared}
theorem Zif {α : Type} {b : Addr} {k : α} : ∀ {l : List (Addr × α)}, l.lookup b = some k -> (b, k) ∈ l
 | [], h => by cases h
 | (a, x) :: l, h => by
  rw [ZaM] at h
  by_cases e : b = a
  ·subst e
   simp at h
   subst h
   exact Zae
  ·have : (b == a) = false := by simpa using e
   rw [this] at h
   exact Zaf _ (Zif h)
theorem Zig (prog : Program) (w : World) : ∀ {k : List Int} {us : List Value}, Ze0 (k.map V.int) us -> ItemsAre (intKind prog w) k us
 | [], _, .nil => .nil
 | n :: k, _, .cons r1 r => by
  obtain ⟨t, rfl⟩ := r1
  exact .cons (intKind_is _ _ _ _) (Zig prog w r)
theorem Inv.tk (I : Inv X pins σ H s) {b : Addr} {k : List Int} (e : H b = some (.tup (k.map V.int))) : SX.Internal.TK X.prog X.w s.heap k b := by
 obtain ⟨_, its, rv, o, g, c, n, d, _⟩ := I.hok b _ e
 exact ⟨o, its.toArray, n, g, c, d, Zig _ _ (by simpa using rv)⟩
def ZgR (w : World) (a : Addr) (bs : List Addr) (h : Heap) : Prop := ∃ o es ep t, h.get? a = some o /\ SX.Internal.Wk w o es ep t /\ (es.toList.map Prod.snd).Perm (bs.map Value.ref)
def ZfL (H : Hp) (ps : List (Addr × List Int)) : Prop := ∀ p ∈ ps, H p.1 = some (.tup (p.2.map V.int))
theorem ZhH {k : Nat} (hr : Zg0 k X.A) : ZgK X (.type "set") (fun xs H Q => ∃ (a : Addr) (ps : List (Addr × List Int)), xs = [.ref a] /\ SqL X.K H a (ps.map fun p => V.ref p.1) /\ ZfL H ps /\
  (∀ l : List (List Int), l.Nodup -> (∀ k ∈ l, k ∈ ps.map Prod.snd) -> l.length + 1 <= 4914) /\
  ∀ (r : Addr) (ps' : List (Addr × List Int)), H r = none -> (∀ p ∈ ps', p ∈ ps) -> (ps'.map Prod.snd).Nodup -> (∀ k, k ∈ ps'.map Prod.snd ↔ k ∈ ps.map Prod.snd) -> Q (.ref r) (upd H r (.ext (ZgR X.w r (ps'.map Prod.fst))))) := by
 intro pins s σ H xs us Q I r h
 obtain ⟨a, ps, rfl, hq, hp, hb, q⟩ := h
 obtain ⟨u, rfl, ru⟩ := Zg2 r
 cases ru
 obtain ⟨its, rv, p, hz⟩ := I.list hq
 have l1 := rv.length
 rw [Zar] at hz l1
 have hu := hr.un
 refine SX.Internal.call_setL (A := X.A) (U := fun b => ∃ k, (b, k) ∈ ps) (ks := ps.map Prod.snd) (its := its.toArray) hr.hd (by show X.A.units + 1 + 1 + 1 < cLine; omega) p.isList ⟨by rw [ZaJ, Zar, l1], fun i v k hv hk => ?_⟩ hb fun h' tk hS kp => ?_
 ·rw [ZaA] at hk
  obtain ⟨pr, e1, rfl⟩ := Zch.mp hk
  have hv : its[i]? = some v := by simpa using hv
  obtain ⟨v', e2, e3⟩ := Ze0.get rv (i := i) (x := V.ref pr.1) (by rw [ZaA, e1]; rfl)
  cases e2.symm.trans hv
  cases e3
  exact ⟨pr.1, rfl, ⟨pr.2, ZaB e1⟩, I.tk (hp pr (ZaB e1))⟩
 ·obtain ⟨o, es, ep, t, ks, ho, hex, hd, b, _, hpl, hled, l, pm⟩ := hS
  obtain ⟨nd, mem⟩ := SX.Internal.seen_spec (ps.map Prod.snd) (ps.map Prod.snd).length
  obtain ⟨ps', h1, h2, h3⟩ := ZkZ es.toList ks.toList (by rw [Zc2, Zc2, l.sz]) fun i e k he hk => by
   rw [Zc6] at he hk
   exact (l.el i e k he hk).2
  refine ⟨.ref s.heap.objs.size, _, I.laid (t' := tk) (a := s.heap.objs.size) (o := .ext (ZgR X.w s.heap.objs.size (ps'.map Prod.fst))) kp (ZbK _) ⟨⟨o, es, ep, t, ho, ⟨hex.1, hd, b, hpl, hled⟩, ?_⟩, ⟨o, ho⟩, fun h1 h2 z k => ?_⟩, rfl, q _ ps' (I.hok.fresh (ZbK _)) (fun p hp' => ?_) ?_ fun k => ?_⟩
  ·rw [h2, Zby]
   exact .refl _
  ·obtain ⟨o, es, ep, t, g, r⟩ := z
   exact ⟨o, es, ep, t, k _ g, r⟩
  ·obtain ⟨⟨k', hk'⟩, tk'⟩ := h3 p hp'
   have t1 := I.tk (hp _ hk')
   obtain ⟨o', its', n', g', r'⟩ := t1
   have := tk'.inj ⟨o', its', n', kp _ _ g', r'⟩
   rw [show p = (p.1, k') from Prod.ext rfl this]
   exact hk'
  ·rw [h1]
   exact (pm.nodup_iff).mpr nd
  ·rw [h1, pm.mem_iff, mem, ZaP]
theorem Zk0 {r : Addr} {ps : List (Addr × List Int)} {Q : VK} (I : Inv X pins σ H s) (hp : ZfL H ps) (h1 : ∀ p ∈ ps, 1 <= p.2.length) (hz : ps.length <= sizeLine)
  (hcol : ∀ R : List Value -> Shared -> Prop, (∀ h1 tk us, (∀ b o, s.heap.get? b = some o -> h1.get? b = some o) -> us.Perm (ps.map fun p => Value.ref p.1) -> R us { s with heap := h1, toks := tk }) -> wpAny (model X.prog X.w) X.A.in1 (collect (.ref r)) R X.xe s)
  (q : ∀ (l : Addr) (ps' : List (Addr × List Int)), H l = none -> ps'.Perm ps -> (ps'.map Prod.snd).Pairwise leL -> Q (.ref l) (upd H l (.lst (ps'.map fun p => V.ref p.1)))) : wpAny (model X.prog X.w) X.A (call (.builtin "sorted") [.ref r]) (EP X pins σ Q) X.xe s := by
 obtain ⟨key, hkey⟩ : ∃ key : Value -> List Int, ∀ p ∈ ps, key (.ref p.1) = p.2 := by
  refine ⟨fun v => match v with | .ref b => (ps.lookup b).getD [] | _ => [], fun p hp' => ?_⟩
  show (ps.lookup p.1).getD [] = p.2
  have inj : ∀ k k' : List Int, k.map V.int = k'.map V.int -> k = k' := fun k k' e => by
   have := congrArg (List.map fun v => match v with | V.int n => n | _ => 0) e
   simpa [Zby, Function.comp_def] using this
  cases e : ps.lookup p.1 with
  | none =>
   have := List.lookup_eq_none_iff.mp e p hp'
   simp at this
  | some k' =>
   have hm : (p.1, k') ∈ ps := Zif e
   have e1 := hp p hp'
   have e2 := hp _ hm
   rw [e1] at e2
   injection e2 with e2
   injection e2 with e2
   exact (inj _ _ e2).symm
 obtain ⟨adr, hadr⟩ : ∃ adr : Value -> Addr, ∀ b, adr (.ref b) = b := ⟨fun v => match v with | .ref b => b | _ => 0, fun b => rfl⟩
 refine Zlx (le := leK key) (F := fun h1 tk us => (∀ b o, s.heap.get? b = some o -> h1.get? b = some o) /\ us.Perm (ps.map fun p => Value.ref p.1)) (ordK key) (fun R hR => hcol R fun h1 tk us k1 k2 => hR h1 tk us ⟨k1, k2⟩) (fun h1' tk us hf => ⟨by rw [hf.2.length_eq, Zar]; exact hz, fun h2 h' hk => Zpk h2 fun v hv => ?_⟩) fun h1' tk us out hf po pw => ?_
 ·obtain ⟨p, hp', rfl⟩ := ZaW.mp (hf.2.mem_iff.mp hv)
  obtain ⟨_, its, rv, o, g, c, n, d, _⟩ := I.hok p.1 _ (hp p hp')
  rw [Zrt, hkey p hp']
  exact ⟨p.1, o, its.toArray, n, rfl, hk _ _ (hf.1 _ _ g), c, d, by simpa using ZmA rv, h1 p hp'⟩
 ·obtain ⟨kp, pu⟩ := hf
  have pp := po.trans pu
  have hout : ∀ v ∈ out, ∃ p ∈ ps, v = .ref p.1 := fun v hv => by
   obtain ⟨p, hp', e⟩ := ZaW.mp (pp.mem_iff.mp hv)
   exact ⟨p, hp', e.symm⟩
  obtain ⟨ps', hps'⟩ : ∃ ps', ps' = out.map fun v => (adr v, key v) := ⟨_, rfl⟩
  have e1 : ps'.map (fun p => Value.ref p.1) = out := by
   rw [hps', Zby]
   refine (Zbz fun v hv => ?_).trans (List.map_id _)
   obtain ⟨p, _, rfl⟩ := hout v hv
   show Value.ref (adr (.ref p.1)) = .ref p.1
   rw [hadr]
  have e2 : ps'.Perm ps := by
   have := pp.map fun v => (adr v, key v)
   rw [<- hps', Zby] at this
   refine this.trans (.of_eq ?_)
   refine (Zbz fun p hp' => ?_).trans (List.map_id _)
   show (adr (.ref p.1), key (.ref p.1)) = p
   rw [hadr, hkey p hp']
  have e3 : (ps'.map Prod.snd).Pairwise leL := by
   rw [hps', Zby, Zbr]
   exact pw
  have g : (h1'.push (seqObj "list" us.toArray 0)).get? h1'.objs.size = some (seqObj "list" us.toArray 0) := Zdl _ rfl
  obtain ⟨e, he⟩ := sortedHeap_at (out := Za4 out) g
  have nB : ∀ b u, s.heap.get? b = some u -> b ≠ h1'.objs.size := fun b u e => ZbG (Zdk (kp b u e))
  have HB : H h1'.objs.size = none := by
   cases e : H h1'.objs.size with
   | none => rfl
   | some o =>
    obtain ⟨u, eu⟩ : ∃ u, s.heap.get? h1'.objs.size = some u := (I.hok _ _ e).there
    exact absurd rfl (nB _ u eu)
  refine ⟨.ref h1'.objs.size, upd H h1'.objs.size (.lst (ps'.map fun p => V.ref p.1)), ?_, rfl, q _ _ HB e2 e3⟩
  refine I.more (t' := tk) (fun b u eb => ?_) (fun b o eb => ?_) (fun b u eb hb => ?_) fun b o eb hb => ?_
  ·rw [sortedHeap_old (nB b u eb) (Zdk (Zdm _ (kp b u eb)))]
   exact Zdm _ (kp b u eb)
  ·rw [ZdA (fun z => by rw [z, HB] at eb; cases eb)]
   exact eb
  ·rw [ZdA (nB b u eb)]
   exact hb
  ·by_cases z : b = h1'.objs.size
   ·subst z
    rw [Zdt] at eb
    cases eb
    refine ⟨by rw [Zar, e2.length_eq]; exact hz, out, e, ?_, he⟩
    rw [<- e1]
    have := ZjC (ps'.map Prod.fst)
    rw [Zby, Zby] at this
    exact this
   ·rw [ZdA z, hb] at eb
    cases eb
theorem Zk1 {α : Type} {f : α -> Value} {W : Array α} {acc : Array Value} {n : Nat} (h : ItemsOf (fun i v => ∃ e, W[i]? = some e /\ v = f e) acc n) (hn : W.size = n) : acc.toList = W.toList.map f := by
 apply Zbq
 intro i
 rw [ZaA, Zc6, Zc6]
 cases hi : acc[i]? with
 | none =>
  have := Array.getElem?_eq_none_iff.mp hi
  have h2 := h.1
  rw [Zdg (by omega)]
  rfl
 | some v =>
  obtain ⟨e, e1, e2⟩ := h.2 i v hi
  rw [e1, e2]
  rfl
theorem Zf9 (hc : X.calm = true) : ZgK X (.builtin "sorted") (fun xs H Q => ∃ (a : Addr) (ps : List (Addr × List Int)), xs = [.ref a] /\ H a = some (.ext (ZgR X.w a (ps.map Prod.fst))) /\ ZfL H ps /\ (∀ p ∈ ps, 1 <= p.2.length) /\ ps.length <= sizeLine /\
  ∀ (l : Addr) (ps' : List (Addr × List Int)), H l = none -> ps'.Perm ps -> (ps'.map Prod.snd).Pairwise leL -> Q (.ref l) (upd H l (.lst (ps'.map fun p => V.ref p.1)))) := by
 intro pins s σ H xs us Q I rx h
 obtain ⟨a, ps, rfl, ha, hp, h1, hz, q⟩ := h
 obtain ⟨u, rfl, ru⟩ := Zg2 rx
 cases ru
 obtain ⟨⟨o, es, ep, t, g, wk, pm⟩, _, _⟩ := I.hok a _ ha
 have hn : es.size = ps.length := by
  have := pm.length_eq
  rw [Zar, Zar, Zar, Zc2] at this
  exact this
 refine Zk0 I hp h1 hz (fun R hR => kdu_collect (A := X.A.in1) (SX.Internal.srcS wk) (I.ok.hd hc) g (by rw [hn]; exact hz) fun h' tk acc kp ia => hR h' tk acc.toList kp ?_) q
 rw [Zk1 ia SX.Internal.wlk_size]
 rw [Zby] at pm
 exact ((SX.Internal.wlk_perm X.w a es ep).map Prod.snd).trans pm
theorem ZgS (hc : X.calm = true) : ZgK X (.builtin "sorted") (fun xs H Q => ∃ (d : Addr) (kvs : List (List Key × V)) (ks : List (List Int)), xs = [.ref d] /\ H d = some (.dT kvs) /\ kvs.map Prod.fst = ks.map (fun k => k.map Sum.inl) /\ (∀ k ∈ ks, 1 <= k.length) /\
  ∀ (l : Addr) (ps' : List (Addr × List Int)), H l = none -> ZfL H ps' -> ks.Nodup -> (ps'.map Prod.snd).Perm ks -> (ps'.map Prod.snd).Pairwise leL -> Q (.ref l) (upd H l (.lst (ps'.map fun p => V.ref p.1)))) := by
 intro pins s σ H xs us Q I rx h
 obtain ⟨d, kvs, ks, rfl, ed, hks, h1, q⟩ := h
 obtain ⟨u, rfl, ru⟩ := Zg2 rx
 cases ru
 obtain ⟨hz, hs, zs, pr, o, es, ep, g, hex, hd, he, nd⟩ := I.hok d _ ed
 have ndk : ks.Nodup := by
  have e : zs.map (·.1) = ks.map (fun k => k.map Sum.inl) := by
   rw [<- hks]
   clear he hd g hex ed q h1 hz hks nd
   induction pr with
   | nil => rfl
   | cons h _ ih => rw [Zaq, Zaq, ih, h.1]
  rw [e] at nd
  rw [Zbt, Zbr] at nd
  exact Zbt.mpr (nd.imp fun h z => h (by rw [z]))
 clear nd
 obtain ⟨ps, e1, e2, hp⟩ : ∃ ps : List (Addr × List Int), ps.map Prod.snd = ks /\ es.toList.map (·.key) = ps.map (fun p => Value.ref p.1) /\ ZfL H ps := by
  rw [he]
  clear he hd g hex ed q h1 hz ndk
  induction pr generalizing ks with
  | nil =>
   cases ks with
   | nil => exact ⟨[], rfl, rfl, fun p hp => by cases hp⟩
   | cons k ks => cases hks
  | @cons p z kvs zs h _ ih =>
   cases ks with
   | nil => cases hks
   | cons k ks =>
    rw [Zaq, Zaq] at hks
    injection hks with hk hks
    obtain ⟨ps, r1, r2, r3⟩ := ih ks hks
    refine ⟨(z.2.1, k) :: ps, by rw [Zaq, r1], ?_, fun p' hp' => ?_⟩
    ·rw [Zaq, Zaq, Zaq, r2]
     rfl
    ·rcases Zag.mp hp' with rfl | hp'
     ·have := h.2.1
      rw [hk, Zby] at this
      exact this
     ·exact r3 p' hp'
 have hn : es.size = ps.length := by
  have := congrArg Zaw e2
  rw [Zar, Zar, Zc2] at this
  exact this
 have hl : ps.length = kvs.length := by
  have := congrArg Zaw e1
  have h' := congrArg Zaw hks
  rw [Zar] at this h'
  rw [Zar] at h'
  omega
 refine Zk0 I hp (fun p hp' => h1 _ (by rw [<- e1]; exact ZbA hp')) (by rw [hl]; exact hz) (fun R hR => kdu_collect (A := X.A.in1) (SX.Internal.srcD hs hex.1 hd) (I.ok.hd hc) g (by rw [hn, hl]; exact hz) fun h' tk acc kp ia => hR h' tk acc.toList kp ?_) fun l ps' hl' pp pw => q l ps' hl' (fun p hp' => hp p (pp.mem_iff.mp hp')) ndk (by rw [<- e1]; exact pp.map _) pw
 rw [Zk1 ia rfl, e2]
end
end L2.Internal
namespace K36.Internal
open PySem L2.Internal
theorem l0 {P : List Value -> Prop} (h : P []) : ∀ us : List Value, us.length = 0 -> P us := fun us e => by rw [Zbo e]; exact h
theorem lS {n : Nat} {P : List Value -> Prop} (h : ∀ a, ∀ us : List Value, us.length = n -> P (a :: us)) : ∀ us : List Value, us.length = n + 1 -> P us := fun us e => by
 cases us with
 | nil => cases e
 | cons a t => exact h a t (Nat.succ.inj e)
noncomputable def top (i : Nat) : Stmt := PySem.Challenge.pw_flowkinds_k36_told_by_places.main.body.getD i (.Pass ⟨0, 0, 0, 0⟩)
noncomputable abbrev Zeh : Stmt := top 10
noncomputable abbrev Zfl : Stmt := top 12
noncomputable abbrev Zet : Stmt := top 13
noncomputable abbrev Zfm : Stmt := top 14
noncomputable abbrev Zfb : Stmt := top 15
noncomputable abbrev ZfE : Stmt := top 16
noncomputable abbrev ZfF : Stmt := top 19
noncomputable abbrev Zfc : Stmt := top 22
noncomputable abbrev ZeN : Stmt := top 23
noncomputable abbrev ZeO : Stmt := top 24
noncomputable abbrev Zfd : Stmt := top 25
noncomputable abbrev Zfn : Stmt := top 26
noncomputable abbrev ZeE : Stmt := top 27
noncomputable abbrev ZeP : Stmt := top 28
noncomputable abbrev ZeQ : Stmt := top 29
noncomputable abbrev ZeR : Stmt := top 30
noncomputable abbrev Zfe : Stmt := top 31
noncomputable abbrev ZeF : Stmt := top 32
noncomputable abbrev ZeG : Stmt := top 33
noncomputable abbrev Zfo : Stmt := top 34
noncomputable abbrev ZeS : Stmt := top 35
noncomputable abbrev ZiH : Stmt := top 36
noncomputable abbrev Zei : Stmt := Zed (top 2) 0
noncomputable abbrev Zeu : Stmt := Zed (top 3) 0
noncomputable abbrev ZeT : Stmt := Zed (top 4) 0
noncomputable abbrev Zd5 : Stmt := Zed (top 5) 0
noncomputable abbrev ZeH : Stmt := Zed (top 5) 1
noncomputable abbrev Zd6 : Stmt := Zed (top 6) 0
noncomputable abbrev Zeq : Stmt := Zed (top 6) 1
noncomputable abbrev Zd7 : Stmt := Zed (top 7) 0
noncomputable abbrev Zer : Stmt := Zed (top 7) 1
noncomputable abbrev Zd9 : Stmt := Zed (top 8) 0
noncomputable abbrev ZeU : Stmt := Zed (top 8) 1
noncomputable abbrev Zec : Stmt := Zed (top 9) 0
noncomputable abbrev ZeI : Stmt := Zed (top 9) 1
noncomputable abbrev ZeV : Stmt := Zed (top 9) 2
noncomputable abbrev Zff : Stmt := Zed (top 9) 3
noncomputable abbrev ZeW : Stmt := Zed (top 9) 4
noncomputable abbrev Zev : Stmt := Zed (top 18) 0
noncomputable abbrev Zd2 : Stmt := Zed (top 20) 0
noncomputable abbrev Zew : Stmt := Zed (top 20) 1
noncomputable abbrev Zej : Stmt := Zed (top 20) 2
noncomputable abbrev ZdU : Stmt := Zed (top 20) 3
noncomputable abbrev ZdV : Stmt := Zed (top 20) 4
noncomputable abbrev ZdW : Stmt := Zed (top 20) 5
noncomputable abbrev ZdX : Stmt := Zed (top 20) 6
set_option genInjectivity false in
set_option genSizeOf false in
structure Txt (K : PySem.W.Frag) (mg : Str -> Option Value) where
 a_uses_by_point : Addr
 fd_uses_by_point : FuncData
 F_uses_by_point : Fun K "uses_by_point" "uses_by_point" Zeh a_uses_by_point fd_uses_by_point
 b_uses_by_point : Zd8 K fd_uses_by_point ["board"] []
 m_uses_by_point : mg "uses_by_point" = some (.ref a_uses_by_point)
 k_uses_by_point : Zcx K (.ref a_uses_by_point) = true
 a_meetings : Addr
 fd_meetings : FuncData
 F_meetings : Fun K "meetings" "meetings" Zfl a_meetings fd_meetings
 b_meetings : Zd8 K fd_meetings ["board", "log"] []
 m_meetings : mg "meetings" = some (.ref a_meetings)
 k_meetings : Zcx K (.ref a_meetings) = true
 a_bad_meetings : Addr
 fd_bad_meetings : FuncData
 F_bad_meetings : Fun K "bad_meetings" "bad_meetings" Zet a_bad_meetings fd_bad_meetings
 b_bad_meetings : Zd8 K fd_bad_meetings ["board", "log"] []
 m_bad_meetings : mg "bad_meetings" = some (.ref a_bad_meetings)
 k_bad_meetings : Zcx K (.ref a_bad_meetings) = true
 a_arrivals : Addr
 fd_arrivals : FuncData
 F_arrivals : Fun K "arrivals" "arrivals" Zfm a_arrivals fd_arrivals
 b_arrivals : Zd8 K fd_arrivals ["board", "log"] []
 m_arrivals : mg "arrivals" = some (.ref a_arrivals)
 k_arrivals : Zcx K (.ref a_arrivals) = true
 a_here_rows : Addr
 fd_here_rows : FuncData
 F_here_rows : Fun K "here_rows" "here_rows" Zfb a_here_rows fd_here_rows
 b_here_rows : Zd8 K fd_here_rows ["log"] []
 m_here_rows : mg "here_rows" = some (.ref a_here_rows)
 k_here_rows : Zcx K (.ref a_here_rows) = true
 a_meeting : Addr
 fd_meeting : FuncData
 F_meeting : Fun K "meeting" "meeting" ZfE a_meeting fd_meeting
 b_meeting : Zd8 K fd_meeting ["board", "row", "u"] []
 m_meeting : mg "meeting" = some (.ref a_meeting)
 k_meeting : Zcx K (.ref a_meeting) = true
 a_settled : Addr
 fd_settled : FuncData
 F_settled : Fun K "settled" "settled" ZfF a_settled fd_settled
 b_settled : Zd8 K fd_settled ["board"] []
 m_settled : mg "settled" = some (.ref a_settled)
 k_settled : Zcx K (.ref a_settled) = true
 a_pick : Addr
 fd_pick : FuncData
 F_pick : Fun K "_law_pick" "_law_pick" Zfc a_pick fd_pick
 b_pick : Zd8 K fd_pick ["_law_cell", "_law_turn", "_law_many"] []
 m_pick : mg "_law_pick" = some (.ref a_pick)
 k_pick : Zcx K (.ref a_pick) = true
 a_words : Addr
 fd_words : FuncData
 F_words : Fun K "_law_words" "_law_words" ZeN a_words fd_words
 b_words : Zd8 K fd_words ["_law_cell"] []
 m_words : mg "_law_words" = some (.ref a_words)
 k_words : Zcx K (.ref a_words) = true
 a_named : Addr
 fd_named : FuncData
 F_named : Fun K "_law_named" "_law_named" ZeO a_named fd_named
 b_named : Zd8 K fd_named ["_law_words_here", "_law_cell", "_law_spots"] []
 m_named : mg "_law_named" = some (.ref a_named)
 k_named : Zcx K (.ref a_named) = true
 a_make : Addr
 fd_make : FuncData
 F_make : Fun K "_law_make" "_law_make" Zfd a_make fd_make
 b_make : Zd8 K fd_make ["_law_words_here", "_law_cell", "_law_many"] []
 m_make : mg "_law_make" = some (.ref a_make)
 k_make : Zcx K (.ref a_make) = true
 a_use : Addr
 fd_use : FuncData
 F_use : Fun K "_law_use" "_law_use" Zfn a_use fd_use
 b_use : Zd8 K fd_use ["_law_words_here", "_law_cell", "_law_many"] []
 m_use : mg "_law_use" = some (.ref a_use)
 k_use : Zcx K (.ref a_use) = true
 a_things : Addr
 fd_things : FuncData
 F_things : Fun K "_law_things" "_law_things" ZeE a_things fd_things
 b_things : Zd8 K fd_things ["_law_script"] []
 m_things : mg "_law_things" = some (.ref a_things)
 k_things : Zcx K (.ref a_things) = true
 a_using : Addr
 fd_using : FuncData
 F_using : Fun K "_law_using" "_law_using" ZeP a_using fd_using
 b_using : Zd8 K fd_using ["_law_told"] []
 m_using : mg "_law_using" = some (.ref a_using)
 k_using : Zcx K (.ref a_using) = true
 a_board : Addr
 fd_board : FuncData
 F_board : Fun K "_law_board" "_law_board" ZeQ a_board fd_board
 b_board : Zd8 K fd_board ["_law_things_here"] []
 m_board : mg "_law_board" = some (.ref a_board)
 k_board : Zcx K (.ref a_board) = true
 a_whole : Addr
 fd_whole : FuncData
 F_whole : Fun K "_law_whole" "_law_whole" ZeR a_whole fd_whole
 b_whole : Zd8 K fd_whole ["_law_x"] []
 m_whole : mg "_law_whole" = some (.ref a_whole)
 k_whole : Zcx K (.ref a_whole) = true
 a_pair : Addr
 fd_pair : FuncData
 F_pair : Fun K "_law_pair" "_law_pair" Zfe a_pair fd_pair
 b_pair : Zd8 K fd_pair ["_law_x"] []
 m_pair : mg "_law_pair" = some (.ref a_pair)
 k_pair : Zcx K (.ref a_pair) = true
 a_shaped : Addr
 fd_shaped : FuncData
 F_shaped : Fun K "_law_shaped" "_law_shaped" ZeF a_shaped fd_shaped
 b_shaped : Zd8 K fd_shaped ["_law_rows"] []
 m_shaped : mg "_law_shaped" = some (.ref a_shaped)
 k_shaped : Zcx K (.ref a_shaped) = true
 a_tuples : Addr
 fd_tuples : FuncData
 F_tuples : Fun K "_law_tuples" "_law_tuples" ZeG a_tuples fd_tuples
 b_tuples : Zd8 K fd_tuples ["_law_found", "_law_size"] []
 m_tuples : mg "_law_tuples" = some (.ref a_tuples)
 k_tuples : Zcx K (.ref a_tuples) = true
 a_due : Addr
 fd_due : FuncData
 F_due : Fun K "_law_due" "_law_due" Zfo a_due fd_due
 b_due : Zd8 K fd_due ["_law_things_here", "_law_log", "_law_which"] []
 m_due : mg "_law_due" = some (.ref a_due)
 k_due : Zcx K (.ref a_due) = true
 a_asked : Addr
 fd_asked : FuncData
 F_asked : Fun K "_law_asked" "_law_asked" ZeS a_asked fd_asked
 b_asked : Zd8 K fd_asked ["_law_board_here", "_law_log", "_law_which"] []
 m_asked : mg "_law_asked" = some (.ref a_asked)
 k_asked : Zcx K (.ref a_asked) = true
 a_Make : Addr
 m_Make : mg "Make" = some (.ref a_Make)
 cl_Make : Cls K a_Make
 ty_Make : ∀ (H : Hp) (a dx : Addr) (fs : List (Str × V)), H a = some (.ins a_Make dx fs) -> Zhu K H (.ref a) (.ref a_Make)
 n_Make_shape : ZdP K a_Make "shape"
 n_Make_parts : ZdP K a_Make "parts"
 n_Make_at : ZdP K a_Make "at"
 n_Make_place : ZdP K a_Make "place"
 a_Make___init__ : Addr
 fd_Make___init__ : FuncData
 F_Make___init__ : Fun K "__init__" "Make.__init__" Zei a_Make___init__ fd_Make___init__
 b_Make___init__ : Zd8 K fd_Make___init__ ["self", "shape", "parts", "at", "place"] []
 mk_Make : Mk K a_Make a_Make___init__
 a_Use : Addr
 m_Use : mg "Use" = some (.ref a_Use)
 cl_Use : Cls K a_Use
 ty_Use : ∀ (H : Hp) (a dx : Addr) (fs : List (Str × V)), H a = some (.ins a_Use dx fs) -> Zhu K H (.ref a) (.ref a_Use)
 n_Use_at : ZdP K a_Use "at"
 n_Use_place : ZdP K a_Use "place"
 n_Use_slot : ZdP K a_Use "slot"
 a_Use___init__ : Addr
 fd_Use___init__ : FuncData
 F_Use___init__ : Fun K "__init__" "Use.__init__" Zeu a_Use___init__ fd_Use___init__
 b_Use___init__ : Zd8 K fd_Use___init__ ["self", "at", "place", "slot"] []
 cm_Use___init__ : ZrX K a_Use "__init__" a_Use___init__
 mk_Use : Mk K a_Use a_Use___init__
 a_NumUse : Addr
 m_NumUse : mg "NumUse" = some (.ref a_NumUse)
 cl_NumUse : Cls K a_NumUse
 ty_NumUse : ∀ (H : Hp) (a dx : Addr) (fs : List (Str × V)), H a = some (.ins a_NumUse dx fs) -> Zhu K H (.ref a) (.ref a_NumUse)
 n_NumUse_at : ZdP K a_NumUse "at"
 n_NumUse_place : ZdP K a_NumUse "place"
 n_NumUse_slot : ZdP K a_NumUse "slot"
 a_NumUse_met : Addr
 fd_NumUse_met : FuncData
 F_NumUse_met : Fun K "met" "NumUse.met" ZeT a_NumUse_met fd_NumUse_met
 b_NumUse_met : Zd8 K fd_NumUse_met ["self", "make"] []
 me_NumUse_met : Zjk K a_NumUse "met" a_NumUse_met
 mk_NumUse : Mk K a_NumUse a_Use___init__
 a_CallUse : Addr
 m_CallUse : mg "CallUse" = some (.ref a_CallUse)
 cl_CallUse : Cls K a_CallUse
 ty_CallUse : ∀ (H : Hp) (a dx : Addr) (fs : List (Str × V)), H a = some (.ins a_CallUse dx fs) -> Zhu K H (.ref a) (.ref a_CallUse)
 n_CallUse_arg : ZdP K a_CallUse "arg"
 n_CallUse_out : ZdP K a_CallUse "out"
 n_CallUse_at : ZdP K a_CallUse "at"
 n_CallUse_place : ZdP K a_CallUse "place"
 n_CallUse_slot : ZdP K a_CallUse "slot"
 a_CallUse___init__ : Addr
 fd_CallUse___init__ : FuncData
 F_CallUse___init__ : Fun K "__init__" "CallUse.__init__" Zd5 a_CallUse___init__ fd_CallUse___init__
 b_CallUse___init__ : Zd8 K fd_CallUse___init__ ["self", "at", "place", "slot", "arg", "out"] []
 mk_CallUse : Mk K a_CallUse a_CallUse___init__
 a_CallUse_met : Addr
 fd_CallUse_met : FuncData
 F_CallUse_met : Fun K "met" "CallUse.met" ZeH a_CallUse_met fd_CallUse_met
 b_CallUse_met : Zd8 K fd_CallUse_met ["self", "make"] []
 me_CallUse_met : Zjk K a_CallUse "met" a_CallUse_met
 a_TakeUse : Addr
 m_TakeUse : mg "TakeUse" = some (.ref a_TakeUse)
 cl_TakeUse : Cls K a_TakeUse
 ty_TakeUse : ∀ (H : Hp) (a dx : Addr) (fs : List (Str × V)), H a = some (.ins a_TakeUse dx fs) -> Zhu K H (.ref a) (.ref a_TakeUse)
 n_TakeUse_fields : ZdP K a_TakeUse "fields"
 n_TakeUse_at : ZdP K a_TakeUse "at"
 n_TakeUse_place : ZdP K a_TakeUse "place"
 n_TakeUse_slot : ZdP K a_TakeUse "slot"
 a_TakeUse___init__ : Addr
 fd_TakeUse___init__ : FuncData
 F_TakeUse___init__ : Fun K "__init__" "TakeUse.__init__" Zd6 a_TakeUse___init__ fd_TakeUse___init__
 b_TakeUse___init__ : Zd8 K fd_TakeUse___init__ ["self", "at", "place", "slot", "fields"] []
 mk_TakeUse : Mk K a_TakeUse a_TakeUse___init__
 a_TakeUse_met : Addr
 fd_TakeUse_met : FuncData
 F_TakeUse_met : Fun K "met" "TakeUse.met" Zeq a_TakeUse_met fd_TakeUse_met
 b_TakeUse_met : Zd8 K fd_TakeUse_met ["self", "make"] []
 me_TakeUse_met : Zjk K a_TakeUse "met" a_TakeUse_met
 a_CaseUse : Addr
 m_CaseUse : mg "CaseUse" = some (.ref a_CaseUse)
 cl_CaseUse : Cls K a_CaseUse
 ty_CaseUse : ∀ (H : Hp) (a dx : Addr) (fs : List (Str × V)), H a = some (.ins a_CaseUse dx fs) -> Zhu K H (.ref a) (.ref a_CaseUse)
 n_CaseUse_arms : ZdP K a_CaseUse "arms"
 n_CaseUse_at : ZdP K a_CaseUse "at"
 n_CaseUse_place : ZdP K a_CaseUse "place"
 n_CaseUse_slot : ZdP K a_CaseUse "slot"
 a_CaseUse___init__ : Addr
 fd_CaseUse___init__ : FuncData
 F_CaseUse___init__ : Fun K "__init__" "CaseUse.__init__" Zd7 a_CaseUse___init__ fd_CaseUse___init__
 b_CaseUse___init__ : Zd8 K fd_CaseUse___init__ ["self", "at", "place", "slot", "arms"] []
 mk_CaseUse : Mk K a_CaseUse a_CaseUse___init__
 a_CaseUse_met : Addr
 fd_CaseUse_met : FuncData
 F_CaseUse_met : Fun K "met" "CaseUse.met" Zer a_CaseUse_met fd_CaseUse_met
 b_CaseUse_met : Zd8 K fd_CaseUse_met ["self", "make"] []
 me_CaseUse_met : Zjk K a_CaseUse "met" a_CaseUse_met
 a_RowUse : Addr
 m_RowUse : mg "RowUse" = some (.ref a_RowUse)
 cl_RowUse : Cls K a_RowUse
 ty_RowUse : ∀ (H : Hp) (a dx : Addr) (fs : List (Str × V)), H a = some (.ins a_RowUse dx fs) -> Zhu K H (.ref a) (.ref a_RowUse)
 n_RowUse_out : ZdP K a_RowUse "out"
 n_RowUse_at : ZdP K a_RowUse "at"
 n_RowUse_place : ZdP K a_RowUse "place"
 n_RowUse_slot : ZdP K a_RowUse "slot"
 a_RowUse___init__ : Addr
 fd_RowUse___init__ : FuncData
 F_RowUse___init__ : Fun K "__init__" "RowUse.__init__" Zd9 a_RowUse___init__ fd_RowUse___init__
 b_RowUse___init__ : Zd8 K fd_RowUse___init__ ["self", "at", "place", "slot", "out"] []
 mk_RowUse : Mk K a_RowUse a_RowUse___init__
 a_RowUse_met : Addr
 fd_RowUse_met : FuncData
 F_RowUse_met : Fun K "met" "RowUse.met" ZeU a_RowUse_met fd_RowUse_met
 b_RowUse_met : Zd8 K fd_RowUse_met ["self", "make"] []
 me_RowUse_met : Zjk K a_RowUse "met" a_RowUse_met
 a_Board : Addr
 m_Board : mg "Board" = some (.ref a_Board)
 cl_Board : Cls K a_Board
 ty_Board : ∀ (H : Hp) (a dx : Addr) (fs : List (Str × V)), H a = some (.ins a_Board dx fs) -> Zhu K H (.ref a) (.ref a_Board)
 n_Board_points : ZdP K a_Board "points"
 n_Board_makes : ZdP K a_Board "makes"
 n_Board_uses : ZdP K a_Board "uses"
 n_Board_flows : ZdP K a_Board "flows"
 n_Board_root : ZdP K a_Board "root"
 a_Board___init__ : Addr
 fd_Board___init__ : FuncData
 F_Board___init__ : Fun K "__init__" "Board.__init__" Zec a_Board___init__ fd_Board___init__
 b_Board___init__ : Zd8 K fd_Board___init__ ["self"] []
 mk_Board : Mk K a_Board a_Board___init__
 a_Board_point : Addr
 fd_Board_point : FuncData
 F_Board_point : Fun K "point" "Board.point" ZeI a_Board_point fd_Board_point
 b_Board_point : Zd8 K fd_Board_point ["self", "place"] []
 me_Board_point : Zjk K a_Board "point" a_Board_point
 a_Board_make : Addr
 fd_Board_make : FuncData
 F_Board_make : Fun K "make" "Board.make" ZeV a_Board_make fd_Board_make
 b_Board_make : Zd8 K fd_Board_make ["self", "shape", "parts", "at", "place"] []
 me_Board_make : Zjk K a_Board "make" a_Board_make
 a_Board_use : Addr
 fd_Board_use : FuncData
 F_Board_use : Fun K "use" "Board.use" Zff a_Board_use fd_Board_use
 b_Board_use : Zd8 K fd_Board_use ["self", "one"] []
 me_Board_use : Zjk K a_Board "use" a_Board_use
 a_Board_flow : Addr
 fd_Board_flow : FuncData
 F_Board_flow : Fun K "flow" "Board.flow" ZeW a_Board_flow fd_Board_flow
 b_Board_flow : Zd8 K fd_Board_flow ["self", "p", "q"] []
 me_Board_flow : Zjk K a_Board "flow" a_Board_flow
 a_Log : Addr
 m_Log : mg "Log" = some (.ref a_Log)
 cl_Log : Cls K a_Log
 ty_Log : ∀ (H : Hp) (a dx : Addr) (fs : List (Str × V)), H a = some (.ins a_Log dx fs) -> Zhu K H (.ref a) (.ref a_Log)
 n_Log_rows : ZdP K a_Log "rows"
 n_Log_bads : ZdP K a_Log "bads"
 a_Log___init__ : Addr
 fd_Log___init__ : FuncData
 F_Log___init__ : Fun K "__init__" "Log.__init__" Zev a_Log___init__ fd_Log___init__
 b_Log___init__ : Zd8 K fd_Log___init__ ["self", "rows", "bads"] []
 mk_Log : Mk K a_Log a_Log___init__
 a_Settling : Addr
 m_Settling : mg "Settling" = some (.ref a_Settling)
 cl_Settling : Cls K a_Settling
 ty_Settling : ∀ (H : Hp) (a dx : Addr) (fs : List (Str × V)), H a = some (.ins a_Settling dx fs) -> Zhu K H (.ref a) (.ref a_Settling)
 n_Settling_board : ZdP K a_Settling "board"
 n_Settling_uses_at : ZdP K a_Settling "uses_at"
 n_Settling_rows : ZdP K a_Settling "rows"
 n_Settling_bads : ZdP K a_Settling "bads"
 n_Settling_known : ZdP K a_Settling "known"
 n_Settling_goes : ZdP K a_Settling "goes"
 n_Settling_heres : ZdP K a_Settling "heres"
 a_Settling___init__ : Addr
 fd_Settling___init__ : FuncData
 F_Settling___init__ : Fun K "__init__" "Settling.__init__" Zd2 a_Settling___init__ fd_Settling___init__
 b_Settling___init__ : Zd8 K fd_Settling___init__ ["self", "board"] []
 mk_Settling : Mk K a_Settling a_Settling___init__
 a_Settling_put : Addr
 fd_Settling_put : FuncData
 F_Settling_put : Fun K "put" "Settling.put" Zew a_Settling_put fd_Settling_put
 b_Settling_put : Zd8 K fd_Settling_put ["self", "word", "first", "second", "why"] []
 me_Settling_put : Zjk K a_Settling "put" a_Settling_put
 a_Settling_work : Addr
 fd_Settling_work : FuncData
 F_Settling_work : Fun K "work" "Settling.work" Zej a_Settling_work fd_Settling_work
 b_Settling_work : Zd8 K fd_Settling_work ["self", "number"] []
 me_Settling_work : Zjk K a_Settling "work" a_Settling_work
 a_Settling_work_goes : Addr
 fd_Settling_work_goes : FuncData
 F_Settling_work_goes : Fun K "work_goes" "Settling.work_goes" ZdU a_Settling_work_goes fd_Settling_work_goes
 b_Settling_work_goes : Zd8 K fd_Settling_work_goes ["self", "number", "p", "q"] []
 me_Settling_work_goes : Zjk K a_Settling "work_goes" a_Settling_work_goes
 a_Settling_work_uses : Addr
 fd_Settling_work_uses : FuncData
 F_Settling_work_uses : Fun K "work_uses" "Settling.work_uses" ZdV a_Settling_work_uses fd_Settling_work_uses
 b_Settling_work_uses : Zd8 K fd_Settling_work_uses ["self", "number", "m", "p"] []
 me_Settling_work_uses : Zjk K a_Settling "work_uses" a_Settling_work_uses
 a_Settling_put_flows : Addr
 fd_Settling_put_flows : FuncData
 F_Settling_put_flows : Fun K "put_flows" "Settling.put_flows" ZdW a_Settling_put_flows fd_Settling_put_flows
 b_Settling_put_flows : Zd8 K fd_Settling_put_flows ["self", "flows", "why"] []
 me_Settling_put_flows : Zjk K a_Settling "put_flows" a_Settling_put_flows
 a_Settling_work_here : Addr
 fd_Settling_work_here : FuncData
 F_Settling_work_here : Fun K "work_here" "Settling.work_here" ZdX a_Settling_work_here fd_Settling_work_here
 b_Settling_work_here : Zd8 K fd_Settling_work_here ["self", "number", "m", "p"] []
 me_Settling_work_here : Zjk K a_Settling "work_here" a_Settling_work_here
 z_all : mg "all" = none
 z_bool : mg "bool" = none
 z_dict : mg "dict" = none
 z_enumerate : mg "enumerate" = none
 z_int : mg "int" = none
 z_isinstance : mg "isinstance" = none
 z_len : mg "len" = none
 z_list : mg "list" = none
 z_range : mg "range" = none
 z_set : mg "set" = none
 z_sorted : mg "sorted" = none
 z_str : mg "str" = none
 z_sum : mg "sum" = none
 z_tuple : mg "tuple" = none
theorem Ze8 : ZdL ["board", "found", "number", "one"] ["board"] (Zdx Zeh) := ⟨rfl, rfl, rfl, by decide +kernel, rfl, by decide +kernel, by decide +kernel⟩
theorem ZfG : ZdL ["board", "log", "uses_at", "found", "row", "u"] ["board", "log"] (Zdx Zfl) := ⟨rfl, rfl, rfl, by decide +kernel, rfl, by decide +kernel, by decide +kernel⟩
theorem ZhI : ZdL ["board", "log"] ["board", "log"] (Zdx Zet) := ⟨rfl, rfl, rfl, by decide +kernel, rfl, by decide +kernel, by decide +kernel⟩
theorem Zkj : ZdL ["board", "log"] ["board", "log"] (Zdx Zfm) := ⟨rfl, rfl, rfl, by decide +kernel, rfl, by decide +kernel, by decide +kernel⟩
theorem ZjN : ZdL ["log"] ["log"] (Zdx Zfb) := ⟨rfl, rfl, rfl, by decide +kernel, rfl, by decide +kernel, by decide +kernel⟩
theorem Zih : ZdL ["board", "row", "u", "one"] ["board", "row", "u"] (Zdx ZfE) := ⟨rfl, rfl, rfl, by decide +kernel, rfl, by decide +kernel, by decide +kernel⟩
theorem Zfp : ZdL ["board", "settling", "flow", "number", "make", "worked"] ["board"] (Zdx ZfF) := ⟨rfl, rfl, rfl, by decide +kernel, rfl, by decide +kernel, by decide +kernel⟩
theorem Zga : ZdL ["_law_cell", "_law_turn", "_law_many", "_law_factors", "_law_primes"] ["_law_cell", "_law_turn", "_law_many"] (Zdx Zfc) := ⟨rfl, rfl, rfl, by decide +kernel, rfl, by decide +kernel, by decide +kernel⟩
theorem Ze1 : ZdL ["_law_cell", "_law_c", "_law_stem", "_law_k", "_law_at"] ["_law_cell"] (Zdx ZeN) := ⟨rfl, rfl, rfl, by decide +kernel, rfl, by decide +kernel, by decide +kernel⟩
theorem ZgT : ZdL ["_law_words_here", "_law_cell", "_law_spots", "_law_first"] ["_law_words_here", "_law_cell", "_law_spots"] (Zdx ZeO) := ⟨rfl, rfl, rfl, by decide +kernel, rfl, by decide +kernel, by decide +kernel⟩
theorem ZeB : ZdL ["_law_words_here", "_law_cell", "_law_many", "_law_spots", "_law_shape", "_law_parts"] ["_law_words_here", "_law_cell", "_law_many"] (Zdx Zfd) := ⟨rfl, rfl, rfl, by decide +kernel, rfl, by decide +kernel, by decide +kernel⟩
theorem ZfU : ZdL ["_law_words_here", "_law_cell", "_law_many", "_law_spots", "_law_word", "_law_head"] ["_law_words_here", "_law_cell", "_law_many"] (Zdx Zfn) := ⟨rfl, rfl, rfl, by decide +kernel, rfl, by decide +kernel, by decide +kernel⟩
theorem Zeg : ZdL ["_law_script", "_law_words_here", "_law_start", "_law_many", "_law_things_here", "_law_cell", "_law_sort"] ["_law_script"] (Zdx ZeE) := ⟨rfl, rfl, rfl, by decide +kernel, rfl, by decide +kernel, by decide +kernel⟩
theorem ZiI : ZdL ["_law_told"] ["_law_told"] (Zdx ZeP) := ⟨rfl, rfl, rfl, by decide +kernel, rfl, by decide +kernel, by decide +kernel⟩
theorem Ze2 : ZdL ["_law_things_here", "_law_board_here", "_law_place", "_law_make_here", "_law_told", "_law_pair_here"] ["_law_things_here"] (Zdx ZeQ) := ⟨rfl, rfl, rfl, by decide +kernel, rfl, by decide +kernel, by decide +kernel⟩
theorem ZiJ : ZdL ["_law_x"] ["_law_x"] (Zdx ZeR) := ⟨rfl, rfl, rfl, by decide +kernel, rfl, by decide +kernel, by decide +kernel⟩
theorem ZjO : ZdL ["_law_x"] ["_law_x"] (Zdx Zfe) := ⟨rfl, rfl, rfl, by decide +kernel, rfl, by decide +kernel, by decide +kernel⟩
theorem Zgv : ZdL ["_law_rows", "_law_row"] ["_law_rows"] (Zdx ZeF) := ⟨rfl, rfl, rfl, by decide +kernel, rfl, by decide +kernel, by decide +kernel⟩
theorem Zgw : ZdL ["_law_found", "_law_size", "_law_one"] ["_law_found", "_law_size"] (Zdx ZeG) := ⟨rfl, rfl, rfl, by decide +kernel, rfl, by decide +kernel, by decide +kernel⟩
theorem Zfg : ZdL ["_law_things_here", "_law_log", "_law_which", "_law_due_here", "_law_k", "_law_u", "_law_use_here", "_law_row"] ["_law_things_here", "_law_log", "_law_which"] (Zdx Zfo) := ⟨rfl, rfl, rfl, by decide +kernel, rfl, by decide +kernel, by decide +kernel⟩
theorem ZiK : ZdL ["_law_board_here", "_law_log", "_law_which"] ["_law_board_here", "_law_log", "_law_which"] (Zdx ZeS) := ⟨rfl, rfl, rfl, by decide +kernel, rfl, by decide +kernel, by decide +kernel⟩
theorem Zhe : ZdL ["_law_script", "_law_things_here", "_law_board_here", "_law_log", "_law_start", "_law_turn", "_law_which", "_law_found"] ["_law_script"] (Zdx ZiH) := ⟨rfl, rfl, rfl, by decide +kernel, rfl, by decide +kernel, by decide +kernel⟩
theorem Zhh : ZdL ["self", "shape", "parts", "at", "place"] ["self", "shape", "parts", "at", "place"] (Zdx Zei) := ⟨rfl, rfl, rfl, by decide +kernel, rfl, by decide +kernel, by decide +kernel⟩
theorem ZhJ : ZdL ["self", "at", "place", "slot"] ["self", "at", "place", "slot"] (Zdx Zeu) := ⟨rfl, rfl, rfl, by decide +kernel, rfl, by decide +kernel, by decide +kernel⟩
theorem ZiL : ZdL ["self", "make"] ["self", "make"] (Zdx ZeT) := ⟨rfl, rfl, rfl, by decide +kernel, rfl, by decide +kernel, by decide +kernel⟩
theorem ZgC : ZdL ["self", "at", "place", "slot", "arg", "out"] ["self", "at", "place", "slot", "arg", "out"] (Zdx Zd5) := ⟨rfl, rfl, rfl, by decide +kernel, rfl, by decide +kernel, by decide +kernel⟩
theorem ZhT : ZdL ["self", "make"] ["self", "make"] (Zdx ZeH) := ⟨rfl, rfl, rfl, by decide +kernel, rfl, by decide +kernel, by decide +kernel⟩
theorem ZgD : ZdL ["self", "at", "place", "slot", "fields"] ["self", "at", "place", "slot", "fields"] (Zdx Zd6) := ⟨rfl, rfl, rfl, by decide +kernel, rfl, by decide +kernel, by decide +kernel⟩
theorem Zfq : ZdL ["self", "make", "made", "flows", "field"] ["self", "make"] (Zdx Zeq) := ⟨rfl, rfl, rfl, by decide +kernel, rfl, by decide +kernel, by decide +kernel⟩
theorem ZgE : ZdL ["self", "at", "place", "slot", "arms"] ["self", "at", "place", "slot", "arms"] (Zdx Zd7) := ⟨rfl, rfl, rfl, by decide +kernel, rfl, by decide +kernel, by decide +kernel⟩
theorem Zgx : ZdL ["self", "make", "arms"] ["self", "make"] (Zdx Zer) := ⟨rfl, rfl, rfl, by decide +kernel, rfl, by decide +kernel, by decide +kernel⟩
theorem ZgU : ZdL ["self", "at", "place", "slot", "out"] ["self", "at", "place", "slot", "out"] (Zdx Zd9) := ⟨rfl, rfl, rfl, by decide +kernel, rfl, by decide +kernel, by decide +kernel⟩
theorem ZiM : ZdL ["self", "make"] ["self", "make"] (Zdx ZeU) := ⟨rfl, rfl, rfl, by decide +kernel, rfl, by decide +kernel, by decide +kernel⟩
theorem Zg7 : ZdL ["self"] ["self"] (Zdx Zec) := ⟨rfl, rfl, rfl, by decide +kernel, rfl, by decide +kernel, by decide +kernel⟩
theorem ZhU : ZdL ["self", "place"] ["self", "place"] (Zdx ZeI) := ⟨rfl, rfl, rfl, by decide +kernel, rfl, by decide +kernel, by decide +kernel⟩
theorem ZiN : ZdL ["self", "shape", "parts", "at", "place"] ["self", "shape", "parts", "at", "place"] (Zdx ZeV) := ⟨rfl, rfl, rfl, by decide +kernel, rfl, by decide +kernel, by decide +kernel⟩
theorem ZjP : ZdL ["self", "one"] ["self", "one"] (Zdx Zff) := ⟨rfl, rfl, rfl, by decide +kernel, rfl, by decide +kernel, by decide +kernel⟩
theorem ZiO : ZdL ["self", "p", "q"] ["self", "p", "q"] (Zdx ZeW) := ⟨rfl, rfl, rfl, by decide +kernel, rfl, by decide +kernel, by decide +kernel⟩
theorem ZhK : ZdL ["self", "rows", "bads"] ["self", "rows", "bads"] (Zdx Zev) := ⟨rfl, rfl, rfl, by decide +kernel, rfl, by decide +kernel, by decide +kernel⟩
theorem Zgq : ZdL ["self", "board"] ["self", "board"] (Zdx Zd2) := ⟨rfl, rfl, rfl, by decide +kernel, rfl, by decide +kernel, by decide +kernel⟩
theorem Zgb : ZdL ["self", "word", "first", "second", "why", "beginning"] ["self", "word", "first", "second", "why"] (Zdx Zew) := ⟨rfl, rfl, rfl, by decide +kernel, rfl, by decide +kernel, by decide +kernel⟩
theorem Zf1 : ZdL ["self", "number", "row"] ["self", "number"] (Zdx Zej) := ⟨rfl, rfl, rfl, by decide +kernel, rfl, by decide +kernel, by decide +kernel⟩
theorem Zfu : ZdL ["self", "number", "p", "q", "here"] ["self", "number", "p", "q"] (Zdx ZdU) := ⟨rfl, rfl, rfl, by decide +kernel, rfl, by decide +kernel, by decide +kernel⟩
theorem ZeX : ZdL ["self", "number", "m", "p", "u", "flows"] ["self", "number", "m", "p"] (Zdx ZdV) := ⟨rfl, rfl, rfl, by decide +kernel, rfl, by decide +kernel, by decide +kernel⟩
theorem Zfv : ZdL ["self", "flows", "why", "flow"] ["self", "flows", "why"] (Zdx ZdW) := ⟨rfl, rfl, rfl, by decide +kernel, rfl, by decide +kernel, by decide +kernel⟩
theorem Zfw : ZdL ["self", "number", "m", "p", "going"] ["self", "number", "m", "p"] (Zdx ZdX) := ⟨rfl, rfl, rfl, by decide +kernel, rfl, by decide +kernel, by decide +kernel⟩
def Zk2 (K : PySem.W.Frag) : Sp := fun vs H Q _ => ∃ (a : Addr) (ns : List Int), vs = [.ref a] /\ SqL K H a (ns.map V.int) /\ ns.length <= 63 /\ ∀ H', Q (.bl true) H'
open BO.Internal
seal L2.Internal.PE L2.Internal.PA L2.Internal.PS L2.Internal.PSs L2.Internal.PT L2.Internal.PI
theorem ZfV {H H2 : Hp} {l : Addr} (s : ZdN H H2) (h : H l = none) (o : HO) : ZdN H (upd H2 l o) := fun b u e => by rw [ZdA (ZdD e h)]; exact s b u e
theorem Zru (a p s : V) : ZfQ "slot" s (ZfQ "place" p (ZfQ "at" a [])) = fU a p s := by
 have h1 : ¬ ("at" : Str) = "place" := by decide +kernel
 have h2 : ¬ ("at" : Str) = "slot" := by decide +kernel
 have h3 : ¬ ("place" : Str) = "slot" := by decide +kernel
 simp only [ZfQ, if_neg h1, if_neg h2, if_neg h3, fU]
theorem ZmY (n : Str) (a p s x : V) (h1 : ¬ ("at" : Str) = n) (h2 : ¬ ("place" : Str) = n) (h3 : ¬ ("slot" : Str) = n) : ZfQ n x (fU a p s) = fU1 n a p s x := by
 simp only [ZfQ, fU, if_neg h1, if_neg h2, if_neg h3, fU1]
theorem Zqx (a p s x y : V) : ZfQ "out" y (ZfQ "arg" x (fU a p s)) = fU2 a p s x y := by
 have h1 : ¬ ("at" : Str) = "arg" := by decide +kernel
 have h2 : ¬ ("place" : Str) = "arg" := by decide +kernel
 have h3 : ¬ ("slot" : Str) = "arg" := by decide +kernel
 have h4 : ¬ ("at" : Str) = "out" := by decide +kernel
 have h5 : ¬ ("place" : Str) = "out" := by decide +kernel
 have h6 : ¬ ("slot" : Str) = "out" := by decide +kernel
 have h7 : ¬ ("arg" : Str) = "out" := by decide +kernel
 simp only [ZfQ, fU, if_neg h1, if_neg h2, if_neg h3, if_neg h4, if_neg h5, if_neg h6, if_neg h7, fU2]
theorem Zrv (s f a p : V) : ZfQ "place" p (ZfQ "at" a (ZfQ "parts" f (ZfQ "shape" s []))) = fM s f a p := by
 have h1 : ¬ ("shape" : Str) = "parts" := by decide +kernel
 have h2 : ¬ ("shape" : Str) = "at" := by decide +kernel
 have h3 : ¬ ("shape" : Str) = "place" := by decide +kernel
 have h4 : ¬ ("parts" : Str) = "at" := by decide +kernel
 have h5 : ¬ ("parts" : Str) = "place" := by decide +kernel
 have h6 : ¬ ("at" : Str) = "place" := by decide +kernel
 simp only [ZfQ, if_neg h1, if_neg h2, if_neg h3, if_neg h4, if_neg h5, if_neg h6, fM]
theorem ZeY {f : Str} {v : V} {fs : List (Str × V)} {n : Nat} (h : fs.length < n) : (ZfQ f v fs).length < n + 1 := Nat.lt_of_le_of_lt (ZgA f v fs) (Nat.succ_lt_succ h)
theorem Zrw (a p s : V) : (fU a p s).lookup ("at" : Str) = some (a) := by
 unfold fU
 rw [ZaM, show (("at" : Str) == "at") = true by decide +kernel]
theorem ZmZ (a p s : V) : (fU a p s).lookup ("met" : Str) = none := by
 unfold fU
 rw [ZaM, show (("met" : Str) == "at") = false by decide +kernel, ZaM, show (("met" : Str) == "place") = false by decide +kernel, ZaM, show (("met" : Str) == "slot") = false by decide +kernel]
 rfl
theorem Zqy (a p s x y : V) : (fU2 a p s x y).lookup ("at" : Str) = some (a) := by
 unfold fU2
 rw [ZaM, show (("at" : Str) == "at") = true by decide +kernel]
theorem Zpl (a p s x y : V) : (fU2 a p s x y).lookup ("arg" : Str) = some (x) := by
 unfold fU2
 rw [ZaM, show (("arg" : Str) == "at") = false by decide +kernel, ZaM, show (("arg" : Str) == "place") = false by decide +kernel, ZaM, show (("arg" : Str) == "slot") = false by decide +kernel, ZaM, show (("arg" : Str) == "arg") = true by decide +kernel]
theorem Zpm (a p s x y : V) : (fU2 a p s x y).lookup ("out" : Str) = some (y) := by
 unfold fU2
 rw [ZaM, show (("out" : Str) == "at") = false by decide +kernel, ZaM, show (("out" : Str) == "place") = false by decide +kernel, ZaM, show (("out" : Str) == "slot") = false by decide +kernel, ZaM, show (("out" : Str) == "arg") = false by decide +kernel, ZaM, show (("out" : Str) == "out") = true by decide +kernel]
theorem ZlD (a p s x y : V) : (fU2 a p s x y).lookup ("met" : Str) = none := by
 unfold fU2
 rw [ZaM, show (("met" : Str) == "at") = false by decide +kernel, ZaM, show (("met" : Str) == "place") = false by decide +kernel, ZaM, show (("met" : Str) == "slot") = false by decide +kernel, ZaM, show (("met" : Str) == "arg") = false by decide +kernel, ZaM, show (("met" : Str) == "out") = false by decide +kernel]
 rfl
theorem ZgV (s f a p : V) : (fM s f a p).lookup ("shape" : Str) = some (s) := by
 unfold fM
 rw [ZaM, show (("shape" : Str) == "shape") = true by decide +kernel]
theorem ZfW (s f a p : V) : (fM s f a p).lookup ("parts" : Str) = some (f) := by
 unfold fM
 rw [ZaM, show (("parts" : Str) == "shape") = false by decide +kernel, ZaM, show (("parts" : Str) == "parts") = true by decide +kernel]
theorem Zrx (s f a p : V) : (fM s f a p).lookup ("at" : Str) = some (a) := by
 unfold fM
 rw [ZaM, show (("at" : Str) == "shape") = false by decide +kernel, ZaM, show (("at" : Str) == "parts") = false by decide +kernel, ZaM, show (("at" : Str) == "at") = true by decide +kernel]
theorem Zpn (a p s x : V) : (fU1 "fields" a p s x).lookup ("at" : Str) = some (a) := by
 unfold fU1
 rw [ZaM, show (("at" : Str) == "at") = true by decide +kernel]
theorem Zkk (a p s x : V) : (fU1 "fields" a p s x).lookup ("fields" : Str) = some (x) := by
 unfold fU1
 rw [ZaM, show (("fields" : Str) == "at") = false by decide +kernel, ZaM, show (("fields" : Str) == "place") = false by decide +kernel, ZaM, show (("fields" : Str) == "slot") = false by decide +kernel, ZaM, show (("fields" : Str) == "fields") = true by decide +kernel]
theorem Zkl (a p s x : V) : (fU1 "fields" a p s x).lookup ("met" : Str) = none := by
 unfold fU1
 rw [ZaM, show (("met" : Str) == "at") = false by decide +kernel, ZaM, show (("met" : Str) == "place") = false by decide +kernel, ZaM, show (("met" : Str) == "slot") = false by decide +kernel, ZaM, show (("met" : Str) == "fields") = false by decide +kernel]
 rfl
theorem Zpo (a p s x : V) : (fU1 "arms" a p s x).lookup ("at" : Str) = some (a) := by
 unfold fU1
 rw [ZaM, show (("at" : Str) == "at") = true by decide +kernel]
theorem Zm0 (a p s x : V) : (fU1 "arms" a p s x).lookup ("arms" : Str) = some (x) := by
 unfold fU1
 rw [ZaM, show (("arms" : Str) == "at") = false by decide +kernel, ZaM, show (("arms" : Str) == "place") = false by decide +kernel, ZaM, show (("arms" : Str) == "slot") = false by decide +kernel, ZaM, show (("arms" : Str) == "arms") = true by decide +kernel]
theorem Zkm (a p s x : V) : (fU1 "arms" a p s x).lookup ("met" : Str) = none := by
 unfold fU1
 rw [ZaM, show (("met" : Str) == "at") = false by decide +kernel, ZaM, show (("met" : Str) == "place") = false by decide +kernel, ZaM, show (("met" : Str) == "slot") = false by decide +kernel, ZaM, show (("met" : Str) == "arms") = false by decide +kernel]
 rfl
theorem Zpp (a p s x : V) : (fU1 "out" a p s x).lookup ("at" : Str) = some (a) := by
 unfold fU1
 rw [ZaM, show (("at" : Str) == "at") = true by decide +kernel]
theorem ZnT (a p s x : V) : (fU1 "out" a p s x).lookup ("out" : Str) = some (x) := by
 unfold fU1
 rw [ZaM, show (("out" : Str) == "at") = false by decide +kernel, ZaM, show (("out" : Str) == "place") = false by decide +kernel, ZaM, show (("out" : Str) == "slot") = false by decide +kernel, ZaM, show (("out" : Str) == "out") = true by decide +kernel]
theorem Zkn (a p s x : V) : (fU1 "out" a p s x).lookup ("met" : Str) = none := by
 unfold fU1
 rw [ZaM, show (("met" : Str) == "at") = false by decide +kernel, ZaM, show (("met" : Str) == "place") = false by decide +kernel, ZaM, show (("met" : Str) == "slot") = false by decide +kernel, ZaM, show (("met" : Str) == "out") = false by decide +kernel]
 rfl
section
variable {P : Program} {w : World} {K : PySem.W.Frag} {mg : Str -> Option Value} {base : Heap}
def ZhL (K : PySem.W.Frag) : Sp := fun vs H Q _ => ∃ (x C dx : Addr) (a p s : V), vs = [.ref x, a, p, s] /\ H x = some (.ins C dx []) /\ Cls K C /\ ZdP K C "at" /\ ZdP K C "place" /\ ZdP K C "slot" /\ Q .non (upd H x (.ins C dx (fU a p s)))
theorem ZeZ (T : Txt K mg) : Zfi P w K mg base CX0 1 T.a_Use___init__ T.fd_Use___init__ ["self", "at", "place", "slot"] (ZhL K) := by
 refine T.F_Use___init__.ok ZhJ (fun vs H Q E h => ?_) (fun cdv A outer s H vs Q E hr h => ?_)
 ·obtain ⟨x, C, dx, a, p, s, rfl, _⟩ := h
  rfl
 obtain ⟨x, C, dx, a, p, sl, rfl, hx, cl, n1, n2, n3, q⟩ := h
 refine ⟨_, (Zdw (ZeA (pv 0) (pv 1) rfl)
  (Zdw (ZeA (pv 0) (pv 2) rfl)
  (ZdB (ZeA (pv 0) (pv 3) rfl)))), ?_⟩
 refine ⟨_, rfl, _, rfl, x, C, dx, [], rfl, hx, cl, n1, (by show 0 < 1000; decide), ?_⟩
 refine ⟨_, rfl, _, rfl, x, C, dx, _, rfl, Zdt, cl, n2, (by show 1 < 1000; decide), ?_⟩
 refine ⟨_, rfl, _, rfl, x, C, dx, _, rfl, Zdt, cl, n3, ZeY (ZeY (by show 0 < 998; decide)), ?_⟩
 rw [Zes, Zes, Zru]
 exact q
def ZgF (C : Addr) : Sp := fun vs H Q _ => ∃ (x dx : Addr) (a p s y z : V), vs = [.ref x, a, p, s, y, z] /\ H x = some (.ins C dx []) /\ Q .non (upd H x (.ins C dx (fU2 a p s y z)))
theorem ZgG (T : Txt K mg) : Zfi P w K mg base CX0 2 T.a_CallUse___init__ T.fd_CallUse___init__ ["self", "at", "place", "slot", "arg", "out"] (ZgF T.a_CallUse) := by
 have G_Use___init__ := ZeZ (P := P) (w := w) (base := base) T
 refine T.F_CallUse___init__.ok ZgC (fun vs H Q E h => ?_) (fun cdv A outer s H vs Q E hr h => ?_)
 ·obtain ⟨x, dx, a, p, s, y, z, rfl, _⟩ := h
  rfl
 obtain ⟨x, dx, a, p, sl, y, z, rfl, hx, q⟩ := h
 refine ⟨_, (Zdw (ZdT (Zix (Zny rfl T.m_Use) T.cm_Use___init__ G_Use___init__ (hr.mono (by decide)) T.b_Use___init__ .nil ZdR (Zds (pv 0) (Zds (pv 1) (Zds (pv 2) (Zds (pv 3) Zdu))))))
  (Zdw (ZeA (pv 0) (pv 4) rfl)
  (ZdB (ZeA (pv 0) (pv 5) rfl)))), ?_⟩
 refine ⟨_, rfl, _, rfl, _, rfl, _, rfl, x, _, dx, a, p, sl, rfl, hx, T.cl_CallUse, T.n_CallUse_at, T.n_CallUse_place, T.n_CallUse_slot, ?_⟩
 refine ⟨_, rfl, _, rfl, x, _, dx, _, rfl, Zdt, T.cl_CallUse, T.n_CallUse_arg, (by show 3 < 1000; decide), ?_⟩
 refine ⟨_, rfl, _, rfl, x, _, dx, _, rfl, Zdt, T.cl_CallUse, T.n_CallUse_out, ZeY (by show 3 < 999; decide), ?_⟩
 rw [Zes, Zes, Zqx]
 exact q
def Zpq (C : Addr) (n : Str) : Sp := fun vs H Q _ => ∃ (x dx : Addr) (a p s y : V), vs = [.ref x, a, p, s, y] /\ H x = some (.ins C dx []) /\ Q .non (upd H x (.ins C dx (fU1 n a p s y)))
theorem ZgH (T : Txt K mg) : Zfi P w K mg base CX0 2 T.a_TakeUse___init__ T.fd_TakeUse___init__ ["self", "at", "place", "slot", "fields"] (Zpq T.a_TakeUse "fields") := by
 have G_Use___init__ := ZeZ (P := P) (w := w) (base := base) T
 refine T.F_TakeUse___init__.ok ZgD (fun vs H Q E h => ?_) (fun cdv A outer s H vs Q E hr h => ?_)
 ·obtain ⟨x, dx, a, p, s, y, rfl, _⟩ := h
  rfl
 obtain ⟨x, dx, a, p, sl, y, rfl, hx, q⟩ := h
 refine ⟨_, (Zdw (ZdT (Zix (Zny rfl T.m_Use) T.cm_Use___init__ G_Use___init__ (hr.mono (by decide)) T.b_Use___init__ .nil ZdR (Zds (pv 0) (Zds (pv 1) (Zds (pv 2) (Zds (pv 3) Zdu))))))
  (ZdB (ZeA (pv 0) (pv 4) rfl))), ?_⟩
 refine ⟨_, rfl, _, rfl, _, rfl, _, rfl, x, _, dx, a, p, sl, rfl, hx, T.cl_TakeUse, T.n_TakeUse_at, T.n_TakeUse_place, T.n_TakeUse_slot, ?_⟩
 refine ⟨_, rfl, _, rfl, x, _, dx, _, rfl, Zdt, T.cl_TakeUse, T.n_TakeUse_fields, (by show 3 < 1000; decide), ?_⟩
 rw [Zes, ZmY "fields" a p sl y (by decide +kernel) (by decide +kernel) (by decide +kernel)]
 exact q
theorem ZgI (T : Txt K mg) : Zfi P w K mg base CX0 2 T.a_CaseUse___init__ T.fd_CaseUse___init__ ["self", "at", "place", "slot", "arms"] (Zpq T.a_CaseUse "arms") := by
 have G_Use___init__ := ZeZ (P := P) (w := w) (base := base) T
 refine T.F_CaseUse___init__.ok ZgE (fun vs H Q E h => ?_) (fun cdv A outer s H vs Q E hr h => ?_)
 ·obtain ⟨x, dx, a, p, s, y, rfl, _⟩ := h
  rfl
 obtain ⟨x, dx, a, p, sl, y, rfl, hx, q⟩ := h
 refine ⟨_, (Zdw (ZdT (Zix (Zny rfl T.m_Use) T.cm_Use___init__ G_Use___init__ (hr.mono (by decide)) T.b_Use___init__ .nil ZdR (Zds (pv 0) (Zds (pv 1) (Zds (pv 2) (Zds (pv 3) Zdu))))))
  (ZdB (ZeA (pv 0) (pv 4) rfl))), ?_⟩
 refine ⟨_, rfl, _, rfl, _, rfl, _, rfl, x, _, dx, a, p, sl, rfl, hx, T.cl_CaseUse, T.n_CaseUse_at, T.n_CaseUse_place, T.n_CaseUse_slot, ?_⟩
 refine ⟨_, rfl, _, rfl, x, _, dx, _, rfl, Zdt, T.cl_CaseUse, T.n_CaseUse_arms, (by show 3 < 1000; decide), ?_⟩
 rw [Zes, ZmY "arms" a p sl y (by decide +kernel) (by decide +kernel) (by decide +kernel)]
 exact q
theorem ZgW (T : Txt K mg) : Zfi P w K mg base CX0 2 T.a_RowUse___init__ T.fd_RowUse___init__ ["self", "at", "place", "slot", "out"] (Zpq T.a_RowUse "out") := by
 have G_Use___init__ := ZeZ (P := P) (w := w) (base := base) T
 refine T.F_RowUse___init__.ok ZgU (fun vs H Q E h => ?_) (fun cdv A outer s H vs Q E hr h => ?_)
 ·obtain ⟨x, dx, a, p, s, y, rfl, _⟩ := h
  rfl
 obtain ⟨x, dx, a, p, sl, y, rfl, hx, q⟩ := h
 refine ⟨_, (Zdw (ZdT (Zix (Zny rfl T.m_Use) T.cm_Use___init__ G_Use___init__ (hr.mono (by decide)) T.b_Use___init__ .nil ZdR (Zds (pv 0) (Zds (pv 1) (Zds (pv 2) (Zds (pv 3) Zdu))))))
  (ZdB (ZeA (pv 0) (pv 4) rfl))), ?_⟩
 refine ⟨_, rfl, _, rfl, _, rfl, _, rfl, x, _, dx, a, p, sl, rfl, hx, T.cl_RowUse, T.n_RowUse_at, T.n_RowUse_place, T.n_RowUse_slot, ?_⟩
 refine ⟨_, rfl, _, rfl, x, _, dx, _, rfl, Zdt, T.cl_RowUse, T.n_RowUse_out, (by show 3 < 1000; decide), ?_⟩
 rw [Zes, ZmY "out" a p sl y (by decide +kernel) (by decide +kernel) (by decide +kernel)]
 exact q
def Zhi (C : Addr) : Sp := fun vs H Q _ => ∃ (x dx : Addr) (s f a p : V), vs = [.ref x, s, f, a, p] /\ H x = some (.ins C dx []) /\ Q .non (upd H x (.ins C dx (fM s f a p)))
theorem Zhj (T : Txt K mg) : Zfi P w K mg base CX0 1 T.a_Make___init__ T.fd_Make___init__ ["self", "shape", "parts", "at", "place"] (Zhi T.a_Make) := by
 refine T.F_Make___init__.ok Zhh (fun vs H Q E h => ?_) (fun cdv A outer s H vs Q E hr h => ?_)
 ·obtain ⟨x, dx, s, f, a, p, rfl, _⟩ := h
  rfl
 obtain ⟨x, dx, sh, f, a, p, rfl, hx, q⟩ := h
 refine ⟨_, (Zdw (ZeA (pv 0) (pv 1) rfl)
  (Zdw (ZeA (pv 0) (pv 2) rfl)
  (Zdw (ZeA (pv 0) (pv 3) rfl)
  (ZdB (ZeA (pv 0) (pv 4) rfl))))), ?_⟩
 refine ⟨_, rfl, _, rfl, x, _, dx, [], rfl, hx, T.cl_Make, T.n_Make_shape, (by show 0 < 1000; decide), ?_⟩
 refine ⟨_, rfl, _, rfl, x, _, dx, _, rfl, Zdt, T.cl_Make, T.n_Make_parts, (by show 1 < 1000; decide), ?_⟩
 refine ⟨_, rfl, _, rfl, x, _, dx, _, rfl, Zdt, T.cl_Make, T.n_Make_at, ZeY (ZeY (by show 0 < 998; decide)), ?_⟩
 refine ⟨_, rfl, _, rfl, x, _, dx, _, rfl, Zdt, T.cl_Make, T.n_Make_place, ZeY (ZeY (ZeY (by show 0 < 997; decide))), ?_⟩
 rw [Zes, Zes, Zes, Zrv]
 exact q
end
section
variable {P : Program} {w : World} {K : PySem.W.Frag} {mg : Str -> Option Value} {base : Heap}
noncomputable def cs (T : Txt K mg) : Cs := ⟨T.a_Make, T.a_NumUse, T.a_CallUse, T.a_TakeUse, T.a_CaseUse, T.a_RowUse, T.a_Board⟩
theorem ns {x y : Str} (h : x ≠ y) : decide (V.str x = V.str y) = false := decide_eq_false fun z => by injection z with z; exact h z
theorem Mf.is_num {m : Mf} (h : m.s = "num") : m = .num := by
 cases m <;> first | rfl | exact absurd h (by simp only [Mf.s]; decide +kernel)
theorem Mf.is_fn {m : Mf} (h : m.s = "fn") : ∃ x y, m = .fn x y := by
 cases m <;> first | exact ⟨_, _, rfl⟩ | exact absurd h (by simp only [Mf.s]; decide +kernel)
theorem Mf.is_rcd {m : Mf} (h : m.s = "rec") : ∃ l, m = .rcd l := by
 cases m <;> first | exact ⟨_, rfl⟩ | exact absurd h (by simp only [Mf.s]; decide +kernel)
theorem Mf.is_tag {m : Mf} (h : m.s = "tag") : ∃ x y, m = .tag x y := by
 cases m <;> first | exact ⟨_, _, rfl⟩ | exact absurd h (by simp only [Mf.s]; decide +kernel)
theorem Mf.is_row {m : Mf} (h : m.s = "row") : ∃ x, m = .row x := by
 cases m <;> first | exact ⟨_, rfl⟩ | exact absurd h (by simp only [Mf.s]; decide +kernel)
theorem Zqz {a p s : Int} {m : Mf} (h : m.s ≠ "num") : Zj2 (.num a p s) m = none := by
 cases m <;> first | rfl | exact absurd rfl h
theorem Zry {a p s x y : Int} {m : Mf} (h : m.s ≠ "fn") : Zj2 (.call a p s x y) m = none := by
 cases m <;> first | rfl | exact absurd rfl h
theorem ZqA {a p s : Int} {l : List (Str × Int)} {m : Mf} (h : m.s ≠ "rec") : Zj2 (.take a p s l) m = none := by
 cases m <;> first | rfl | exact absurd rfl h
theorem ZqB {a p s : Int} {l : List (Str × Int)} {m : Mf} (h : m.s ≠ "tag") : Zj2 (.case a p s l) m = none := by
 cases m <;> first | rfl | exact absurd rfl h
theorem ZqC {a p s x : Int} {m : Mf} (h : m.s ≠ "row") : Zj2 (.row a p s x) m = none := by
 cases m <;> first | rfl | exact absurd rfl h
def ZjQ (c : Cs) (f : Us -> Prop) : Sp := fun vs H Q _ => ∃ (xv mv : V) (u : Us) (m : Mf) (ma mp : Int), vs = [xv, mv] /\ f u /\ u.dist /\ UsAt c H xv u /\ Zic c H mv (mkg m ma mp) /\ m.ok /\ ∀ v H', ZdN H H' -> Dta H' v (mtD (Zj2 u m)) -> Q v H'
theorem ZfO {H : Hp} {f : V} {l : List Dt} (h : Im H f (.tup l)) : ∃ t xs, f = .ref t /\ H t = some (.tup xs) /\ Ims H xs l := by
 cases h with
 | tup e hs => exact ⟨_, _, rfl, e, hs⟩
theorem Zrz {H : Hp} {xs : List V} {i : V} (h : Ims H xs [.flat i]) : xs = [i] := by
 cases h with
 | cons h hs => cases h; cases hs; rfl
theorem Zpr {H : Hp} {xs : List V} {i j : V} (h : Ims H xs [.flat i, .flat j]) : xs = [i, j] := by
 cases h with
 | cons h hs =>
  cases h
  rw [Zrz hs]
theorem ZiP (T : Txt K mg) : Zfi P w K mg base CX0 1 T.a_NumUse_met T.fd_NumUse_met ["self", "make"] (ZjQ (cs T) fun u => ∃ a p s, u = .num a p s) := by
 refine T.F_NumUse_met.ok ZiL (fun vs H Q E h => ?_) (fun cdv A outer s H vs Q E hr h => ?_)
 ·obtain ⟨xv, mv, u, m, ma, mp, rfl, _⟩ := h
  rfl
 obtain ⟨xv, mv, u, m, ma, mp, rfl, ⟨a, p, sl, rfl⟩, hd, ⟨x, dx, rfl, hx⟩, ⟨xm, dxm, f, rfl, hm, hf, _, _⟩, mo, q⟩ := h
 refine ⟨_, (Zdw (Zez (Zg1 Zlf (Zex (pv 1) rfl) ZdZ (Zd3 _))
   (ZdB (ZdO Zgs))
   ZdS)
  (ZdB (ZdO (Zem Zdu)))), ?_⟩
 refine ⟨_, rfl, xm, _, dxm, _, _, rfl, hm, T.cl_Make, T.n_Make_shape, ZgV _ _ _ _, rfl, _, rfl, ?_⟩
 by_cases e : m.s = "num"
 ·rw [show decide (V.str (mkg m ma mp).s = V.str "num") = true from decide_eq_true (congrArg V.str e)]
  obtain rfl := Mf.is_num e
  exact ZfA ⟨(by show 0 <= sizeLine; decide), fun l hl => q _ _ (Zdz hl _) (.lst Zdt .nil)⟩
 ·rw [show decide (V.str (mkg m ma mp).s = V.str "num") = false from ns e]
  exact ZgJ (q .non H (ZdN.refl _) (by rw [Zqz e]; exact .flat rfl))
theorem ZhV (T : Txt K mg) : Zfi P w K mg base CX0 1 T.a_CallUse_met T.fd_CallUse_met ["self", "make"] (ZjQ (cs T) fun u => ∃ a p s x y, u = .call a p s x y) := by
 refine T.F_CallUse_met.ok ZhT (fun vs H Q E h => ?_) (fun cdv A outer s H vs Q E hr h => ?_)
 ·obtain ⟨xv, mv, u, m, ma, mp, rfl, _⟩ := h
  rfl
 obtain ⟨xv, mv, u, m, ma, mp, rfl, ⟨a, p, sl, y, z, rfl⟩, hd, ⟨x, dx, rfl, hx⟩, ⟨xm, dxm, f, rfl, hm, hf, _, _⟩, mo, q⟩ := h
 refine ⟨_, (Zdw (Zez (Zg1 Zlf (Zex (pv 1) rfl) ZdZ (Zd3 _))
   (ZdB (ZdO Zgs))
   ZdS)
  (ZdB (ZdO (Zem (Zds (Zel (Zds (Zex (pv 0) rfl) (Zds (ZdF Zgt (Zex (pv 1) rfl) Zdv (fun _ _ => rfl)) Zdu))) (Zds (Zel (Zds (ZdF Zgt (Zex (pv 1) rfl) Zdv (fun _ _ => rfl)) (Zds (Zex (pv 0) rfl) Zdu))) Zdu)))))), ?_⟩
 refine ⟨_, rfl, xm, _, dxm, _, _, rfl, hm, T.cl_Make, T.n_Make_shape, ZgV _ _ _ _, rfl, _, rfl, ?_⟩
 by_cases e : m.s = "fn"
 ·rw [show decide (V.str (mkg m ma mp).s = V.str "fn") = true from decide_eq_true (congrArg V.str e)]
  obtain ⟨u, v, rfl⟩ := Mf.is_fn e
  obtain ⟨t, xs, rfl, et, hs⟩ := ZfO hf
  obtain rfl := Zpr hs
  refine ZfA ⟨_, rfl, x, _, dx, _, _, rfl, hx, T.cl_CallUse, T.n_CallUse_arg, Zpl _ _ _ _ _, _, rfl, xm, _, dxm, _, _, rfl, hm, T.cl_Make, T.n_Make_parts, ZfW _ _ _ _, t, _, _, _, rfl, rfl, SqT.of et, Zdy (j := 0) rfl, (by show 2 <= sizeLine; decide), fun t1 h1 => ?_⟩
  have S1 := Zdz h1 (.tup [.int y, .int u])
  refine ⟨_, rfl, xm, _, dxm, _, _, rfl, S1 _ _ hm, T.cl_Make, T.n_Make_parts, ZfW _ _ _ _, t, _, _, _, rfl, rfl, SqT.of (S1 _ _ et), Zdy (j := 1) rfl, _, rfl, x, _, dx, _, _, rfl, S1 _ _ hx, T.cl_CallUse, T.n_CallUse_out, Zpm _ _ _ _ _, (by show 2 <= sizeLine; decide), fun t2 h2 => ?_⟩
  have S2 := Zdz h2 (.tup [.int v, .int z])
  refine ⟨(by show 2 <= sizeLine; decide), fun l hl => ?_⟩
  have S3 := Zdz hl (.lst [.ref t1, .ref t2])
  refine q _ _ ((S1.trans S2).trans S3) (.lst Zdt (.cons (.tup (S3 _ _ (S2 _ _ Zdt)) (.cons (.flat rfl) (.cons (.flat rfl) .nil))) (.cons (.tup (S3 _ _ Zdt) (.cons (.flat rfl) (.cons (.flat rfl) .nil))) .nil)))
 ·rw [show decide (V.str (mkg m ma mp).s = V.str "fn") = false from ns e]
  exact ZgJ (q .non H (ZdN.refl _) (by rw [Zry e]; exact .flat rfl))
theorem ZiQ (T : Txt K mg) : Zfi P w K mg base CX0 1 T.a_RowUse_met T.fd_RowUse_met ["self", "make"] (ZjQ (cs T) fun u => ∃ a p s x, u = .row a p s x) := by
 refine T.F_RowUse_met.ok ZiM (fun vs H Q E h => ?_) (fun cdv A outer s H vs Q E hr h => ?_)
 ·obtain ⟨xv, mv, u, m, ma, mp, rfl, _⟩ := h
  rfl
 obtain ⟨xv, mv, u, m, ma, mp, rfl, ⟨a, p, sl, y, rfl⟩, hd, ⟨x, dx, rfl, hx⟩, ⟨xm, dxm, f, rfl, hm, hf, _, _⟩, mo, q⟩ := h
 refine ⟨_, (Zdw (Zez (Zg1 Zlf (Zex (pv 1) rfl) ZdZ (Zd3 _))
   (ZdB (ZdO Zgs))
   ZdS)
  (ZdB (ZdO (Zem (Zds (Zel (Zds (ZdF Zgt (Zex (pv 1) rfl) Zdv (fun _ _ => rfl)) (Zds (Zex (pv 0) rfl) Zdu))) Zdu))))), ?_⟩
 refine ⟨_, rfl, xm, _, dxm, _, _, rfl, hm, T.cl_Make, T.n_Make_shape, ZgV _ _ _ _, rfl, _, rfl, ?_⟩
 by_cases e : m.s = "row"
 ·rw [show decide (V.str (mkg m ma mp).s = V.str "row") = true from decide_eq_true (congrArg V.str e)]
  obtain ⟨u, rfl⟩ := Mf.is_row e
  obtain ⟨t, xs, rfl, et, hs⟩ := ZfO hf
  obtain rfl := Zrz hs
  refine ZfA ⟨_, rfl, xm, _, dxm, _, _, rfl, hm, T.cl_Make, T.n_Make_parts, ZfW _ _ _ _, t, _, _, _, rfl, rfl, SqT.of et, Zdy (j := 0) rfl, _, rfl, x, _, dx, _, _, rfl, hx, T.cl_RowUse, T.n_RowUse_out, ZnT _ _ _ _, (by show 2 <= sizeLine; decide), fun t1 h1 => ?_⟩
  refine ⟨(by show 1 <= sizeLine; decide), fun l hl => ?_⟩
  have S1 := Zdz h1 (.tup [.int u, .int y])
  have S3 := Zdz hl (.lst [.ref t1])
  refine q _ _ (S1.trans S3) (.lst Zdt (.cons (.tup (S3 _ _ Zdt) (.cons (.flat rfl) (.cons (.flat rfl) .nil))) .nil))
 ·rw [show decide (V.str (mkg m ma mp).s = V.str "row") = false from ns e]
  exact ZgJ (q .non H (ZdN.refl _) (by rw [ZqC e]; exact .flat rfl))
theorem ZhW (T : Txt K mg) : Zfi P w K mg base CX0 1 T.a_CaseUse_met T.fd_CaseUse_met ["self", "make"] (ZjQ (cs T) fun u => ∃ a p s l, u = .case a p s l) := by
 refine T.F_CaseUse_met.ok Zgx (fun vs H Q E h => ?_) (fun cdv A outer s H vs Q E hr h => ?_)
 ·obtain ⟨xv, mv, u, m, ma, mp, rfl, _⟩ := h
  rfl
 have hu : (A.deeper (Zdr "CaseUse.met" (Zdx Zer) s.heap.objs.size T.a_CaseUse_met cdv)).units + 1 < cLine := by have := hr.un; omega
 obtain ⟨xv, mv, u, m, ma, mp, rfl, ⟨a, p, sl, l, rfl⟩, hd, ⟨x, dx, g, rfl, hx, hg, hl⟩, ⟨xm, dxm, f, rfl, hm, hf, _, _⟩, mo, q⟩ := h
 refine ⟨_, (Zdw (Zez (Zg1 Zlf (Zex (pv 1) rfl) ZdZ (Zd3 _))
   (ZdB (ZdO Zgs))
   ZdS)
  (Zdw (Zd1 (i := 2) Zgx.nd rfl (.inl rfl) (Zfj (Zib rfl) rfl T.z_dict Zmd (Zds (Zex (pv 0) rfl) Zdu)))
  (Zdw (Zez (Zjg (Zhv hu (ZdF Zgt (Zex (pv 1) rfl) Zdv (fun _ _ => rfl)) (pv 2)) rfl)
   (ZdB (ZdO Zgs))
   ZdS)
  (ZdB (ZdO (Zem (Zds (Zel (Zds (ZdF Zgt (Zex (pv 1) rfl) Zdv (fun _ _ => rfl)) (Zds (Zl8 hu (pv 2) (ZdF Zgt (Zex (pv 1) rfl) Zdv (fun _ _ => rfl)) (fun _ _ => rfl)) Zdu))) Zdu))))))), ?_⟩
 refine ⟨_, rfl, xm, _, dxm, _, _, rfl, hm, T.cl_Make, T.n_Make_shape, ZgV _ _ _ _, rfl, _, rfl, ?_⟩
 by_cases e : m.s = "tag"
 ·rw [show decide (V.str (mkg m ma mp).s = V.str "tag") = true from decide_eq_true (congrArg V.str e)]
  obtain ⟨u, v, rfl⟩ := Mf.is_tag e
  obtain ⟨t, xs, rfl, et, hs⟩ := ZfO hf
  obtain rfl := Zpr hs
  obtain ⟨tg, ys, rfl, eg, hys⟩ := ZfO hg
  refine ZfA ⟨_, rfl, x, _, dx, _, _, rfl, hx, T.cl_CaseUse, T.n_CaseUse_arms, Zm0 _ _ _ _, tg, ys, _, rfl, eg, Zo2 hys, by rw [Zar]; omega, fun d hd2 => ?_⟩
  have S1 := Zdz hd2 (.dK (Zfx [] ((l.map pI).map kf)))
  have ev := Zg5 l [] u hd
  have dg : ∀ {H5 : Hp}, H5 d = some (.dK (Zfx [] ((l.map pI).map kf))) -> Zh9 H5 d (.str u) (Zfs (Zfx [] ((l.map pI).map kf)) (Sum.inr u)) := fun h5 => Zh9.k (k := (Sum.inr u : Key)) h5
  refine ⟨_, rfl, xm, _, dxm, _, _, rfl, S1 _ _ hm, T.cl_Make, T.n_Make_parts, ZfW _ _ _ _, t, _, _, _, rfl, rfl, SqT.of (S1 _ _ et), Zdy (j := 0) rfl, _, rfl, d, _, rfl, dg Zdt, _, rfl, ?_⟩
  cases ek : lk l u with
  | none =>
   rw [ev, ek]
   exact ZgJ (q .non _ S1 (by rw [Zj2, ek]; exact .flat rfl))
  | some i =>
   replace ev : Zfs (Zfx [] ((l.map pI).map kf)) (Sum.inr u) = some (.int i) := by rw [ev, ek]
   rw [ev]
   refine ZfA ⟨_, rfl, xm, _, dxm, _, _, rfl, S1 _ _ hm, T.cl_Make, T.n_Make_parts, ZfW _ _ _ _, t, _, _, _, rfl, rfl, SqT.of (S1 _ _ et), Zdy (j := 1) rfl, _, rfl, _, rfl, xm, _, dxm, _, _, rfl, S1 _ _ hm, T.cl_Make, T.n_Make_parts, ZfW _ _ _ _, t, _, _, _, rfl, rfl, SqT.of (S1 _ _ et), Zdy (j := 0) rfl, d, .int i, rfl, (by rw [<- ev]; exact dg Zdt), (by show 2 <= sizeLine; decide), fun t1 h1 => ?_⟩
   refine ⟨(by show 1 <= sizeLine; decide), fun l2 hl2 => ?_⟩
   have S2 := Zdz h1 (.tup [.int v, .int i])
   have S3 := Zdz hl2 (.lst [.ref t1])
   refine q _ _ ((S1.trans S2).trans S3) ?_
   rw [Zj2, ek]
   exact .lst Zdt (.cons (.tup (S3 _ _ Zdt) (.cons (.flat rfl) (.cons (.flat rfl) .nil))) .nil)
 ·rw [show decide (V.str (mkg m ma mp).s = V.str "tag") = false from ns e]
  exact ZgJ (q .non H (ZdN.refl _) (by rw [ZqB e]; exact .flat rfl))
end
section
variable {P : Program} {w : World} {K : PySem.W.Frag} {mg : Str -> Option Value} {base : Heap}
theorem ZlE {l m : List (Str × Int)} {k : Nat} {p : Str × Int} {x : Int} (e : l[k]? = some p) (ek : lk m p.1 = some x) : (l.take (k + 1)).filterMap (fnd m) = (l.take k).filterMap (fnd m) ++ [(x, p.2)] := by
 rw [Zbj, e, Option.toList, List.filterMap_append]
 have : fnd m p = some (x, p.2) := by rw [fnd, ek]; rfl
 simp [this]
theorem ZhX (T : Txt K mg) : Zfi P w K mg base CX0 1 T.a_TakeUse_met T.fd_TakeUse_met ["self", "make"] (ZjQ (cs T) fun u => ∃ a p s l, u = .take a p s l) := by
 refine T.F_TakeUse_met.ok Zfq (fun vs H Q E h => ?_) (fun cdv A outer s H vs Q E hr h => ?_)
 ·obtain ⟨xv, mv, u, m, ma, mp, rfl, _⟩ := h
  rfl
 have hu : (A.deeper (Zdr "TakeUse.met" (Zdx Zeq) s.heap.objs.size T.a_TakeUse_met cdv)).units + 1 < cLine := by have := hr.un; omega
 obtain ⟨xv, mv, u, m, ma, mp, rfl, ⟨a, p, sl, l, rfl⟩, hd, ⟨x, dx, g, rfl, hx, hg, hl⟩, ⟨xm, dxm, f, rfl, hm, hf, _, _⟩, mo, q⟩ := h
 refine ⟨_, (Zdw (Zez (Zg1 Zlf (Zex (pv 1) rfl) ZdZ (Zd3 _))
   (ZdB (ZdO Zgs))
   ZdS)
  (Zdw (Zd1 (i := 2) Zfq.nd rfl (.inl rfl) (Zfj (Zib rfl) rfl T.z_dict Zmd (Zds (Zex (pv 1) rfl) Zdu)))
  (Zdw (Zd1 (i := 3) Zfq.nd rfl (.inl rfl) (Zem Zdu))
  (Zdw (Ze3 PassesOwn.never rfl (Zn3 (Zex (pv 0) rfl)) (Zeb (i := 4) Zfq.nd rfl (.inl rfl))
   (Zdw (Zez (Zjg (Zhv hu (ZdF Zgt (pv 4) Zdv (fun _ _ => rfl)) (pv 2)) rfl)
    (ZdB (ZdO Zgs))
    ZdS)
   (ZdB (ZdT (ZgB ZcU ZcV ZcW Zea (pv 3) (Zds (Zel (Zds (Zl8 hu (pv 2) (ZdF Zgt (pv 4) Zdv (fun _ _ => rfl)) (fun _ _ => rfl)) (Zds (ZdF Zgt (pv 4) Zdv (fun _ _ => rfl)) Zdu))) Zdu))))))
  (ZdB (ZdO (pv 3))))))), ?_⟩
 have sl : sizeLine = 16777216 := sizeLine_eq
 refine ⟨_, rfl, xm, _, dxm, _, _, rfl, hm, T.cl_Make, T.n_Make_shape, ZgV _ _ _ _, rfl, _, rfl, ?_⟩
 by_cases e : m.s = "rec"
 ·rw [show decide (V.str (mkg m ma mp).s = V.str "rec") = true from decide_eq_true (congrArg V.str e)]
  obtain ⟨m, rfl⟩ := Mf.is_rcd e
  obtain ⟨t, xs, rfl, et, hs⟩ := ZfO hf
  obtain ⟨tg, ys, rfl, eg, hys⟩ := ZfO hg
  have ly := hys.length
  rw [Zar] at ly
  refine ZfA ⟨_, rfl, xm, _, dxm, _, _, rfl, hm, T.cl_Make, T.n_Make_parts, ZfW _ _ _ _, t, xs, _, rfl, et, Zo2 hs, by rw [Zar]; have := mo.1; omega, fun d hd2 => ?_⟩
  have S1 := Zdz hd2 (.dK (Zfx [] ((m.map pI).map kf)))
  have ed : (upd H d (.dK (Zfx [] ((m.map pI).map kf)))) d = some (.dK (Zfx [] ((m.map pI).map kf))) := Zdt
  generalize upd H d (.dK (Zfx [] ((m.map pI).map kf))) = H1 at S1 ed
  refine ⟨(by show 0 <= sizeLine; decide), fun fl hfl => ?_⟩
  have S2 := S1.trans (Zdz hfl (.lst []))
  have fr : H fl = none := by
   cases h : H fl with
   | none => rfl
   | some o => rw [S1 _ _ h] at hfl; cases hfl
  have ed2 := Zdz hfl (.lst []) _ _ ed
  refine ⟨_, rfl, x, _, dx, _, _, rfl, S2 _ _ hx, T.cl_TakeUse, T.n_TakeUse_fields, Zkk _ _ _ _, tg, rfl, ⟨_, SqT.of (S2 _ _ eg)⟩, ZoD (xs := ys) (fun i σ H2 => ∃ (o : Option V) (zs : List V), σ = [some (.ref x), some (.ref xm), some (.ref d), some (.ref fl), o] /\ ZdN H H2 /\ H2 d = some (.dK (Zfx [] ((m.map pI).map kf))) /\ H2 fl = some (.lst zs) /\ zs.length = i /\ Ims H2 zs (((l.take i).filterMap (fnd m)).map flD))
   ⟨none, [], rfl, S2, ed2, Zdt, rfl, .nil⟩ (fun i σ H2 _ ⟨_, _, _, S, _⟩ => SqT.of (S _ _ eg)) ?_ ?_⟩
  ·rintro i v σ H2 hv ⟨o, zs, rfl, S, hd3, hf3, hzl, hz⟩
   have hi : i < ys.length := (Zaj.mp hv).1
   obtain ⟨pr, tt, e1, rfl, e2⟩ := Zof (hys.mono (ZdN.tk S)) hv
   have ev := Zg5 m [] pr.1 mo.2
   have dg : ∀ {H5 : Hp}, H5 d = some (.dK (Zfx [] ((m.map pI).map kf))) -> Zh9 H5 d (.str pr.1) (Zfs (Zfx [] ((m.map pI).map kf)) (Sum.inr pr.1)) := fun h5 => Zh9.k (k := (Sum.inr pr.1 : Key)) h5
   refine ⟨_, rfl, tt, _, _, _, rfl, rfl, SqT.of e2, Zdy (j := 0) rfl, _, rfl, d, _, rfl, dg hd3, _, rfl, ?_⟩
   cases ek : lk m pr.1 with
   | none =>
    rw [ev, ek]
    exact ZgJ (q .non _ S (by rw [Zj2, Zlw (ZaB e1) ek]; exact .flat rfl))
   | some z =>
    replace ev : Zfs (Zfx [] ((m.map pI).map kf)) (Sum.inr pr.1) = some (.int z) := by rw [ev, ek]
    rw [ev]
    refine ZfA ⟨_, rfl, .inl ⟨rfl, _, SqL.of hf3⟩, _, rfl, _, rfl, tt, _, _, _, rfl, rfl, SqT.of e2, Zdy (j := 0) rfl, d, .int z, rfl, (by rw [<- ev]; exact dg hd3), _, rfl, tt, _, _, _, rfl, rfl, SqT.of e2, Zdy (j := 1) rfl, (by show 2 <= sizeLine; decide), fun t1 h1 => ?_⟩
    have S3 := Zdz h1 (.tup [.int z, .int pr.2])
    have hf4 := S3 _ _ hf3
    refine ⟨fl, _, _, rfl, rfl, hf4, by omega, ?_⟩
    have nd : d ≠ fl := ZdY hd3 hf3 (fun z => nomatch z)
    refine ⟨_, zs ++ [.ref t1], rfl, ZfV (S.trans S3) fr _, by rw [ZdA nd]; exact S3 _ _ hd3, Zdt, by rw [ZaC, hzl]; rfl, ?_⟩
    rw [ZlE e1 ek, ZaO]
    have k4 := Zid (o := .lst (zs ++ [.ref t1])) hf4
    exact ((hz.mono (ZdN.tk S3)).mono k4.tk).app (.cons (.tup (k4.tk _ _ Zdt) (.cons (.flat rfl) (.cons (.flat rfl) .nil))) .nil)
  ·rintro σ H2 ⟨o, zs, rfl, S, hd3, hf3, hzl, hz⟩
   have lz := hz.length
   rw [Zar, ly, ZaP] at lz
   rw [ly, ZaP] at hz
   refine ⟨_, rfl, q _ _ S ?_⟩
   rw [Zj2, Zlv, if_pos (by omega)]
   exact .lst hf3 hz.das
 ·rw [show decide (V.str (mkg m ma mp).s = V.str "rec") = false from ns e]
  exact ZgJ (q .non H (ZdN.refl _) (by rw [ZqA e]; exact .flat rfl))
end
theorem ZrA (p0 p1 p2 p3 : Addr) (r : V) : ZfQ "root" r (ZfQ "flows" (.ref p3) (ZfQ "uses" (.ref p2) (ZfQ "makes" (.ref p1) (ZfQ "points" (.ref p0) [])))) = fB p0 p1 p2 p3 r := by
 have h1 : ¬ ("points" : Str) = "root" := by decide +kernel
 have h2 : ¬ ("makes" : Str) = "root" := by decide +kernel
 have h3 : ¬ ("uses" : Str) = "root" := by decide +kernel
 have h4 : ¬ ("flows" : Str) = "root" := by decide +kernel
 have h5 : ¬ ("points" : Str) = "flows" := by decide +kernel
 have h6 : ¬ ("makes" : Str) = "flows" := by decide +kernel
 have h7 : ¬ ("uses" : Str) = "flows" := by decide +kernel
 have h8 : ¬ ("points" : Str) = "uses" := by decide +kernel
 have h9 : ¬ ("makes" : Str) = "uses" := by decide +kernel
 have h10 : ¬ ("points" : Str) = "makes" := by decide +kernel
 simp only [ZfQ, fB, if_neg h1, if_neg h2, if_neg h3, if_neg h4, if_neg h5, if_neg h6, if_neg h7, if_neg h8, if_neg h9, if_neg h10]
theorem Zey {H : Hp} {x dx : Addr} {o : HO} (hx : H x = none) (hd : H dx = none) : ZdN H (upd (upd H dx (.own x)) x o) := fun b u e => by
 rw [ZdA (ZdD e hx), ZdA (ZdD e hd)]; exact e
theorem ZjR (p0 p1 p2 p3 : Addr) (r : V) : (fB p0 p1 p2 p3 r).lookup ("points" : Str) = some (.ref p0) := by
 unfold fB
 rw [ZaM, show (("points" : Str) == "points") = true by decide +kernel]
theorem ZfX (p0 p1 p2 p3 : Addr) (r : V) : (fB p0 p1 p2 p3 r).lookup ("makes" : Str) = some (.ref p1) := by
 unfold fB
 rw [ZaM, show (("makes" : Str) == "points") = false by decide +kernel, ZaM, show (("makes" : Str) == "makes") = true by decide +kernel]
theorem Zgc (p0 p1 p2 p3 : Addr) (r : V) : (fB p0 p1 p2 p3 r).lookup ("uses" : Str) = some (.ref p2) := by
 unfold fB
 rw [ZaM, show (("uses" : Str) == "points") = false by decide +kernel, ZaM, show (("uses" : Str) == "makes") = false by decide +kernel, ZaM, show (("uses" : Str) == "uses") = true by decide +kernel]
theorem Zk3 (p0 p1 p2 p3 : Addr) (r : V) : (fB p0 p1 p2 p3 r).lookup ("flows" : Str) = some (.ref p3) := by
 unfold fB
 rw [ZaM, show (("flows" : Str) == "points") = false by decide +kernel, ZaM, show (("flows" : Str) == "makes") = false by decide +kernel, ZaM, show (("flows" : Str) == "uses") = false by decide +kernel, ZaM, show (("flows" : Str) == "flows") = true by decide +kernel]
section
variable {P : Program} {w : World} {K : PySem.W.Frag} {mg : Str -> Option Value} {base : Heap}
def Zg8 (C : Addr) : Sp := fun vs H Q _ => ∃ (x dx : Addr), vs = [.ref x] /\ H x = some (.ins C dx []) /\ ∀ (p0 p1 p2 p3 : Addr) (H' : Hp), (∀ a ∈ [p0, p1, p2, p3], H a = none) -> [p0, p1, p2, p3].Nodup -> H' x = some (.ins C dx (fB p0 p1 p2 p3 (.int 0))) -> Ls H' [p0, p1, p2, p3] [[], [], [], []] -> (∀ b o, H b = some o -> b ≠ x -> H' b = some o) -> Q .non H'
theorem Zg9 (T : Txt K mg) : Zfi P w K mg base CX0 1 T.a_Board___init__ T.fd_Board___init__ ["self"] (Zg8 T.a_Board) := by
 refine T.F_Board___init__.ok Zg7 (fun vs H Q E h => ?_) (fun cdv A outer s H vs Q E hr h => ?_)
 ·obtain ⟨x, dx, rfl, _⟩ := h
  rfl
 obtain ⟨x, dx, rfl, hx, q⟩ := h
 refine ⟨_, (Zdw (ZeA (pv 0) (Zem Zdu) rfl)
  (Zdw (ZeA (pv 0) (Zem Zdu) rfl)
  (Zdw (ZeA (pv 0) (Zem Zdu) rfl)
  (Zdw (ZeA (pv 0) (Zem Zdu) rfl)
  (ZdB (ZeA (pv 0) Zdv rfl)))))), ?_⟩
 have z0 : (0 : Nat) <= sizeLine := by decide
 refine ⟨z0, fun p0 h0 => ⟨_, rfl, x, _, dx, _, rfl, (by rw [ZdA (ZdD hx h0)]; exact hx), T.cl_Board, T.n_Board_points, (by show 0 < 1000; decide), ?_⟩⟩
 refine ⟨z0, fun p1 h1 => ⟨_, rfl, x, _, dx, _, rfl, (by rw [ZdA (ZdD Zdt h1)]; exact Zdt), T.cl_Board, T.n_Board_makes, (by show 1 < 1000; decide), ?_⟩⟩
 refine ⟨z0, fun p2 h2 => ⟨_, rfl, x, _, dx, _, rfl, (by rw [ZdA (ZdD Zdt h2)]; exact Zdt), T.cl_Board, T.n_Board_uses, ZeY (ZeY (by show 0 < 998; decide)), ?_⟩⟩
 refine ⟨z0, fun p3 h3 => ⟨_, rfl, x, _, dx, _, rfl, (by rw [ZdA (ZdD Zdt h3)]; exact Zdt), T.cl_Board, T.n_Board_flows, ZeY (ZeY (ZeY (by show 0 < 997; decide))), ?_⟩⟩
 refine ⟨_, rfl, x, _, dx, _, rfl, Zdt, T.cl_Board, T.n_Board_root, ZeY (ZeY (ZeY (ZeY (by show 0 < 996; decide)))), ?_⟩
 have n0 : x ≠ p0 := ZdD hx h0
 have n1 : x ≠ p1 := ZdD Zdt h1
 have n2 : x ≠ p2 := ZdD Zdt h2
 have n3 : x ≠ p3 := ZdD Zdt h3
 have d10 : p0 ≠ p1 := ZdD (by rw [ZdA (Ne.symm n0)]; exact Zdt) h1
 have d20 : p0 ≠ p2 := ZdD (by rw [ZdA (Ne.symm n0), ZdA d10, ZdA (Ne.symm n0)]; exact Zdt) h2
 have d21 : p1 ≠ p2 := ZdD (by rw [ZdA (Ne.symm n1)]; exact Zdt) h2
 have d30 : p0 ≠ p3 := ZdD (by rw [ZdA (Ne.symm n0), ZdA d20, ZdA (Ne.symm n0), ZdA d10, ZdA (Ne.symm n0)]; exact Zdt) h3
 have d31 : p1 ≠ p3 := ZdD (by rw [ZdA (Ne.symm n1), ZdA d21, ZdA (Ne.symm n1)]; exact Zdt) h3
 have d32 : p2 ≠ p3 := ZdD (by rw [ZdA (Ne.symm n2)]; exact Zdt) h3
 rw [ZdA (Ne.symm n1), ZdA (Ne.symm d10)] at h1
 rw [ZdA (Ne.symm n2), ZdA (Ne.symm d21), ZdA (Ne.symm n2), ZdA (Ne.symm d20)] at h2
 rw [ZdA (Ne.symm n3), ZdA (Ne.symm d32), ZdA (Ne.symm n3), ZdA (Ne.symm d31), ZdA (Ne.symm n3), ZdA (Ne.symm d30)] at h3
 refine q p0 p1 p2 p3 _ ?_ ?_ ?_ ?_ ?_
 ·intro a ha
  simp only [Zag, ZaV, or_false] at ha
  rcases ha with e | e | e | e <;> rw [e] <;> assumption
 ·simp only [Zat, Zag, ZaV, or_false, not_or]
  exact ⟨⟨d10, d20, d30⟩, ⟨d21, d31⟩, d32, fun z => z, ZaI⟩
 ·rw [Zdt, ZrA]
 ·refine .cons ?_ (.cons ?_ (.cons ?_ (.cons ?_ .nil)))
  ·rw [ZdA (Ne.symm n0), ZdA (Ne.symm n0), ZdA d30, ZdA (Ne.symm n0), ZdA d20, ZdA (Ne.symm n0), ZdA d10, ZdA (Ne.symm n0)]; exact Zdt
  ·rw [ZdA (Ne.symm n1), ZdA (Ne.symm n1), ZdA d31, ZdA (Ne.symm n1), ZdA d21, ZdA (Ne.symm n1)]; exact Zdt
  ·rw [ZdA (Ne.symm n2), ZdA (Ne.symm n2), ZdA d32, ZdA (Ne.symm n2)]; exact Zdt
  ·rw [ZdA (Ne.symm n3), ZdA (Ne.symm n3)]; exact Zdt
 ·intro b o e hb
  rw [ZdA hb, ZdA hb, ZdA (ZdD e h3), ZdA hb, ZdA (ZdD e h2), ZdA hb, ZdA (ZdD e h1), ZdA hb, ZdA (ZdD e h0)]
  exact e
def ZhY (C : Addr) : Sp := fun vs H Q _ => ∃ (x dx p0 p1 p2 p3 : Addr) (r v : V) (xs : List V), vs = [.ref x, v] /\ H x = some (.ins C dx (fB p0 p1 p2 p3 r)) /\ H p0 = some (.lst xs) /\ xs.length < sizeLine /\ Q (.int xs.length) (upd H p0 (.lst (xs ++ [v])))
theorem ZhZ (T : Txt K mg) : Zfi P w K mg base CX0 1 T.a_Board_point T.fd_Board_point ["self", "place"] (ZhY T.a_Board) := by
 refine T.F_Board_point.ok ZhU (fun vs H Q E h => ?_) (fun cdv A outer s H vs Q E hr h => ?_)
 ·obtain ⟨x, dx, p0, p1, p2, p3, r, v, xs, rfl, _⟩ := h
  rfl
 obtain ⟨x, dx, p0, p1, p2, p3, r, v, xs, rfl, hx, h0, hl, q⟩ := h
 refine ⟨_, (Zdw (ZdT (ZgB ZcU ZcV ZcW Zea (Zex (pv 0) rfl) (Zds (pv 1) Zdu)))
  (ZdB (ZdO (Zep Zn4 (Zd0 Zfh rfl T.z_len Zhx (Zds (Zex (pv 0) rfl) Zdu)) Zdv)))), ?_⟩
 refine ⟨_, rfl, x, _, dx, _, _, rfl, hx, T.cl_Board, T.n_Board_points, ZjR _ _ _ _ _, .inl ⟨rfl, _, SqL.of h0⟩, _, rfl, p0, _, _, rfl, rfl, h0, hl, ?_⟩
 have hx2 : (upd H p0 (.lst (xs ++ [v]))) x = some (.ins T.a_Board dx (fB p0 p1 p2 p3 r)) := by rw [ZdA (ZdY hx h0 (fun z => nomatch z))]; exact hx
 refine ⟨_, rfl, x, _, dx, _, _, rfl, hx2, T.cl_Board, T.n_Board_points, ZjR _ _ _ _ _, p0, _, rfl, .inl (SqL.of Zdt), _, _, rfl, rfl, ?_⟩
 show Q (V.int (((xs ++ [v]).length : Int) - 1)) _
 rw [ZaC, show (((xs.length + [v].length : Nat) : Int) - 1) = (xs.length : Int) by simp]
 exact q
def ZiR (C M : Addr) : Sp := fun vs H Q _ => ∃ (x dx p0 p1 p2 p3 : Addr) (r s f a p : V) (xs : List V), vs = [.ref x, s, f, a, p] /\ H x = some (.ins C dx (fB p0 p1 p2 p3 r)) /\ H p1 = some (.lst xs) /\ xs.length < sizeLine /\ ∀ m dm, H m = none -> H dm = none -> Q .non (upd (upd (upd H dm (.own m)) m (.ins M dm (fM s f a p))) p1 (.lst (xs ++ [.ref m])))
theorem ZiS (T : Txt K mg) : Zfi P w K mg base CX0 3 T.a_Board_make T.fd_Board_make ["self", "shape", "parts", "at", "place"] (ZiR T.a_Board T.a_Make) := by
 have G_Make___init__ := Zhj (P := P) (w := w) (base := base) T
 refine T.F_Board_make.ok ZiN (fun vs H Q E h => ?_) (fun cdv A outer s H vs Q E hr h => ?_)
 ·obtain ⟨x, dx, p0, p1, p2, p3, r, s, f, a, p, xs, rfl, _⟩ := h
  rfl
 obtain ⟨x, dx, p0, p1, p2, p3, r, sh, f, a, p, xs, rfl, hx, h0, hl, q⟩ := h
 refine ⟨_, (ZdB (ZdT (ZgB ZcU ZcV ZcW Zea (Zex (pv 0) rfl) (Zds (ZfR T.mk_Make G_Make___init__ (hr.mono (by decide)) rfl T.m_Make T.b_Make___init__ .nil ZdR (Zds (pv 1) (Zds (pv 2) (Zds (pv 3) (Zds (pv 4) Zdu))))) Zdu)))), ?_⟩
 refine ⟨_, rfl, x, _, dx, _, _, rfl, hx, T.cl_Board, T.n_Board_makes, ZfX _ _ _ _ _, .inl ⟨rfl, _, SqL.of h0⟩, _, rfl, _, rfl, _, rfl, _, rfl, fun m dm hm hdm nm => ?_⟩
 refine ⟨m, dm, _, _, _, _, rfl, Zdt, rfl, ?_⟩
 rw [Zes]
 have h1 : (upd (upd H dm (.own m)) m (.ins T.a_Make dm (fM sh f a p))) p1 = some (.lst xs) := Zey hm hdm _ _ h0
 exact ⟨p1, _, _, rfl, rfl, h1, hl, q m dm hm hdm⟩
def ZjS (C : Addr) : Sp := fun vs H Q _ => ∃ (x dx p0 p1 p2 p3 : Addr) (r v : V) (xs : List V), vs = [.ref x, v] /\ H x = some (.ins C dx (fB p0 p1 p2 p3 r)) /\ H p2 = some (.lst xs) /\ xs.length < sizeLine /\ Q .non (upd H p2 (.lst (xs ++ [v])))
theorem ZjT (T : Txt K mg) : Zfi P w K mg base CX0 1 T.a_Board_use T.fd_Board_use ["self", "one"] (ZjS T.a_Board) := by
 refine T.F_Board_use.ok ZjP (fun vs H Q E h => ?_) (fun cdv A outer s H vs Q E hr h => ?_)
 ·obtain ⟨x, dx, p0, p1, p2, p3, r, v, xs, rfl, _⟩ := h
  rfl
 obtain ⟨x, dx, p0, p1, p2, p3, r, v, xs, rfl, hx, h0, hl, q⟩ := h
 refine ⟨_, (ZdB (ZdT (ZgB ZcU ZcV ZcW Zea (Zex (pv 0) rfl) (Zds (pv 1) Zdu)))), ?_⟩
 exact ⟨_, rfl, x, _, dx, _, _, rfl, hx, T.cl_Board, T.n_Board_uses, Zgc _ _ _ _ _, .inl ⟨rfl, _, SqL.of h0⟩, _, rfl, p2, _, _, rfl, rfl, h0, hl, q⟩
def ZiT (C : Addr) : Sp := fun vs H Q _ => ∃ (x dx p0 p1 p2 p3 : Addr) (r v u : V) (xs : List V), vs = [.ref x, v, u] /\ H x = some (.ins C dx (fB p0 p1 p2 p3 r)) /\ H p3 = some (.lst xs) /\ xs.length < sizeLine /\ ∀ t, H t = none -> Q .non (upd (upd H t (.tup [v, u])) p3 (.lst (xs ++ [.ref t])))
theorem ZiU (T : Txt K mg) : Zfi P w K mg base CX0 1 T.a_Board_flow T.fd_Board_flow ["self", "p", "q"] (ZiT T.a_Board) := by
 refine T.F_Board_flow.ok ZiO (fun vs H Q E h => ?_) (fun cdv A outer s H vs Q E hr h => ?_)
 ·obtain ⟨x, dx, p0, p1, p2, p3, r, v, u, xs, rfl, _⟩ := h
  rfl
 obtain ⟨x, dx, p0, p1, p2, p3, r, v, u, xs, rfl, hx, h0, hl, q⟩ := h
 refine ⟨_, (ZdB (ZdT (ZgB ZcU ZcV ZcW Zea (Zex (pv 0) rfl) (Zds (Zel (Zds (pv 1) (Zds (pv 2) Zdu))) Zdu)))), ?_⟩
 refine ⟨_, rfl, x, _, dx, _, _, rfl, hx, T.cl_Board, T.n_Board_flows, Zk3 _ _ _ _ _, .inl ⟨rfl, _, SqL.of h0⟩, _, rfl, _, rfl, (by show 2 <= sizeLine; decide), fun t ht => ?_⟩
 exact ⟨p3, _, _, rfl, rfl, Zdz ht _ _ _ h0, hl, q t ht⟩
end
theorem Zk4 {K : PySem.W.Frag} {a : Addr} {xs : List V} {g : TG} {tb : TS.Internal} {D : Zj5} {σ : St} {H : Hp} (Pv : Nat -> St -> Hp -> Prop) (h0 : Pv 0 σ H) (hl : ∀ i σ H, i <= xs.length -> Pv i σ H -> SqL K H a xs)
  (hs : ∀ (i : Nat) (x : V) (σ : St) (H : Hp) (T : Addr), xs[i]? = some x -> Pv i σ H -> H T = none -> g (.ref T) σ (upd H T (.tup [.int (i : Int), x])) fun σ2 H2 => tb { D with nx := Pv (i + 1), ct := Pv (i + 1), bk := D.nx } σ2 H2) (hd : ∀ σ H, Pv xs.length σ H -> D.nx σ H) :
  ∃ W : Nat -> Nat -> St -> Hp -> Prop, (∃ m, W 0 m σ H) /\ ∀ i m σ H, W i m σ H ->
   ((Ite K a).stop i H /\ D.nx σ H) \/ ((Ite K a).go i H /\ ∃ N : St -> Hp -> Prop, (∀ σ' H', N σ' H' -> ∃ m', m' < m /\ W (i + 1) m' σ' H') /\ ∀ x H', (Ite K a).yld i H x H' -> g x σ H' fun σ2 H2 => tb { D with nx := N, ct := N, bk := D.nx } σ2 H2) := by
 refine ⟨fun i m σ H => m = xs.length - i /\ i <= xs.length /\ Pv i σ H, ⟨xs.length, by simp, ZbL _, h0⟩, ?_⟩
 rintro i m σ H ⟨rfl, hi, p⟩
 have q := hl i σ H hi p
 by_cases hlt : i < xs.length
 ·refine .inr ⟨⟨xs, xs[i], q, by simp [hlt]⟩, Pv (i + 1), fun σ' H' p' => ⟨xs.length - (i + 1), by omega, rfl, hlt, p'⟩, fun v H' y => ?_⟩
  obtain ⟨T, x, rfl, hT, rfl, hx⟩ := y
  exact hs i x σ H T (hx xs q) p hT
 ·have e : i = xs.length := by omega
  subst e
  exact .inl ⟨⟨xs, q, rfl⟩, hd σ H p⟩
theorem ZfP {f : Str} {v : V} {r : List (Str × V)} : Zap f ((f, v) :: r) = some v := by
 rw [ZaM, show (f == f) = true by simp]
theorem ZeJ {f g : Str} {v : V} {r : List (Str × V)} (h : (f == g) = false) : Zap f ((g, v) :: r) = Zap f r := by
 rw [ZaM, h]
theorem ZfI {f : Str} {v : V} : ∀ {fs : List (Str × V)} (ns : List Str), fs.map Prod.fst = ns -> f ∉ ns -> ZfQ f v fs = fs ++ [(f, v)]
 | [], _, _, _ => rfl
 | p :: t, _, rfl, h => by
  rw [Zaq, Zag, not_or] at h
  have : ¬ p.1 = f := fun z => h.1 z.symm
  simp only [ZfQ, if_neg this, ZaF]
  rw [ZfI _ rfl h.2]
noncomputable def fS (b ua r bd kn g h : Addr) : List (Str × V) := [("board", .ref b), ("uses_at", .ref ua), ("rows", .ref r), ("bads", .ref bd), ("known", .ref kn), ("goes", .ref g), ("heres", .ref h)]
noncomputable def fL (r bd : Addr) : List (Str × V) := [("rows", .ref r), ("bads", .ref bd)]
noncomputable def _root_.BO.Internal.Us.at : Us -> Int
 | .num a _ _ => a
 | .call a _ _ _ _ => a
 | .take a _ _ _ => a
 | .case a _ _ _ => a
 | .row a _ _ _ => a
noncomputable def atU (us : List Us) (j : Nat) : Option Int := (us[j]?).map Us.at
section
variable {P : Program} {w : World} {K : PySem.W.Frag} {mg : Str -> Option Value} {base : Heap}
theorem ZqD (T : Txt K mg) {H : Hp} {v : V} {u : Us} (h : UsAt (cs T) H v u) : ∃ x C dx fs, v = .ref x /\ H x = some (.ins C dx fs) /\ Cls K C /\ ZdP K C "at" /\ fs.lookup ("at" : Str) = some (.int u.at) := by
 cases u with
 | num a p s => obtain ⟨x, dx, rfl, e⟩ := h; exact ⟨x, _, dx, _, rfl, e, T.cl_NumUse, T.n_NumUse_at, Zrw _ _ _⟩
 | call a p s y z => obtain ⟨x, dx, rfl, e⟩ := h; exact ⟨x, _, dx, _, rfl, e, T.cl_CallUse, T.n_CallUse_at, Zqy _ _ _ _ _⟩
 | take a p s l => obtain ⟨x, dx, f, rfl, e, _⟩ := h; exact ⟨x, _, dx, _, rfl, e, T.cl_TakeUse, T.n_TakeUse_at, Zpn _ _ _ _⟩
 | case a p s l => obtain ⟨x, dx, f, rfl, e, _⟩ := h; exact ⟨x, _, dx, _, rfl, e, T.cl_CaseUse, T.n_CaseUse_at, Zpo _ _ _ _⟩
 | row a p s y => obtain ⟨x, dx, rfl, e⟩ := h; exact ⟨x, _, dx, _, rfl, e, T.cl_RowUse, T.n_RowUse_at, Zpp _ _ _ _⟩
noncomputable def ixv (us : List Us) (n : Nat) (p : Int) : List V := (ixn (atU us) p n).map V.int
theorem Zps {us : List Us} {i : Nat} {u : Us} (h : us[i]? = some u) : Zni (ixv us i) u.at (.int (i : Int)) = ixv us (i + 1) := by
 funext q
 have e : atU us i = some u.at := by rw [atU, h]; rfl
 unfold Zni ixv
 rw [ZiC, e]
 by_cases z : q = u.at
 ·rw [if_pos z, if_pos (by rw [z]), z, ZaO]; rfl
 ·rw [if_neg z, if_neg (fun y => z (Zce.inj y).symm), Zas]
def Zhk (c : Cs) : Sp := fun vs H Q _ => ∃ (b dx p0 p1 p2 p3 : Addr) (r : V) (uv : List V) (us : List Us), vs = [.ref b] /\ H b = some (.ins c.B dx (fB p0 p1 p2 p3 r)) /\ H p2 = some (.lst uv) /\ Zgp (UsAt c H) uv us /\ us.length <= 1000 /\
 ∀ d L H', ZdN H H' -> H d = none -> (∀ a ∈ L, H a = none /\ ∃ o, H' a = some o) -> DL H' d L (ixv us us.length) us.length -> Q (.ref d) H'
theorem Zf2 (T : Txt K mg) : Zfi P w K mg base CX0 1 T.a_uses_by_point T.fd_uses_by_point ["board"] (Zhk (cs T)) := by
 refine T.F_uses_by_point.ok Ze8 (fun vs H Q E h => ?_) (fun cdv A outer s H vs Q E hr h => ?_)
 ·obtain ⟨b, dx, p0, p1, p2, p3, r, uv, us, rfl, _⟩ := h
  rfl
 obtain ⟨b, dx, p0, p1, p2, p3, r, uv, us, rfl, hb, h2, hU, hn, q⟩ := h
 refine ⟨_, (Zdw (Zd1 (i := 1) Ze8.nd rfl (.inl rfl) Ziq)
  (Zdw (Ze3 PassesOwn.never rfl (Zml rfl T.z_enumerate (Zds (ZdI T.cl_Board T.n_Board_uses (cv 0)) Zdu)) (ZlS rfl (Zgk (Zeb (i := 2) Ze8.nd rfl (.inl rfl)) (Zgk (Zeb (i := 3) Ze8.nd rfl (.inl rfl)) Zj6)))
   (ZdB (ZdT (ZfK (ZgB ZcU ZcV ZcW Zea (PE.mono (ZiA (cv 1) (Zex (cv 3) rfl) (Zem Zdu) ⟨rfl, rfl, rfl, rfl⟩)) (Zds (PE.mono (cv 2)) Zdu))))))
  (ZdB (ZdO (cv 1))))), ?_⟩
 have sl : sizeLine = 16777216 := sizeLine_eq
 intro d hd
 have s1 := Zdz hd (.dK [])
 refine ⟨_, ⟨dx, _, s1 _ _ hb, Zgc _ _ _ _ _⟩, p2, rfl, ⟨_, SqL.of (s1 _ _ h2)⟩, Zk4 (xs := uv) (fun i σ H2 => ∃ (o2 o3 : Option V) (L : List Addr), σ = [some (.ref b), some (.ref d), o2, o3] /\ ZdN H H2 /\ (∀ a ∈ L, H a = none /\ ∃ o, H2 a = some o) /\ DL H2 d L (ixv us i) i)
  ⟨none, none, [], rfl, s1, fun a ha => absurd ha (ZaV), [], Zdt, ZbL _, fun p _ => rfl, fun p v e => (by cases e), fun p q v e => (by cases e)⟩ (fun i σ H2 _ ⟨_, _, _, _, S, _⟩ => SqL.of (S _ _ h2)) ?_ ?_⟩
 ·rintro i x σ H2 t hx ⟨o2, o3, L, rfl, S, hL, W⟩ ht
  have hi := (Zaj.mp hx).1
  have hlen := hU.length
  obtain ⟨u, hu', hux⟩ := hU.get hx
  have sT := Zdz ht (.tup [.int (i : Int), x])
  refine ⟨t, _, rfl, SqT.of Zdt, rfl, _, _, rfl, _, _, rfl, rfl, ?_⟩
  have W1 : DL (upd H2 t (.tup [.int (i : Int), x])) d L (ixv us i) i := W.same fun a o e _ => sT _ _ e
  have S1 : ZdN H (upd H2 t (.tup [.int (i : Int), x])) := S.trans sT
  generalize upd H2 t (.tup [.int (i : Int), x]) = H3 at W1 S1 sT ⊢
  obtain ⟨xu, C, dxu, fs, rfl, exu, cl, na, el⟩ := ZqD T (hux.mono (ZdN.fk S1))
  refine ⟨d, rfl, .inl (by obtain ⟨kvs, e, _⟩ := W1; exact ⟨kvs, .inl e⟩), xu, C, dxu, fs, _, rfl, exu, cl, na, el, (by show 0 <= sizeLine; decide), fun z hz => ?_⟩
  obtain ⟨kvs, ek, hl, c1, c2⟩ := W1.sda u.at hz
  have fin : ∀ (l : Addr) (H4 : Hp), Sda H3 d L (ixv us i) i u.at l H4 -> ∃ xs, H4 l = some (.lst xs) /\ xs.length < sizeLine /\ ∃ (o2 o3 : Option V) (L : List Addr), [some (V.ref b), some (V.ref d), some (V.int (i : Int)), some (V.ref xu)] = [some (.ref b), some (.ref d), o2, o3] /\ ZdN H (upd H4 l (.lst (xs ++ [V.int (i : Int)]))) /\ (∀ a ∈ L, H a = none /\ ∃ o, (upd H4 l (.lst (xs ++ [V.int (i : Int)]))) a = some o) /\ DL (upd H4 l (.lst (xs ++ [V.int (i : Int)]))) d L (ixv us (i + 1)) (i + 1) := fun l H4 A => by
   obtain ⟨L', hL', W'⟩ := A.fin H4 (.int (i : Int)) (ZdN.refl _)
   have nl : H l = none := by
    rcases A.own with m | m
    ·exact (hL l m).1
    ·cases e : H l with
     | none => rfl
     | some o => rw [S1 _ _ e] at m; cases m
   have dn : ∀ a o, H a = some o -> a ≠ d := fun a o e z => by rw [z, hd] at e; cases e
   refine ⟨_, A.here, ?_, _, _, L', rfl, fun a o e => ?_, fun a ha => ?_, ?_⟩
   ·unfold ixv
    rw [Zar]
    have := ZhB (A := atU us) (p := u.at) (n := i)
    omega
   ·rw [ZdA (fun z => by rw [z, nl] at e; cases e)]
    exact A.fr a o (S1 _ _ e) (dn a o e)
   ·by_cases y : a = l
    ·rw [y]; exact ⟨nl, _, Zdt⟩
    ·rcases hL' a ha with m | m
     ·obtain ⟨o, eo⟩ := (hL a m).2
      by_cases z : a = d
      ·rw [z]; obtain ⟨kv, ekv, _⟩ := W'; exact ⟨hd, _, ekv⟩
      ·exact ⟨(hL a m).1, o, by rw [ZdA y]; exact A.fr a o (sT _ _ eo) z⟩
     ·exact absurd m y
   ·rw [Zps hu'] at W'
    exact W'
  refine ⟨kvs, Sum.inl u.at, ek, rfl, by omega, fun v hv => ?_, fun hnone => ?_⟩
  ·obtain ⟨l, rfl, A⟩ := c1 v hv
   exact ⟨⟨_, A.here⟩, fin l _ A⟩
  ·have A := c2 hnone
   exact ⟨⟨_, A.here⟩, fin z _ A⟩
 ·rintro σ H2 ⟨o2, o3, L, rfl, S, hL, W⟩
  rw [hU.length] at W
  exact q d L H2 S hd hL W
def ZhM (C : Addr) : Sp := fun vs H Q _ => ∃ (x dx r bd : Addr), vs = [.ref x, .ref r, .ref bd] /\ H x = some (.ins C dx []) /\ Q .non (upd H x (.ins C dx (fL r bd)))
theorem Zgd (T : Txt K mg) : Zfi P w K mg base CX0 1 T.a_Log___init__ T.fd_Log___init__ ["self", "rows", "bads"] (ZhM T.a_Log) := by
 refine T.F_Log___init__.ok ZhK (fun vs H Q E h => ?_) (fun cdv A outer s H vs Q E hr h => ?_)
 ·obtain ⟨x, dx, r, bd, rfl, _⟩ := h
  rfl
 obtain ⟨x, dx, r, bd, rfl, hx, q⟩ := h
 refine ⟨_, (Zdw (ZfT T.cl_Log T.n_Log_rows (ZeA (PE.mono (cv 0)) (PE.mono (cv 1)) rfl))
  (ZdB (ZfT T.cl_Log T.n_Log_bads (ZeA (PE.mono (cv 0)) (PE.mono (cv 2)) rfl)))), ?_⟩
 refine ⟨dx, _, hx, (by show 0 < 1000; decide), dx, _, Zdt, (by show 1 < 1000; decide), ?_⟩
 rw [Zes, ZfI ["rows"] rfl (by decide +kernel)]
 exact q
end
def InR (N x : Int) : Prop := 0 <= x /\ x < N
noncomputable def _root_.BO.Internal.Mf.rng (N : Int) : Mf -> Prop
 | .fn x y => InR N x /\ InR N y
 | .rcd l => ∀ p ∈ l, InR N p.2
 | .tag _ x => InR N x
 | .row x => InR N x
 | _ => True
noncomputable def _root_.BO.Internal.Us.rng (N : Int) : Us -> Prop
 | .call _ _ _ x y => InR N x /\ InR N y
 | .take _ _ _ l => ∀ p ∈ l, InR N p.2
 | .case _ _ _ l => ∀ p ∈ l, InR N p.2
 | .row _ _ _ x => InR N x
 | .num _ _ _ => True
theorem Zm1 {N : Int} : ∀ {l : List (Str × Int)} {w : Str} {x : Int}, (∀ p ∈ l, InR N p.2) -> lk l w = some x -> InR N x
 | [], _, _, _, e => by cases e
 | p :: t, w, x, h, e => by
  rw [lk] at e
  by_cases z : p.1 = w
  ·rw [if_pos z] at e; cases e; exact h p (by simp)
  ·rw [if_neg z] at e; exact Zm1 (fun q hq => h q (by simp [hq])) e
theorem ZnU {N : Int} {u : Us} {m : Mf} {l : List (Int × Int)} (hu : u.rng N) (hm : m.rng N) (e : Zj2 u m = some l) : ∀ p ∈ l, InR N p.1 /\ InR N p.2 := by
 cases u with
 | num a p s => cases m <;> cases e; simp
 | call a p s x y =>
  cases m <;> cases e
  intro p hp
  simp only [Zag, ZaV, or_false] at hp
  rcases hp with rfl | rfl
  ·exact ⟨hu.1, hm.1⟩
  ·exact ⟨hm.2, hu.2⟩
 | take a p s l' =>
  cases m <;> try (cases e; done)
  rename_i k
  change Zlv l' k = some l at e
  unfold Zlv at e
  split at e
  ·cases e
   intro p hp
   obtain ⟨q, hq, e⟩ := Zam.mp hp
   unfold fnd at e
   cases z : lk k q.1 with
   | none => rw [z] at e; cases e
   | some x => rw [z] at e; cases e; exact ⟨Zm1 hm z, hu q hq⟩
  ·cases e
 | case a p s l' =>
  cases m <;> try (cases e; done)
  rename_i w x
  change (lk l' w).map _ = some l at e
  cases z : lk l' w with
  | none => rw [z] at e; cases e
  | some y =>
   rw [z] at e
   cases e
   intro p hp
   simp only [Zag, ZaV, or_false] at hp
   subst hp
   exact ⟨hm, Zm1 hu z⟩
 | row a p s x =>
  cases m <;> cases e
  intro p hp
  simp only [Zag, ZaV, or_false] at hp
  subst hp
  exact ⟨hm, hu⟩
structure Mk3 where
 f : Mf
 a : Int
 p : Int
def M3 (c : Cs) (H : Hp) (v : V) (m : Mk3) : Prop := Zic c H v (mkg m.f m.a m.p)
structure Dat (N : Int) (ms : List Mk3) (us : List Us) (fs : List (Int × Int)) : Prop where
 n0 : 0 < N
 n1 : N <= 64
 lm : ms.length <= 64
 lu : us.length <= 64
 lf : fs.length <= 64
 mo : ∀ m ∈ ms, m.f.ok /\ m.f.rng N /\ InR N m.a
 uo : ∀ u ∈ us, u.dist /\ u.rng N
 fo : ∀ p ∈ fs, InR N p.1 /\ InR N p.2
def ZqE (H : Hp) (m : Int) (v : V) : Prop := ∃ t n q, v = .ref t /\ H t = some (.tup [.int n, .int q]) /\ 0 <= q /\ q < m
theorem ZqE.mono {H H' : Hp} {m : Int} {v : V} (h : ZqE H m v) (k : TK H H') : ZqE H' m v := by
 obtain ⟨t, n, q, rfl, e, z⟩ := h
 exact ⟨t, n, q, rfl, k _ _ e, z⟩
structure Sx where
 s : Addr
 dx : Addr
 b : Addr
 bx : Addr
 p0 : Addr
 p1 : Addr
 p2 : Addr
 p3 : Addr
 ua : Addr
 r : Addr
 bd : Addr
 kn : Addr
 g : Addr
 h : Addr
 Lu : List Addr
structure ZhN (c : Cs) (S : Addr) (H0 : Hp) (x : Sx) (ms : List Mk3) (us : List Us) : Prop where
 s : H0 x.s = some (.ins S x.dx (fS x.b x.ua x.r x.bd x.kn x.g x.h))
 b : H0 x.b = some (.ins c.B x.bx (fB x.p0 x.p1 x.p2 x.p3 (.int 0)))
 m : ∃ mv, H0 x.p1 = some (.lst mv) /\ Zgp (M3 c H0) mv ms
 u : ∃ uv, H0 x.p2 = some (.lst uv) /\ Zgp (UsAt c H0) uv us
 ua : DL H0 x.ua x.Lu (ixv us us.length) us.length
 r : ∃ l, H0 x.r = some (.lst l)
 bd : ∃ l, H0 x.bd = some (.lst l)
 kn : ∃ l, H0 x.kn = some (.dT l)
 g : ∃ l, H0 x.g = some (.dK l)
 h : ∃ l, H0 x.h = some (.dK l)
 n1 : x.r ≠ x.bd
 n2 : x.g ≠ x.h
 n3 : x.ua ≠ x.g
 n4 : x.ua ≠ x.h
 n5 : x.p1 ≠ x.r
 n6 : x.p1 ≠ x.bd
 n7 : x.p2 ≠ x.r
 n8 : x.p2 ≠ x.bd
 n9 : ∀ a ∈ x.Lu, a ≠ x.r /\ a ≠ x.bd
structure Two (H0 H : Hp) (d e : Addr) (N M : Int) (k : Nat) (Ld Le : List Addr) (fd fe : Int -> List V) : Prop where
 d : DL H d Ld fd k
 e : DL H e Le fe k
 d0 : ∀ a ∈ Ld, H0 a = none /\ ∃ o, H a = some o
 e0 : ∀ a ∈ Le, H0 a = none /\ ∃ o, H a = some o
 ap : ∀ a ∈ Ld, a ∉ Le
 dv : ∀ p, (fd p).length <= k /\ ∀ v ∈ fd p, ZqE H N v
 ev : ∀ p, (fe p).length <= k /\ ∀ v ∈ fe p, ZqE H M v
theorem Two.swap {H0 H : Hp} {d e : Addr} {N M : Int} {k : Nat} {Ld Le : List Addr} {fd fe : Int -> List V} (W : Two H0 H d e N M k Ld Le fd fe) : Two H0 H e d M N k Le Ld fe fd :=
 ⟨W.e, W.d, W.e0, W.d0, fun a h1 h2 => W.ap a h2 h1, W.ev, W.dv⟩
theorem Two.frame {H0 H H' : Hp} {d e : Addr} {N M : Int} {k : Nat} {Ld Le : List Addr} {fd fe : Int -> List V} (W : Two H0 H d e N M k Ld Le fd fe) (s : ∀ a o, H a = some o -> (a = d \/ a = e \/ H0 a = none) -> H' a = some o) (tk : TK H H') : Two H0 H' d e N M k Ld Le fd fe :=
 ⟨W.d.same fun a o h m => s a o h (m.elim .inl fun m => .inr (.inr (W.d0 a m).1)), W.e.same fun a o h m => s a o h (m.elim (fun z => .inr (.inl z)) fun m => .inr (.inr (W.e0 a m).1)),
  fun a m => ⟨(W.d0 a m).1, let ⟨o, h⟩ := (W.d0 a m).2; ⟨o, s a o h (.inr (.inr (W.d0 a m).1))⟩⟩, fun a m => ⟨(W.e0 a m).1, let ⟨o, h⟩ := (W.e0 a m).2; ⟨o, s a o h (.inr (.inr (W.e0 a m).1))⟩⟩, W.ap,
  fun p => ⟨(W.dv p).1, fun v hv => ((W.dv p).2 v hv).mono tk⟩, fun p => ⟨(W.ev p).1, fun v hv => ((W.ev p).2 v hv).mono tk⟩⟩
structure Go2 (H0 H : Hp) (d e : Addr) (N M : Int) (k : Nat) (l : Addr) (H1 : Hp) : Prop where
 l0 : H0 l = none
 fr : ∀ a o, H a = some o -> a ≠ d -> H1 a = some o
 go : ∃ xs, H1 l = some (.lst xs) /\ xs.length <= k /\ ∀ n q t, InR N q -> H1 t = none -> ∃ Ld Le fd fe, Two H0 (upd (upd H1 t (.tup [.int n, .int q])) l (.lst (xs ++ [.ref t]))) d e N M (k + 1) Ld Le fd fe
theorem Two.add {H0 H : Hp} {d e : Addr} {N M : Int} {k : Nat} {Ld Le : List Addr} {fd fe : Int -> List V} (W : Two H0 H d e N M k Ld Le fd fe) (p : Int) {z : Addr} (hz : H z = none) (n0 : ∀ a, H a = none -> H0 a = none) (d1 : ∃ o, H0 d = some o) (e1 : ∃ o, H0 e = some o) (de : d ≠ e) :
  ∃ kvs, (upd H z (.lst [])) d = some (.dK kvs) /\ kvs.length <= k /\ (∀ v, Zfs kvs (.inl p) = some v -> ∃ l, v = .ref l /\ Go2 H0 H d e N M k l (upd H z (.lst []))) /\
   (Zfs kvs (.inl p) = none -> Go2 H0 H d e N M k z (upd (upd H z (.lst [])) d (.dK (ZfM kvs (.inl p) (.ref z))))) := by
 have key : ∀ (l : Addr) (H1 : Hp), Sda H d Ld fd k p l H1 -> (∃ y, H1 d = some (.dK y)) -> Go2 H0 H d e N M k l H1 := fun l H1 A ⟨y, hd1⟩ => by
  have l0 : H0 l = none := by
   rcases A.own with m | m
   ·exact (W.d0 l m).1
   ·exact n0 l m
  refine ⟨l0, A.fr, fd p, A.here, (W.dv p).1, fun n q t hq ht => ?_⟩
  obtain ⟨L', hL', D'⟩ := A.fin (upd H1 t (.tup [.int n, .int q])) (.ref t) (Zdz ht _)
  have tl : t ≠ l := fun h => by rw [h, A.here] at ht; cases ht
  have mv : ∀ a o, H a = some o -> a ≠ d -> a ≠ l -> (upd (upd H1 t (.tup [.int n, .int q])) l (.lst (fd p ++ [.ref t]))) a = some o := fun a o h n1 n2 => by
   have := A.fr a o h n1
   rw [ZdA n2, ZdA (ZdD this ht)]
   exact this
  have nd : ∀ a, H0 a = none -> a ≠ d := fun a h z => by obtain ⟨o, h1⟩ := d1; rw [z, h1] at h; cases h
  have el : ∀ a, a ∈ Le -> a ≠ l := fun a m z => by
   rcases A.own with w | w
   ·exact W.ap l w (z ▸ m)
   ·obtain ⟨o, h⟩ := (W.e0 a m).2; rw [z, w] at h; cases h
  have tk : TK H (upd (upd H1 t (.tup [.int n, .int q])) l (.lst (fd p ++ [.ref t]))) := fun a xs h => by
   obtain ⟨kvs, ek, _⟩ := W.d
   have a1 : a ≠ d := ZdY h ek (fun h => nomatch h)
   exact mv a _ h a1 (ZdY (A.fr a _ h a1) A.here (fun h => nomatch h))
  have e2 : e ≠ l := fun z => by obtain ⟨o, h⟩ := e1; rw [z, l0] at h; cases h
  refine ⟨L', Le, _, fe, D', ?_, fun a m => ?_, fun a m => ?_, fun a m1 m2 => ?_, fun p2 => ?_, fun p2 => ⟨ZbV (W.ev p2).1, fun v hv => ((W.ev p2).2 v hv).mono tk⟩⟩
  ·obtain ⟨kvs, h1, h2, h3⟩ := W.e.same fun a o h m => mv a o h (m.elim (fun z => z ▸ de.symm) fun m => nd a (W.e0 a m).1) (m.elim (fun z => z ▸ e2) (el a))
   exact ⟨kvs, h1, ZbV h2, h3⟩
  ·by_cases z : a = l
   ·exact ⟨z ▸ l0, _, by rw [z]; exact Zdt⟩
   ·rcases hL' a m with m | m
    ·obtain ⟨o, h⟩ := (W.d0 a m).2
     exact ⟨(W.d0 a m).1, o, mv a o h (nd a (W.d0 a m).1) z⟩
    ·exact absurd m z
  ·obtain ⟨o, h⟩ := (W.e0 a m).2
   exact ⟨(W.e0 a m).1, o, mv a o h (nd a (W.e0 a m).1) (el a m)⟩
  ·rcases hL' a m1 with m | m
   ·exact W.ap a m m2
   ·exact el a m2 m
  ·unfold Zni
   by_cases z : p2 = p
   ·rw [if_pos z]
    refine ⟨by rw [ZaC]; exact ZbT (W.dv p).1, fun v hv => ?_⟩
    rcases Zah.mp hv with h | h
    ·exact ((W.dv p).2 v h).mono tk
    ·simp only [ZaS] at h
     exact ⟨t, n, q, h, by rw [ZdA tl]; exact Zdt, hq⟩
   ·rw [if_neg z]
    exact ⟨ZbV (W.dv p2).1, fun v hv => ((W.dv p2).2 v hv).mono tk⟩
 obtain ⟨kvs, h1, h2, h3, h4⟩ := W.d.sda p hz
 exact ⟨kvs, h1, h2, fun v hv => let ⟨l, h, A⟩ := h3 v hv; ⟨l, h, key l _ A ⟨_, h1⟩⟩, fun hn => key z _ (h4 hn) ⟨_, Zdt⟩⟩
structure Stt (H0 H : Hp) (x : Sx) (N M : Int) (R : List Rw) (B : List (Int × Int)) (k : Nat) : Prop where
 keep : ∀ a o, H0 a = some o -> a ≠ x.r -> a ≠ x.bd -> a ≠ x.kn -> a ≠ x.g -> a ≠ x.h -> H a = some o
 r : ∃ rv, H x.r = some (.lst rv) /\ Ims H rv (R.map Rw.d)
 bd : ∃ bv, H x.bd = some (.lst bv) /\ Ims H bv (B.map flD)
 kn : H x.kn = some (.dT (R.map fun r => (r.k, V.bl true)))
 gh : ∃ Lg Lh fg fh, Two H0 H x.g x.h N M k Lg Lh fg fh
 nd : (R.map Rw.k).Nodup
 ok : ∀ r ∈ R, r.ok N M
def Fr2 (x : Sx) (H H' : Hp) : Prop := ∀ a o, H a = some o -> a ≠ x.r -> a ≠ x.kn -> H' a = some o
theorem Fr2.refl (x : Sx) (H : Hp) : Fr2 x H H := fun _ _ e _ _ => e
theorem Fr2.trans {x : Sx} {H H1 H2 : Hp} (a : Fr2 x H H1) (b : Fr2 x H1 H2) : Fr2 x H H2 := fun c o e n m => b c o (a c o e n m) n m
theorem Fr2.of {x : Sx} {H H' : Hp} (s : ZdN H H') : Fr2 x H H' := fun a o e _ _ => s a o e
section
variable {c : Cs} {S : Addr} {H0 H H' : Hp} {x : Sx} {N M : Int} {R : List Rw} {B : List (Int × Int)} {k : Nat} {ms : List Mk3} {us : List Us}
theorem Stt.same (t : Stt H0 H x N M R B k) (s : ZdN H H') : Stt H0 H' x N M R B k := by
 obtain ⟨keep, ⟨rv, r1, r2⟩, ⟨bv, b1, b2⟩, kn, ⟨Lg, Lh, fg, fh, W⟩, nd, ok⟩ := t
 have tk : TK H H' := ZdN.tk s
 exact ⟨fun a o e n1 n2 n3 n4 n5 => s _ _ (keep a o e n1 n2 n3 n4 n5), ⟨rv, s _ _ r1, r2.mono tk⟩, ⟨bv, s _ _ b1, b2.mono tk⟩, s _ _ kn,
  ⟨Lg, Lh, fg, fh, W.frame (fun a o e _ => s _ _ e) tk⟩, nd, ok⟩
theorem ZhN.fix (z : ZhN c S H0 x ms us) (t : Stt H0 H x N M R B k) {a : Addr} {o : HO} (e : H0 a = some o) (h1 : ∀ l, o ≠ .lst l) (h2 : ∀ l, o ≠ .dT l) (h3 : ∀ l, o ≠ .dK l) : H a = some o := by
 obtain ⟨_, er⟩ := z.r
 obtain ⟨_, eb⟩ := z.bd
 obtain ⟨_, ek⟩ := z.kn
 obtain ⟨_, eg⟩ := z.g
 obtain ⟨_, eh⟩ := z.h
 exact t.keep a o e (ZdY e er (h1 _)) (ZdY e eb (h1 _)) (ZdY e ek (h2 _)) (ZdY e eg (h3 _)) (ZdY e eh (h3 _))
theorem ZhN.hs (z : ZhN c S H0 x ms us) (t : Stt H0 H x N M R B k) : H x.s = some (.ins S x.dx (fS x.b x.ua x.r x.bd x.kn x.g x.h)) := z.fix t z.s (fun _ h => nomatch h) (fun _ h => nomatch h) (fun _ h => nomatch h)
theorem ZhN.hb (z : ZhN c S H0 x ms us) (t : Stt H0 H x N M R B k) : H x.b = some (.ins c.B x.bx (fB x.p0 x.p1 x.p2 x.p3 (.int 0))) := z.fix t z.b (fun _ h => nomatch h) (fun _ h => nomatch h) (fun _ h => nomatch h)
theorem ZhN.lst (z : ZhN c S H0 x ms us) (t : Stt H0 H x N M R B k) {a : Addr} {l : List V} (e : H0 a = some (.lst l)) (n1 : a ≠ x.r) (n2 : a ≠ x.bd) : H a = some (.lst l) := by
 obtain ⟨_, ek⟩ := z.kn
 obtain ⟨_, eg⟩ := z.g
 obtain ⟨_, eh⟩ := z.h
 exact t.keep a _ e n1 n2 (ZdY e ek (fun h => nomatch h)) (ZdY e eg (fun h => nomatch h)) (ZdY e eh (fun h => nomatch h))
theorem ZhN.fk (z : ZhN c S H0 x ms us) (t : Stt H0 H x N M R B k) : FK H0 H := fun a o e f => z.fix t e (fun l h => by rw [h] at f; exact f) (fun l h => by rw [h] at f; exact f) (fun l h => by rw [h] at f; exact f)
theorem Stt.len (t : Stt H0 H x N M R B k) (hN : N <= 64) (hM : M <= 64) : R.length <= 8192 := Zo4 hN hM t.nd t.ok
theorem Zk5 : ∀ {R : List Rw} {q : List Key}, Zfs (R.map fun r => (r.k, V.bl true)) q = none -> q ∉ R.map Rw.k
 | [], _, _ => by simp
 | r :: R, q, h => by
  rw [Zaq] at h
  by_cases e : r.k = q
  ·rw [Ze6 (p := (r.k, V.bl true)) e] at h; cases h
  ·rw [Ze7 (p := (r.k, V.bl true)) e] at h
   rw [Zaq, Zag, not_or]
   exact ⟨fun z => e z.symm, Zk5 h⟩
theorem ZnV {R : List Rw} {ρ : Rw} (h : Zfs (R.map fun r => (r.k, V.bl true)) ρ.k = none) : ZfM (R.map fun r => (r.k, V.bl true)) ρ.k (.bl true) = (R ++ [ρ]).map fun r => (r.k, V.bl true) := by
 unfold ZfM
 rw [if_neg (by rw [ZgL, h]; exact ZcX), ZaO]
 rfl
theorem Stt.put (z : ZhN c S H0 x ms us) (t : Stt H0 H x N M R B k) {ρ : Rw} {wv : V} {tb t2 : Addr} {rv : List V} (hw : Im H wv (ZpJ ρ.y)) (ok : ρ.ok N M) (hn : Zfs (R.map fun r => (r.k, V.bl true)) ρ.k = none) (hr : H x.r = some (.lst rv))
  (htb : H tb = none) (h2 : (upd (upd H tb (.tup (ρ.k.map kV))) x.kn (.dT (ZfM (R.map fun r => (r.k, V.bl true)) ρ.k (.bl true)))) t2 = none) :
  Stt H0 (upd (upd (upd (upd H tb (.tup (ρ.k.map kV))) x.kn (.dT (ZfM (R.map fun r => (r.k, V.bl true)) ρ.k (.bl true)))) t2 (.tup [.str (wd ρ.w), .int ρ.a, .int ρ.b, wv])) x.r (.lst (rv ++ [.ref t2]))) x N M (R ++ [ρ]) B k /\
  Fr2 x H (upd (upd (upd (upd H tb (.tup (ρ.k.map kV))) x.kn (.dT (ZfM (R.map fun r => (r.k, V.bl true)) ρ.k (.bl true)))) t2 (.tup [.str (wd ρ.w), .int ρ.a, .int ρ.b, wv])) x.r (.lst (rv ++ [.ref t2]))) := by
 have s1 := Zdz htb (.tup (ρ.k.map kV))
 have t1 := t.same s1
 have hr1 := s1 _ _ hr
 have hw1 : Im _ wv (ZpJ ρ.y) := hw.mono (ZdN.tk s1)
 generalize upd H tb (.tup (ρ.k.map kV)) = H1 at s1 t1 hr1 hw1 h2 ⊢
 have hk1 := t1.kn
 have rk : x.r ≠ x.kn := ZdY hr1 hk1 (fun h => nomatch h)
 have F : Fr2 x H (upd (upd (upd H1 x.kn (.dT (ZfM (R.map fun r => (r.k, V.bl true)) ρ.k (.bl true)))) t2 (.tup [.str (wd ρ.w), .int ρ.a, .int ρ.b, wv])) x.r (.lst (rv ++ [.ref t2]))) := fun a o e n1 n2 => by
  have e2 : (upd H1 x.kn (.dT (ZfM (R.map fun r => (r.k, V.bl true)) ρ.k (.bl true)))) a = some o := by rw [ZdA n2]; exact s1 _ _ e
  rw [ZdA n1, ZdA (ZdD e2 h2)]
  exact e2
 refine ⟨?_, F⟩
 have er : (upd (upd H1 x.kn (.dT (ZfM (R.map fun r => (r.k, V.bl true)) ρ.k (.bl true)))) t2 (.tup [.str (wd ρ.w), .int ρ.a, .int ρ.b, wv])) t2 = some (.tup [.str (wd ρ.w), .int ρ.a, .int ρ.b, wv]) := Zdt
 obtain ⟨keep, ⟨rv', r1, r2⟩, ⟨bv, b1, b2⟩, kn, ⟨Lg, Lh, fg, fh, W⟩, nd, okk⟩ := t
 rw [hr] at r1
 cases r1
 obtain ⟨_, Er⟩ := z.r
 obtain ⟨_, Eb⟩ := z.bd
 obtain ⟨_, Ek⟩ := z.kn
 obtain ⟨_, Eg⟩ := z.g
 obtain ⟨_, Eh⟩ := z.h
 have tk : TK H (upd (upd (upd H1 x.kn (.dT (ZfM (R.map fun r => (r.k, V.bl true)) ρ.k (.bl true)))) t2 (.tup [.str (wd ρ.w), .int ρ.a, .int ρ.b, wv])) x.r (.lst (rv ++ [.ref t2]))) := fun a xs e => F a _ e (ZdY e hr (fun h => nomatch h)) (ZdY e kn (fun h => nomatch h))
 have t2r : t2 ≠ x.r := fun h => by rw [h, ZdA rk, hr1] at h2; cases h2
 refine ⟨fun a o e n1 n2 n3 n4 n5 => F a o (keep a o e n1 n2 n3 n4 n5) n1 n3, ⟨_, Zdt, ?_⟩, ⟨bv, F _ _ b1 (Ne.symm z.n1) (ZdY Eb Ek (fun h => nomatch h)), b2.mono tk⟩, ?_, ⟨Lg, Lh, fg, fh, W.frame (fun a o e m => F a o e (fun h => ?_) (fun h => ?_)) tk⟩, ?_, ?_⟩
 ·rw [ZaO]
  refine (r2.mono tk).app (.cons (.tup (by rw [ZdA t2r]; exact er) (.cons (.flat rfl) (.cons (.flat rfl) (.cons (.flat rfl) (.cons (hw.mono tk) .nil))))) .nil)
 ·rw [ZdA (Ne.symm rk), ZdA (fun h => by rw [<- h, Zdt] at h2; cases h2), Zdt, ZnV hn]
 ·rcases m with m | m | m
  ·rw [h] at m; exact absurd (show some (HO.lst _) = some (HO.dK _) by rw [<- Er, m, Eg]) (fun h => nomatch h)
  ·rw [h] at m; exact absurd (show some (HO.lst _) = some (HO.dK _) by rw [<- Er, m, Eh]) (fun h => nomatch h)
  ·rw [h, Er] at m; cases m
 ·rcases m with m | m | m
  ·rw [h] at m; exact absurd (show some (HO.dT _) = some (HO.dK _) by rw [<- Ek, m, Eg]) (fun h => nomatch h)
  ·rw [h] at m; exact absurd (show some (HO.dT _) = some (HO.dK _) by rw [<- Ek, m, Eh]) (fun h => nomatch h)
  ·rw [h, Ek] at m; cases m
 ·rw [ZaO, List.nodup_append]
  refine ⟨nd, by simp, fun a ha b hb e => ?_⟩
  simp only [Zaq, ZaH, ZaS] at hb
  exact Zk5 hn (by rw [<- hb, <- e]; exact ha)
 ·intro r hr
  rcases Zah.mp hr with h | h
  ·exact okk r h
  ·simp only [ZaS] at h
   rw [h]
   exact ok
end
section
variable {P : Program} {w : World} {K : PySem.W.Frag} {mg : Str -> Option Value} {base : Heap}
theorem Zfr (b ua r bd kn g h : Addr) : (fS b ua r bd kn g h).lookup ("board" : Str) = some (.ref b) := ZfP
theorem ZlF (b ua r bd kn g h : Addr) : (fS b ua r bd kn g h).lookup ("uses_at" : Str) = some (.ref ua) := (ZeJ (by decide +kernel)).trans ZfP
theorem ZiV (b ua r bd kn g h : Addr) : (fS b ua r bd kn g h).lookup ("rows" : Str) = some (.ref r) := (ZeJ (by decide +kernel)).trans ((ZeJ (by decide +kernel)).trans ZfP)
theorem Zm2 (b ua r bd kn g h : Addr) : (fS b ua r bd kn g h).lookup ("bads" : Str) = some (.ref bd) := (ZeJ (by decide +kernel)).trans ((ZeJ (by decide +kernel)).trans ((ZeJ (by decide +kernel)).trans ZfP))
theorem Zk6 (b ua r bd kn g h : Addr) : (fS b ua r bd kn g h).lookup ("known" : Str) = some (.ref kn) := (ZeJ (by decide +kernel)).trans ((ZeJ (by decide +kernel)).trans ((ZeJ (by decide +kernel)).trans ((ZeJ (by decide +kernel)).trans ZfP)))
theorem Zm3 (b ua r bd kn g h : Addr) : (fS b ua r bd kn g h).lookup ("goes" : Str) = some (.ref g) := (ZeJ (by decide +kernel)).trans ((ZeJ (by decide +kernel)).trans ((ZeJ (by decide +kernel)).trans ((ZeJ (by decide +kernel)).trans ((ZeJ (by decide +kernel)).trans ZfP))))
theorem Zk7 (b ua r bd kn g h : Addr) : (fS b ua r bd kn g h).lookup ("heres" : Str) = some (.ref h) := (ZeJ (by decide +kernel)).trans ((ZeJ (by decide +kernel)).trans ((ZeJ (by decide +kernel)).trans ((ZeJ (by decide +kernel)).trans ((ZeJ (by decide +kernel)).trans ((ZeJ (by decide +kernel)).trans ZfP)))))
theorem Zh0 (m : Str) (b ua r bd kn g h : Addr) (q : m ∉ (["board", "uses_at", "rows", "bads", "known", "goes", "heres"] : List Str)) : (fS b ua r bd kn g h).lookup m = none := by
 simp only [Zag, ZaV, or_false, not_or] at q
 obtain ⟨q1, q2, q3, q4, q5, q6, q7⟩ := q
 have f : ∀ {a b : Str}, ¬ a = b -> (a == b) = false := fun {a b} h => by simp [h]
 exact (ZeJ (f q1)).trans ((ZeJ (f q2)).trans ((ZeJ (f q3)).trans ((ZeJ (f q4)).trans ((ZeJ (f q5)).trans ((ZeJ (f q6)).trans ((ZeJ (f q7)).trans rfl))))))
def ZqF (c : Cs) (S : Addr) : Sp := fun vs H Q _ => ∃ (H0 : Hp) (x : Sx) (N M : Int) (ms : List Mk3) (us : List Us) (R : List Rw) (B : List (Int × Int)) (k : Nat) (ρ : Rw) (wv : V), vs = [.ref x.s, .str (wd ρ.w), .int ρ.a, .int ρ.b, wv] /\ ZhN c S H0 x ms us /\ Stt H0 H x N M R B k /\ N <= 64 /\ M <= 64 /\ Im H wv (ZpJ ρ.y) /\ ρ.ok N M /\
 ∀ H' R', (R' = R \/ R' = R ++ [ρ]) -> Stt H0 H' x N M R' B k -> Fr2 x H H' -> Q .non H'
theorem Zfk (T : Txt K mg) : Zfi P w K mg base CX0 1 T.a_Settling_put T.fd_Settling_put ["self", "word", "first", "second", "why"] (ZqF (cs T) T.a_Settling) := by
 refine T.F_Settling_put.ok Zgb (fun vs H Q E h => ?_) (fun cdv A outer s H vs Q E hr h => ?_)
 ·obtain ⟨H0, x, N, M, ms, us, R, B, k, ρ, wv, rfl, _⟩ := h
  rfl
 obtain ⟨H0, x, N, M, ms, us, R, B, k, ρ, wv, rfl, z, t, hN, hM, hw, ok, q⟩ := h
 have hu := Zlp hr
 refine ⟨_, (Zdw (Zd1 (i := 5) Zgb.nd rfl (.inl rfl) (Zel (Zds (cv 1) (Zds (cv 2) (Zds (cv 3) Zdu)))))
  (ZdB (Zez (Zjg (Zhv hu (cv 5) (ZdI T.cl_Settling T.n_Settling_known (cv 0))) rfl)
   (Zdw (Zip hu (ZdI T.cl_Settling T.n_Settling_known (cv 0)) (cv 5) Zgo rfl)
   (ZdB (ZdT (ZfK (ZgB ZcU ZcV ZcW Zea (PE.mono (ZdI T.cl_Settling T.n_Settling_rows (cv 0))) (Zds (PE.mono (Zel (Zds (cv 1) (Zds (cv 2) (Zds (cv 3) (Zds (cv 4) Zdu)))))) Zdu))))))
   ZdS))), ?_⟩
 have sl : sizeLine = 16777216 := sizeLine_eq
 have hlen := t.len hN hM
 refine ⟨(by show 3 <= sizeLine; decide), fun tb hb => ?_⟩
 have s1 : ZdN H (upd H tb (.tup (ρ.k.map kV))) := Zdz hb _
 have t1 := t.same s1
 have hs1 := z.hs t1
 have hk1 := t1.kn
 refine ⟨_, ⟨_, _, hs1, Zk6 _ _ _ _ _ _ _⟩, x.kn, _, rfl, Zh9.t (k := ρ.k) hk1 Zdt, _, rfl, ?_⟩
 cases e : Zfs (R.map fun r => (r.k, V.bl true)) ρ.k with
 | some v => exact ZfA (q _ R (.inl rfl) t1 (.of s1))
 | none =>
  obtain ⟨rv, hrv, hrl⟩ := t.r
  have hl : rv.length <= 8192 := by rw [hrl.length, Zar]; exact hlen
  refine ZgJ ⟨_, ⟨_, _, hs1, Zk6 _ _ _ _ _ _ _⟩, x.kn, _, rfl, Znt.t (k := ρ.k) hk1 Zdt (by rw [Zar]; omega), ?_⟩
  have rk : x.r ≠ x.kn := ZdY (s1 _ _ hrv) hk1 (fun h => nomatch h)
  have hr2 : (upd (upd H tb (.tup (ρ.k.map kV))) x.kn (.dT (ZfM (R.map fun r => (r.k, V.bl true)) ρ.k (.bl true)))) x.r = some (.lst rv) := by rw [ZdA rk]; exact s1 _ _ hrv
  refine ⟨_, ⟨_, _, by rw [ZdA (ZdY hs1 hk1 (fun h => nomatch h))]; exact hs1, ZiV _ _ _ _ _ _ _⟩, ⟨_, hr2⟩, (by show 4 <= sizeLine; decide), fun t2 h2 => ?_⟩
  refine ⟨rv, Zdz h2 _ _ _ hr2, by omega, ?_⟩
  obtain ⟨t4, f4⟩ := t.put z (ρ := ρ) (wv := wv) hw ok e hrv hb h2
  exact q _ _ (.inr rfl) t4 f4
end
section
variable {c : Cs} {S : Addr} {H0 H H' : Hp} {x : Sx} {N M : Int} {R : List Rw} {B : List (Int × Int)} {k : Nat} {ms : List Mk3} {us : List Us}
theorem Stt.n0 (t : Stt H0 H x N M R B k) : ∀ a, H a = none -> H0 a = none := fun a h => by
 cases e : H0 a with
 | none => rfl
 | some o =>
  obtain ⟨rv, r1, _⟩ := t.r
  obtain ⟨bv, b1, _⟩ := t.bd
  obtain ⟨Lg, Lh, fg, fh, W⟩ := t.gh
  obtain ⟨kg, g1, _⟩ := W.d
  obtain ⟨kh, h1, _⟩ := W.e
  by_cases m1 : a = x.r
  ·rw [m1, r1] at h; cases h
  by_cases m2 : a = x.bd
  ·rw [m2, b1] at h; cases h
  by_cases m3 : a = x.kn
  ·rw [m3, t.kn] at h; cases h
  by_cases m4 : a = x.g
  ·rw [m4, g1] at h; cases h
  by_cases m5 : a = x.h
  ·rw [m5, h1] at h; cases h
  rw [t.keep a o e m1 m2 m3 m4 m5] at h
  cases h
def Gs (H0 : Hp) (x : Sx) (N M : Int) (R : List Rw) (B : List (Int × Int)) (k : Nat) (Y : Int) (l : Addr) (H1 : Hp) : Prop := ∃ xs, H1 l = some (.lst xs) /\ xs.length <= k /\ ∀ n q t, InR Y q -> H1 t = none -> Stt H0 (upd (upd H1 t (.tup [.int n, .int q])) l (.lst (xs ++ [.ref t]))) x N M R B (k + 1)
theorem Stt.goG (z : ZhN c S H0 x ms us) (t : Stt H0 H x N M R B k) (p : Int) {zz : Addr} (hz : H zz = none) : ∃ kvs, (upd H zz (.lst [])) x.g = some (.dK kvs) /\ kvs.length <= k /\
  (∀ v, Zfs kvs (.inl p) = some v -> ∃ l, v = .ref l /\ Gs H0 x N M R B k N l (upd H zz (.lst []))) /\ (Zfs kvs (.inl p) = none -> Gs H0 x N M R B k N zz (upd (upd H zz (.lst [])) x.g (.dK (ZfM kvs (.inl p) (.ref zz))))) := by
 obtain ⟨Lg, Lh, fg, fh, W⟩ := t.gh
 obtain ⟨_, Er⟩ := z.r
 obtain ⟨_, Eb⟩ := z.bd
 obtain ⟨_, Ek⟩ := z.kn
 obtain ⟨_, Eg⟩ := z.g
 obtain ⟨_, Eh⟩ := z.h
 have n0 := t.n0
 obtain ⟨dk, edk, _⟩ := W.d
 have key : ∀ (l : Addr) (H1 : Hp), Go2 H0 H x.g x.h N M k l H1 -> Gs H0 x N M R B k N l H1 := fun l H1 A => by
  obtain ⟨xs, el, hx, go⟩ := A.go
  refine ⟨xs, el, hx, fun n q tt hq ht => ?_⟩
  obtain ⟨Ld, Le, fd, fe, W'⟩ := go n q tt hq ht
  have mv : ∀ a o u, H0 a = some u -> H a = some o -> a ≠ x.g -> (upd (upd H1 tt (.tup [.int n, .int q])) l (.lst (xs ++ [.ref tt]))) a = some o := fun a o u e0 e n1 => by
   have := A.fr a o e n1
   rw [ZdA (fun h => by rw [h, A.l0] at e0; cases e0), ZdA (ZdD this ht)]
   exact this
  have tk : TK H (upd (upd H1 tt (.tup [.int n, .int q])) l (.lst (xs ++ [.ref tt]))) := fun a ys e => by
   have := A.fr a _ e (ZdY e edk (fun h => nomatch h))
   rw [ZdA (ZdY this el (fun h => nomatch h)), ZdA (ZdD this ht)]
   exact this
  obtain ⟨rv, r1, r2⟩ := t.r
  obtain ⟨bv, b1, b2⟩ := t.bd
  exact ⟨fun a o e m1 m2 m3 m4 m5 => mv a o o e (t.keep a o e m1 m2 m3 m4 m5) m4, ⟨rv, mv _ _ _ Er r1 (ZdY Er Eg (fun h => nomatch h)), r2.mono tk⟩, ⟨bv, mv _ _ _ Eb b1 (ZdY Eb Eg (fun h => nomatch h)), b2.mono tk⟩, mv _ _ _ Ek t.kn (ZdY Ek Eg (fun h => nomatch h)), ⟨_, _, _, _, W'⟩, t.nd, t.ok⟩
 obtain ⟨kvs, h1, h2, h3, h4⟩ := Two.add W p hz n0 ⟨_, Eg⟩ ⟨_, Eh⟩ z.n2
 exact ⟨kvs, h1, h2, fun v hv => let ⟨l, h, A⟩ := h3 v hv; ⟨l, h, key l _ A⟩, fun hn => key zz _ (h4 hn)⟩
theorem Stt.goH (z : ZhN c S H0 x ms us) (t : Stt H0 H x N M R B k) (p : Int) {zz : Addr} (hz : H zz = none) : ∃ kvs, (upd H zz (.lst [])) x.h = some (.dK kvs) /\ kvs.length <= k /\
  (∀ v, Zfs kvs (.inl p) = some v -> ∃ l, v = .ref l /\ Gs H0 x N M R B k M l (upd H zz (.lst []))) /\ (Zfs kvs (.inl p) = none -> Gs H0 x N M R B k M zz (upd (upd H zz (.lst [])) x.h (.dK (ZfM kvs (.inl p) (.ref zz))))) := by
 obtain ⟨Lg, Lh, fg, fh, W⟩ := t.gh
 obtain ⟨_, Er⟩ := z.r
 obtain ⟨_, Eb⟩ := z.bd
 obtain ⟨_, Ek⟩ := z.kn
 obtain ⟨_, Eg⟩ := z.g
 obtain ⟨_, Eh⟩ := z.h
 have n0 := t.n0
 obtain ⟨dk, edk, _⟩ := W.swap.d
 have key : ∀ (l : Addr) (H1 : Hp), Go2 H0 H x.h x.g M N k l H1 -> Gs H0 x N M R B k M l H1 := fun l H1 A => by
  obtain ⟨xs, el, hx, go⟩ := A.go
  refine ⟨xs, el, hx, fun n q tt hq ht => ?_⟩
  obtain ⟨Ld, Le, fd, fe, W'⟩ := go n q tt hq ht
  have mv : ∀ a o u, H0 a = some u -> H a = some o -> a ≠ x.h -> (upd (upd H1 tt (.tup [.int n, .int q])) l (.lst (xs ++ [.ref tt]))) a = some o := fun a o u e0 e n1 => by
   have := A.fr a o e n1
   rw [ZdA (fun h => by rw [h, A.l0] at e0; cases e0), ZdA (ZdD this ht)]
   exact this
  have tk : TK H (upd (upd H1 tt (.tup [.int n, .int q])) l (.lst (xs ++ [.ref tt]))) := fun a ys e => by
   have := A.fr a _ e (ZdY e edk (fun h => nomatch h))
   rw [ZdA (ZdY this el (fun h => nomatch h)), ZdA (ZdD this ht)]
   exact this
  obtain ⟨rv, r1, r2⟩ := t.r
  obtain ⟨bv, b1, b2⟩ := t.bd
  exact ⟨fun a o e m1 m2 m3 m4 m5 => mv a o o e (t.keep a o e m1 m2 m3 m4 m5) m5, ⟨rv, mv _ _ _ Er r1 (ZdY Er Eh (fun h => nomatch h)), r2.mono tk⟩, ⟨bv, mv _ _ _ Eb b1 (ZdY Eb Eh (fun h => nomatch h)), b2.mono tk⟩, mv _ _ _ Ek t.kn (ZdY Ek Eh (fun h => nomatch h)), ⟨_, _, _, _, W'.swap⟩, t.nd, t.ok⟩
 obtain ⟨kvs, h1, h2, h3, h4⟩ := Two.add W.swap p hz n0 ⟨_, Eh⟩ ⟨_, Eg⟩ (Ne.symm z.n2)
 exact ⟨kvs, h1, h2, fun v hv => let ⟨l, h, A⟩ := h3 v hv; ⟨l, h, key l _ A⟩, fun hn => key zz _ (h4 hn)⟩
end
theorem Zii {H : Hp} : ∀ {fv : List V} {l : List (Int × Int)} {i : Nat} {v : V}, Ims H fv (l.map flD) -> fv[i]? = some v -> ∃ p t, l[i]? = some p /\ v = .ref t /\ H t = some (.tup [.int p.1, .int p.2])
 | _, [], _, _, .nil, e => by simp at e
 | _, p :: ps, 0, v, .cons h _, e => by
  cases e
  obtain ⟨t, xs, rfl, e, hs⟩ := ZfO h
  obtain rfl := Zpr hs
  exact ⟨p, t, rfl, rfl, e⟩
 | _, p :: ps, i + 1, v, .cons _ t, e => by
  rw [ZaX] at e
  obtain ⟨q, u, e1, e2⟩ := Zii t e
  exact ⟨q, u, by rw [ZaX]; exact e1, e2⟩
section
variable {P : Program} {w : World} {K : PySem.W.Frag} {mg : Str -> Option Value} {base : Heap}
def ZjU (c : Cs) (S : Addr) : Sp := fun vs H Q _ => ∃ (H0 : Hp) (x : Sx) (N M : Int) (ms : List Mk3) (us : List Us) (R : List Rw) (B : List (Int × Int)) (k : Nat) (f : Addr) (fv : List V) (l : List (Int × Int)) (y : Option (Int × Int)) (wv : V), vs = [.ref x.s, .ref f, wv] /\ ZhN c S H0 x ms us /\ Stt H0 H x N M R B k /\ N <= 64 /\ M <= 64 /\
 H f = some (.lst fv) /\ Ims H fv (l.map flD) /\ f ≠ x.r /\ (∀ p ∈ l, InR N p.1 /\ InR N p.2) /\ Im H wv (ZpJ y) /\ ∀ H' more, Stt H0 H' x N M (R ++ more) B k -> Fr2 x H H' -> Q .non H'
theorem Zge (T : Txt K mg) : Zfi P w K mg base CX0 2 T.a_Settling_put_flows T.fd_Settling_put_flows ["self", "flows", "why"] (ZjU (cs T) T.a_Settling) := by
 have G_Settling_put := Zfk (P := P) (w := w) (base := base) T
 refine T.F_Settling_put_flows.ok Zfv (fun vs H Q E h => ?_) (fun cdv A outer s H vs Q E hr h => ?_)
 ·obtain ⟨H0, x, N, M, ms, us, R, B, k, f, fv, l, y, wv, rfl, _⟩ := h
  rfl
 obtain ⟨H0, x, N, M, ms, us, R, B, k, f, fv, l, y, wv, rfl, z, t, hN, hM, hf, hl, nr, hin, hw, q⟩ := h
 refine ⟨_, (ZdB (Ze3 PassesOwn.never rfl (Zen (cv 1)) (Zeb (i := 3) Zfv.nd rfl (.inl rfl))
   (ZdB (ZdT (Zef (ZeD (PE.mono (cv 0)) T.cl_Settling T.me_Settling_put G_Settling_put (hr.mono (by decide)) T.b_Settling_put .nil ZdR (Zds ZdZ (Zds (ZdF ZdG (cv 3) Zdv (fun _ _ => rfl)) (Zds (ZdF ZdG (cv 3) Zdv (fun _ _ => rfl)) (Zds (cv 2) Zdu)))))))))), ?_⟩
 have nk : f ≠ x.kn := ZdY hf t.kn (fun h => nomatch h)
 obtain ⟨rv, hrv, _⟩ := t.r
 refine ⟨f, rfl, ⟨_, SqL.of hf⟩, Zeo (xs := fv) (fun i σ H2 => ∃ (o : Option V) (more : List Rw), σ = [some (.ref x.s), some (.ref f), some wv, o] /\ Stt H0 H2 x N M (R ++ more) B k /\ Fr2 x H H2)
  ⟨none, [], rfl, by rw [Zas]; exact t, .refl _ _⟩ (fun i σ H2 _ ⟨_, _, _, _, F⟩ => SqL.of (F _ _ hf nr nk)) ?_ ?_⟩
 ·rintro i v σ H2 hv ⟨o, more, rfl, t2, F⟩
  obtain ⟨p, tt, hp, rfl, et⟩ := Zii hl hv
  have tk : TK H H2 := fun a xs e => F a _ e (ZdY e hrv (fun h => nomatch h)) (ZdY e t.kn (fun h => nomatch h))
  have et2 := tk _ _ et
  have hpm := hin p (ZaB hp)
  refine ⟨⟨_, _, z.hs t2, Zh0 "put" _ _ _ _ _ _ _ (by decide +kernel)⟩, _, et2, _, et2, ?_⟩
  refine ⟨H0, x, N, M, ms, us, R ++ more, B, k, ⟨true, p.1, p.2, y⟩, wv, rfl, z, t2, hN, hM, hw.mono tk, ⟨hpm.1.1, hpm.1.2, hpm.2.1, hpm.2.2⟩, fun H' R' hR t' F' => ?_⟩
  rcases hR with rfl | rfl
  ·exact ⟨_, more, rfl, t', F.trans F'⟩
  ·exact ⟨_, more ++ [_], rfl, by rw [<- Za7]; exact t', F.trans F'⟩
 ·rintro σ H2 ⟨o, more, rfl, t2, F⟩
  exact q H2 more t2 F
def ZrB (c : Cs) (S : Addr) : Sp := fun vs H Q _ => ∃ (H0 : Hp) (x : Sx) (N M : Int) (ms : List Mk3) (us : List Us) (R : List Rw) (B : List (Int × Int)) (k : Nat) (n p q : Int), vs = [.ref x.s, .int n, .int p, .int q] /\ ZhN c S H0 x ms us /\ Stt H0 H x N M R B k /\ N <= 64 /\ M <= 64 /\ k <= 8192 /\ InR N q /\ ∀ H' more, Stt H0 H' x N M (R ++ more) B (k + 1) -> Q .non H'
theorem Zgf (T : Txt K mg) : Zfi P w K mg base CX0 2 T.a_Settling_work_goes T.fd_Settling_work_goes ["self", "number", "p", "q"] (ZrB (cs T) T.a_Settling) := by
 have G_Settling_put := Zfk (P := P) (w := w) (base := base) T
 refine T.F_Settling_work_goes.ok Zfu (fun vs H Q E h => ?_) (fun cdv A outer s H vs Q E hr h => ?_)
 ·obtain ⟨H0, x, N, M, ms, us, R, B, k, n, p, q, rfl, _⟩ := h
  rfl
 obtain ⟨H0, x, N, M, ms, us, R, B, k, n, p, q, rfl, z, t, hN, hM, hk, hq, fin⟩ := h
 have hu := Zlp hr
 refine ⟨_, (Zdw (Ze3 PassesOwn.never rfl (Zen (Zhn hu (ZdI T.cl_Settling T.n_Settling_heres (cv 0)) (cv 2) (Zem Zdu) ⟨rfl, rfl, rfl, rfl⟩)) (Zeb (i := 4) Zfu.nd rfl (.inl rfl))
   (ZdB (ZdT (Zef (ZeD (PE.mono (cv 0)) T.cl_Settling T.me_Settling_put G_Settling_put (hr.mono (by decide)) T.b_Settling_put .nil ZdR (Zds ZdZ (Zds (ZdF ZdG (cv 4) Zdv (fun _ _ => rfl)) (Zds (cv 3) (Zds (Zel (Zds (ZdF ZdG (cv 4) Zdv (fun _ _ => rfl)) (Zds (cv 1) Zdu))) Zdu)))))))))
  (ZdB (ZdT (ZfK (ZgB ZcU ZcV ZcW Zea (PE.mono (ZiA (ZdI T.cl_Settling T.n_Settling_goes (cv 0)) (cv 2) (Zem Zdu) ⟨rfl, rfl, rfl, rfl⟩)) (Zds (PE.mono (Zel (Zds (cv 1) (Zds (cv 3) Zdu)))) Zdu)))))), ?_⟩
 have sl : sizeLine = 16777216 := sizeLine_eq
 obtain ⟨Lg, Lh, fg, fh, W⟩ := t.gh
 obtain ⟨rv, hrv, _⟩ := t.r
 obtain ⟨_, Er⟩ := z.r
 refine ⟨_, ⟨_, _, z.hs t, Zk7 _ _ _ _ _ _ _⟩, x.h, rfl, .inl (by obtain ⟨kvs, e, _⟩ := W.e; exact ⟨kvs, .inl e⟩), (by show 0 <= sizeLine; decide), fun zz hz => ?_⟩
 obtain ⟨kvs, l, ek, eg, hl, own⟩ := W.e.get p hz
 have s1 := Zdz hz (.lst [])
 have t1 := t.same s1
 have nr : l ≠ x.r := fun h => by
  rcases own with m | m
  ·rw [h] at m; rw [(W.e0 _ m).1] at Er; cases Er
  ·rw [h, hrv] at m; cases m
 have nk : l ≠ x.kn := ZdY hl t1.kn (fun h => nomatch h)
 refine ⟨_, Zh9.k (k := Sum.inl p) ek, l, eg, ⟨_, SqL.of hl⟩, Zeo (xs := fh p) (fun i σ H2 => ∃ (o : Option V) (more : List Rw), σ = [some (.ref x.s), some (.int n), some (.int p), some (.int q), o] /\ Stt H0 H2 x N M (R ++ more) B k /\ Fr2 x (upd H zz (.lst [])) H2)
  ⟨none, [], rfl, by rw [Zas]; exact t1, .refl _ _⟩ (fun i σ H2 _ ⟨_, _, _, _, F⟩ => SqL.of (F _ _ hl nr nk)) ?_ ?_⟩
 ·rintro i v σ H2 hv ⟨o, more, rfl, t2, F⟩
  obtain ⟨tt, n', m', rfl, et, h0, h1⟩ := (W.ev p).2 v (ZaB hv)
  have et2 := F _ _ (s1 _ _ et) (ZdY et hrv (fun h => nomatch h)) (ZdY et t.kn (fun h => nomatch h))
  refine ⟨⟨_, _, z.hs t2, Zh0 "put" _ _ _ _ _ _ _ (by decide +kernel)⟩, _, et2, _, et2, (by show 2 <= sizeLine; decide), fun tw hw => ?_⟩
  refine ⟨H0, x, N, M, ms, us, R ++ more, B, k, ⟨false, m', q, some (n', n)⟩, .ref tw, rfl, z, t2.same (Zdz hw _), hN, hM, .tup Zdt (.cons (.flat rfl) (.cons (.flat rfl) .nil)), ⟨h0, h1, hq.1, hq.2⟩, fun H' R' hR t' F' => ?_⟩
  have F2 := F.trans ((Fr2.of (Zdz hw _)).trans F')
  rcases hR with rfl | rfl
  ·exact ⟨_, more, rfl, t', F2⟩
  ·exact ⟨_, more ++ [_], rfl, by rw [<- Za7]; exact t', F2⟩
 ·rintro σ H2 ⟨o, more, rfl, t2, F⟩
  obtain ⟨Lg2, Lh2, fg2, fh2, W2⟩ := t2.gh
  refine ⟨_, ⟨_, _, z.hs t2, Zm3 _ _ _ _ _ _ _⟩, x.g, rfl, .inl (by obtain ⟨kvs, e, _⟩ := W2.d; exact ⟨kvs, .inl e⟩), (by show 0 <= sizeLine; decide), fun z2 hz2 => ?_⟩
  obtain ⟨kvs2, ek2, hl2, c1, c2⟩ := t2.goG z p hz2
  refine ⟨kvs2, Sum.inl p, ek2, rfl, by omega, fun v hv => ?_, fun hn => ?_⟩
  ·obtain ⟨l2, rfl, xs, el, hx, go⟩ := c1 v hv
   exact ⟨⟨xs, el⟩, (by show 2 <= sizeLine; decide), fun tt ht => ⟨xs, Zdz ht _ _ _ el, by omega, fin _ more (go n q tt hq ht)⟩⟩
  ·obtain ⟨xs, el, hx, go⟩ := c2 hn
   exact ⟨⟨xs, el⟩, (by show 2 <= sizeLine; decide), fun tt ht => ⟨xs, Zdz ht _ _ _ el, by omega, fin _ more (go n q tt hq ht)⟩⟩
def ZrC (c : Cs) (S : Addr) : Sp := fun vs H Q _ => ∃ (H0 : Hp) (x : Sx) (N M : Int) (ms : List Mk3) (us : List Us) (R : List Rw) (B : List (Int × Int)) (k : Nat) (n p q : Int), vs = [.ref x.s, .int n, .int q, .int p] /\ ZhN c S H0 x ms us /\ Stt H0 H x N M R B k /\ N <= 64 /\ M <= 64 /\ k <= 8192 /\ InR M q /\ ∀ H' more, Stt H0 H' x N M (R ++ more) B (k + 1) -> Q .non H'
theorem Zgg (T : Txt K mg) : Zfi P w K mg base CX0 2 T.a_Settling_work_here T.fd_Settling_work_here ["self", "number", "m", "p"] (ZrC (cs T) T.a_Settling) := by
 have G_Settling_put := Zfk (P := P) (w := w) (base := base) T
 refine T.F_Settling_work_here.ok Zfw (fun vs H Q E h => ?_) (fun cdv A outer s H vs Q E hr h => ?_)
 ·obtain ⟨H0, x, N, M, ms, us, R, B, k, n, p, q, rfl, _⟩ := h
  rfl
 obtain ⟨H0, x, N, M, ms, us, R, B, k, n, p, q, rfl, z, t, hN, hM, hk, hq, fin⟩ := h
 have hu := Zlp hr
 refine ⟨_, (Zdw (Ze3 PassesOwn.never rfl (Zen (Zhn hu (ZdI T.cl_Settling T.n_Settling_goes (cv 0)) (cv 3) (Zem Zdu) ⟨rfl, rfl, rfl, rfl⟩)) (Zeb (i := 4) Zfw.nd rfl (.inl rfl))
   (ZdB (ZdT (Zef (ZeD (PE.mono (cv 0)) T.cl_Settling T.me_Settling_put G_Settling_put (hr.mono (by decide)) T.b_Settling_put .nil ZdR (Zds ZdZ (Zds (cv 2) (Zds (ZdF ZdG (cv 4) Zdv (fun _ _ => rfl)) (Zds (Zel (Zds (cv 1) (Zds (ZdF ZdG (cv 4) Zdv (fun _ _ => rfl)) Zdu))) Zdu)))))))))
  (ZdB (ZdT (ZfK (ZgB ZcU ZcV ZcW Zea (PE.mono (ZiA (ZdI T.cl_Settling T.n_Settling_heres (cv 0)) (cv 3) (Zem Zdu) ⟨rfl, rfl, rfl, rfl⟩)) (Zds (PE.mono (Zel (Zds (cv 1) (Zds (cv 2) Zdu)))) Zdu)))))), ?_⟩
 have sl : sizeLine = 16777216 := sizeLine_eq
 obtain ⟨Lg, Lh, fg, fh, W⟩ := t.gh
 obtain ⟨rv, hrv, _⟩ := t.r
 obtain ⟨_, Er⟩ := z.r
 refine ⟨_, ⟨_, _, z.hs t, Zm3 _ _ _ _ _ _ _⟩, x.g, rfl, .inl (by obtain ⟨kvs, e, _⟩ := W.d; exact ⟨kvs, .inl e⟩), (by show 0 <= sizeLine; decide), fun zz hz => ?_⟩
 obtain ⟨kvs, l, ek, eg, hl, own⟩ := W.d.get p hz
 have s1 := Zdz hz (.lst [])
 have t1 := t.same s1
 have nr : l ≠ x.r := fun h => by
  rcases own with m | m
  ·rw [h] at m; rw [(W.d0 _ m).1] at Er; cases Er
  ·rw [h, hrv] at m; cases m
 have nk : l ≠ x.kn := ZdY hl t1.kn (fun h => nomatch h)
 refine ⟨_, Zh9.k (k := Sum.inl p) ek, l, eg, ⟨_, SqL.of hl⟩, Zeo (xs := fg p) (fun i σ H2 => ∃ (o : Option V) (more : List Rw), σ = [some (.ref x.s), some (.int n), some (.int q), some (.int p), o] /\ Stt H0 H2 x N M (R ++ more) B k /\ Fr2 x (upd H zz (.lst [])) H2)
  ⟨none, [], rfl, by rw [Zas]; exact t1, .refl _ _⟩ (fun i σ H2 _ ⟨_, _, _, _, F⟩ => SqL.of (F _ _ hl nr nk)) ?_ ?_⟩
 ·rintro i v σ H2 hv ⟨o, more, rfl, t2, F⟩
  obtain ⟨tt, n', m', rfl, et, h0, h1⟩ := (W.dv p).2 v (ZaB hv)
  have et2 := F _ _ (s1 _ _ et) (ZdY et hrv (fun h => nomatch h)) (ZdY et t.kn (fun h => nomatch h))
  refine ⟨⟨_, _, z.hs t2, Zh0 "put" _ _ _ _ _ _ _ (by decide +kernel)⟩, _, et2, _, et2, (by show 2 <= sizeLine; decide), fun tw hw => ?_⟩
  refine ⟨H0, x, N, M, ms, us, R ++ more, B, k, ⟨false, q, m', some (n, n')⟩, .ref tw, rfl, z, t2.same (Zdz hw _), hN, hM, .tup Zdt (.cons (.flat rfl) (.cons (.flat rfl) .nil)), ⟨hq.1, hq.2, h0, h1⟩, fun H' R' hR t' F' => ?_⟩
  have F2 := F.trans ((Fr2.of (Zdz hw _)).trans F')
  rcases hR with rfl | rfl
  ·exact ⟨_, more, rfl, t', F2⟩
  ·exact ⟨_, more ++ [_], rfl, by rw [<- Za7]; exact t', F2⟩
 ·rintro σ H2 ⟨o, more, rfl, t2, F⟩
  obtain ⟨Lg2, Lh2, fg2, fh2, W2⟩ := t2.gh
  refine ⟨_, ⟨_, _, z.hs t2, Zk7 _ _ _ _ _ _ _⟩, x.h, rfl, .inl (by obtain ⟨kvs, e, _⟩ := W2.e; exact ⟨kvs, .inl e⟩), (by show 0 <= sizeLine; decide), fun z2 hz2 => ?_⟩
  obtain ⟨kvs2, ek2, hl2, c1, c2⟩ := t2.goH z p hz2
  refine ⟨kvs2, Sum.inl p, ek2, rfl, by omega, fun v hv => ?_, fun hn => ?_⟩
  ·obtain ⟨l2, rfl, xs, el, hx, go⟩ := c1 v hv
   exact ⟨⟨xs, el⟩, (by show 2 <= sizeLine; decide), fun tt ht => ⟨xs, Zdz ht _ _ _ el, by omega, fin _ more (go n q tt hq ht)⟩⟩
  ·obtain ⟨xs, el, hx, go⟩ := c2 hn
   exact ⟨⟨xs, el⟩, (by show 2 <= sizeLine; decide), fun tt ht => ⟨xs, Zdz ht _ _ _ el, by omega, fin _ more (go n q tt hq ht)⟩⟩
end
noncomputable def nmB (us : List Us) (ms : List Mk3) (m j : Int) : Bool := match us[j.toNat]?, ms[m.toNat]? with
 | some u, some k => (Zj2 u k.f).isNone
 | _, _ => false
noncomputable def ZlG (us : List Us) (ms : List Mk3) (ρ : Rw) (k : Int) : List (Int × Int) := match ρ.w with
 | true => []
 | false => bdn (atU us) (nmB us ms ρ.a) ρ.b k us.length
theorem ZjV {L : List Int} {q : Int -> Bool} {n : Int} {i : Nat} {j : Int} (h : L[i]? = some j) : ((L.take (i + 1)).filter q).map (fun j => (n, j)) = ((L.take i).filter q).map (fun j => (n, j)) ++ if q j = true then [(n, j)] else [] := by
 rw [Zbj, h, Option.toList, Za3, ZaO]
 congr 1
 by_cases e : q j = true
 ·rw [if_pos e]; simp [e]
 ·rw [if_neg e]; simp [e]
theorem Zm4 {H : Hp} : ∀ {fv : List V} {l : List (Int × Int)}, ZoZ H fv (l.map flD) -> Ims H fv (l.map flD)
 | _, [], .nil => .nil
 | _, p :: t, .cons h hs => by
  refine .cons ?_ (Zm4 hs)
  cases h with
  | tup e es =>
   cases es with
   | cons h1 es =>
    cases h1
    cases es with
    | cons h2 es =>
     cases h2
     cases es
     exact .tup e (.cons (.flat rfl) (.cons (.flat rfl) .nil))
theorem ZrD {H : Hp} {rv : List V} {R : List Rw} {l : List (Int × Int)} (h1 : Ims H rv (R.map Rw.d)) (h2 : Ims H rv (l.map flD)) (hR : R ≠ []) : False := by
 cases R with
 | nil => exact hR rfl
 | cons r R =>
  cases h1 with
  | cons a _ =>
   cases l with
   | nil => cases h2
   | cons p l =>
    cases h2 with
    | cons b _ =>
     obtain ⟨t, xs, rfl, e, hs⟩ := ZfO a
     obtain ⟨t', xs', e', e2, hs'⟩ := ZfO b
     cases e'
     rw [e] at e2
     cases e2
     have y1 := hs.length
     have y2 := hs'.length
     rw [y1] at y2
     simp at y2
theorem ZqG {te : TE} {i : Nat} {D : Zj5} {σ : St} {H : Hp} {u : TS.Internal} (R : V -> Hp -> Prop) (ht : ∀ Q : VK, (∀ v H1, R v H1 -> Q v H1) -> te σ H Q) (h : ∀ v H1, R v H1 -> u D (σ.set i (some v)) H1) : ZkB (Zq3 te (Ze9 i)) u D σ H := ht _ h
theorem Zij {H : Hp} : ∀ {rv : List V} {R : List Rw} {i : Nat} {ρ : Rw}, Ims H rv (R.map Rw.d) -> R[i]? = some ρ -> ∃ t wv, rv[i]? = some (.ref t) /\ H t = some (.tup [.str (wd ρ.w), .int ρ.a, .int ρ.b, wv]) /\ Im H wv (ZpJ ρ.y)
 | _, [], _, _, _, e => by simp at e
 | _, r :: R, 0, ρ, .cons h _, e => by
  cases e
  obtain ⟨t, xs, rfl, e, hs⟩ := ZfO h
  cases hs with
  | cons h1 hs =>
   cases h1
   cases hs with
   | cons h2 hs =>
    cases h2
    cases hs with
    | cons h3 hs =>
     cases h3
     cases hs with
     | cons h4 hs => cases hs; exact ⟨t, _, rfl, e, h4⟩
 | _, r :: R, i + 1, ρ, .cons _ t, e => by
  rw [ZaX] at e
  obtain ⟨q, u, e1, e2⟩ := Zij t e
  exact ⟨q, u, by rw [ZaX]; exact e1, e2⟩
section
variable {c : Cs} {S : Addr} {H0 H H' : Hp} {x : Sx} {N M : Int} {R : List Rw} {B : List (Int × Int)} {k : Nat} {ms : List Mk3} {us : List Us}
theorem ZhN.uaH (z : ZhN c S H0 x ms us) (t : Stt H0 H x N M R B k) : DL H x.ua x.Lu (ixv us us.length) us.length := by
 obtain ⟨_, Er⟩ := z.r
 obtain ⟨_, Eb⟩ := z.bd
 obtain ⟨_, Ek⟩ := z.kn
 exact z.ua.keep (fun kvs e => t.keep _ _ e (ZdY e Er (fun h => nomatch h)) (ZdY e Eb (fun h => nomatch h)) (ZdY e Ek (fun h => nomatch h)) z.n3 z.n4) (fun a l m e => z.lst t e (z.n9 a m).1 (z.n9 a m).2)
def Fr3 (x : Sx) (H H' : Hp) : Prop := ∀ a o, H a = some o -> a ≠ x.r -> a ≠ x.kn -> a ≠ x.bd -> H' a = some o
theorem Stt.bad (z : ZhN c S H0 x ms us) (t : Stt H0 H x N M R B k) {n u : Int} {tt : Addr} {bv : List V} (hb : H x.bd = some (.lst bv)) (ht : H tt = none) :
  Stt H0 (upd (upd H tt (.tup [.int n, .int u])) x.bd (.lst (bv ++ [.ref tt]))) x N M R (B ++ [(n, u)]) k := by
 have s1 := Zdz ht (.tup [.int n, .int u])
 have e1 : (upd H tt (.tup [.int n, .int u])) tt = some (.tup [.int n, .int u]) := Zdt
 have t1 := t.same s1
 have hb1 := s1 _ _ hb
 generalize upd H tt (.tup [.int n, .int u]) = H1 at s1 t1 hb1 e1 ⊢
 obtain ⟨keep, ⟨rv, r1, r2⟩, ⟨bv', b1, b2⟩, kn, ⟨Lg, Lh, fg, fh, W⟩, nd, ok⟩ := t1
 rw [hb1] at b1
 cases b1
 obtain ⟨_, Eb⟩ := z.bd
 obtain ⟨_, Eg⟩ := z.g
 obtain ⟨_, Eh⟩ := z.h
 have F : ∀ a o, H1 a = some o -> a ≠ x.bd -> (upd H1 x.bd (.lst (bv ++ [.ref tt]))) a = some o := fun a o e m => by rw [ZdA m]; exact e
 have tk : TK H1 (upd H1 x.bd (.lst (bv ++ [.ref tt]))) := fun a xs e => F a _ e (ZdY e hb1 (fun h => nomatch h))
 refine ⟨fun a o e m1 m2 m3 m4 m5 => F a o (keep a o e m1 m2 m3 m4 m5) m2, ⟨rv, F _ _ r1 z.n1, r2.mono tk⟩, ⟨_, Zdt, ?_⟩, F _ _ kn (ZdY kn hb1 (fun h => nomatch h)), ⟨Lg, Lh, fg, fh, W.frame (fun a o e m => F a o e (fun h => ?_)) tk⟩, nd, ok⟩
 ·rw [ZaO]
  exact (b2.mono tk).app (.cons (.tup (tk _ _ e1) (.cons (.flat rfl) (.cons (.flat rfl) .nil))) .nil)
 ·rcases m with m | m | m
  ·rw [h] at m; exact absurd (show some (HO.lst _) = some (HO.dK _) by rw [<- Eb, m, Eg]) (fun h => nomatch h)
  ·rw [h] at m; exact absurd (show some (HO.lst _) = some (HO.dK _) by rw [<- Eb, m, Eh]) (fun h => nomatch h)
  ·rw [h, Eb] at m; cases m
end
section
variable {P : Program} {w : World} {K : PySem.W.Frag} {mg : Str -> Option Value} {base : Heap}
def ZrE (c : Cs) (S : Addr) : Sp := fun vs H Q _ => ∃ (H0 : Hp) (x : Sx) (N : Int) (ms : List Mk3) (us : List Us) (fs : List (Int × Int)) (R : List Rw) (B : List (Int × Int)) (k : Nat) (n p : Int) (m : Nat), vs = [.ref x.s, .int n, .int (m : Int), .int p] /\ ZhN c S H0 x ms us /\ Stt H0 H x N ms.length R B k /\ Dat N ms us fs /\ m < ms.length /\ R ≠ [] /\ B.length <= 1000000 /\
 ∀ H' more, Stt H0 H' x N ms.length (R ++ more) (B ++ bdn (atU us) (nmB us ms m) p n us.length) k -> TK H H' -> Q .non H'
theorem Zgh (T : Txt K mg) : Zfi P w K mg base CX0 3 T.a_Settling_work_uses T.fd_Settling_work_uses ["self", "number", "m", "p"] (ZrE (cs T) T.a_Settling) := by
 have G_Settling_put_flows := Zge (P := P) (w := w) (base := base) T
 have G_NumUse_met := ZiP (P := P) (w := w) (base := base) T
 have G_CallUse_met := ZhV (P := P) (w := w) (base := base) T
 have G_TakeUse_met := ZhX (P := P) (w := w) (base := base) T
 have G_CaseUse_met := ZhW (P := P) (w := w) (base := base) T
 have G_RowUse_met := ZiQ (P := P) (w := w) (base := base) T
 refine T.F_Settling_work_uses.ok ZeX (fun vs H Q E h => ?_) (fun cdv A outer s H vs Q E hr h => ?_)
 ·obtain ⟨H0, x, N, ms, us, fs, R, B, k, n, p, m, rfl, _⟩ := h
  rfl
 obtain ⟨H0, x, N, ms, us, fs, R, B, k, n, p, m, rfl, z, t, dat, hm, hR, hB, fin⟩ := h
 have hu := Zlp hr
 refine ⟨_, (ZdB (Ze3 PassesOwn.never rfl (Zen (Zhn hu (ZdI T.cl_Settling T.n_Settling_uses_at (cv 0)) (cv 3) (Zem Zdu) ⟨rfl, rfl, rfl, rfl⟩)) (Zeb (i := 4) ZeX.nd rfl (.inl rfl))
   (Zdw (Zd1 (i := 5) ZeX.nd rfl (.inl rfl) (PE.or (Zef (ZeD (PE.mono (ZdF ZdK (ZdI T.cl_Board T.n_Board_uses (ZdI T.cl_Settling T.n_Settling_board (cv 0))) (cv 4) (fun _ _ => rfl))) T.cl_NumUse T.me_NumUse_met G_NumUse_met (hr.mono (by decide)) T.b_NumUse_met .nil ZdR (Zds (ZdF ZdK (ZdI T.cl_Board T.n_Board_makes (ZdI T.cl_Settling T.n_Settling_board (cv 0))) (cv 2) (fun _ _ => rfl)) Zdu))) (PE.or (Zef (ZeD (PE.mono (ZdF ZdK (ZdI T.cl_Board T.n_Board_uses (ZdI T.cl_Settling T.n_Settling_board (cv 0))) (cv 4) (fun _ _ => rfl))) T.cl_CallUse T.me_CallUse_met G_CallUse_met (hr.mono (by decide)) T.b_CallUse_met .nil ZdR (Zds (ZdF ZdK (ZdI T.cl_Board T.n_Board_makes (ZdI T.cl_Settling T.n_Settling_board (cv 0))) (cv 2) (fun _ _ => rfl)) Zdu))) (PE.or (Zef (ZeD (PE.mono (ZdF ZdK (ZdI T.cl_Board T.n_Board_uses (ZdI T.cl_Settling T.n_Settling_board (cv 0))) (cv 4) (fun _ _ => rfl))) T.cl_TakeUse T.me_TakeUse_met G_TakeUse_met (hr.mono (by decide)) T.b_TakeUse_met .nil ZdR (Zds (ZdF ZdK (ZdI T.cl_Board T.n_Board_makes (ZdI T.cl_Settling T.n_Settling_board (cv 0))) (cv 2) (fun _ _ => rfl)) Zdu))) (PE.or (Zef (ZeD (PE.mono (ZdF ZdK (ZdI T.cl_Board T.n_Board_uses (ZdI T.cl_Settling T.n_Settling_board (cv 0))) (cv 4) (fun _ _ => rfl))) T.cl_CaseUse T.me_CaseUse_met G_CaseUse_met (hr.mono (by decide)) T.b_CaseUse_met .nil ZdR (Zds (ZdF ZdK (ZdI T.cl_Board T.n_Board_makes (ZdI T.cl_Settling T.n_Settling_board (cv 0))) (cv 2) (fun _ _ => rfl)) Zdu))) (Zef (ZeD (PE.mono (ZdF ZdK (ZdI T.cl_Board T.n_Board_uses (ZdI T.cl_Settling T.n_Settling_board (cv 0))) (cv 4) (fun _ _ => rfl))) T.cl_RowUse T.me_RowUse_met G_RowUse_met (hr.mono (by decide)) T.b_RowUse_met .nil ZdR (Zds (ZdF ZdK (ZdI T.cl_Board T.n_Board_makes (ZdI T.cl_Settling T.n_Settling_board (cv 0))) (cv 2) (fun _ _ => rfl)) Zdu))))))))
   (ZdB (Zez (Zjg (ZpQ (cv 5)))
    (ZdB (ZdT (ZfK (ZgB ZcU ZcV ZcW Zea (PE.mono (ZdI T.cl_Settling T.n_Settling_bads (cv 0))) (Zds (PE.mono (Zel (Zds (cv 1) (Zds (cv 4) Zdu)))) Zdu)))))
    (ZdB (ZdT (Zef (ZeD (PE.mono (cv 0)) T.cl_Settling T.me_Settling_put_flows G_Settling_put_flows (hr.mono (by decide)) T.b_Settling_put_flows .nil ZdR (Zds (cv 5) (Zds (Zel (Zds (cv 1) (Zds (cv 4) Zdu))) Zdu))))))))))), ?_⟩
 have sl : sizeLine = 16777216 := sizeLine_eq
 have hM : (ms.length : Int) <= 64 := by have := dat.lm; omega
 obtain ⟨rv, hrv, _⟩ := t.r
 obtain ⟨bv0, hbv0, _⟩ := t.bd
 refine ⟨_, ⟨_, _, z.hs t, ZlF _ _ _ _ _ _ _⟩, x.ua, rfl, .inl (by obtain ⟨kvs, e, _⟩ := z.uaH t; exact ⟨kvs, .inl e⟩), (by show 0 <= sizeLine; decide), fun zz hz => ?_⟩
 obtain ⟨kvs, l, ek, eg, hl, own⟩ := (z.uaH t).get p hz
 have s1 := Zdz hz (.lst [])
 have t1 := t.same s1
 have nr : l ≠ x.r := fun h => by
  rcases own with m | m
  ·exact (z.n9 l m).1 h
  ·rw [h, hrv] at m; cases m
 have nb : l ≠ x.bd := fun h => by
  rcases own with m | m
  ·exact (z.n9 l m).2 h
  ·rw [h, hbv0] at m; cases m
 have nk : l ≠ x.kn := ZdY hl t1.kn (fun h => nomatch h)
 obtain ⟨uv, eu, hU⟩ := z.u
 obtain ⟨mv, em, hMk⟩ := z.m
 obtain ⟨mk, hmk⟩ : ∃ mk, ms[m]? = some mk := ⟨_, ZaT hm⟩
 obtain ⟨mvv, hmvv⟩ : ∃ v, mv[m]? = some v := ⟨_, ZaT (by rw [hMk.length]; exact hm)⟩
 obtain ⟨mk', hmk', hM3⟩ := hMk.get hmvv
 rw [hmk] at hmk'
 cases hmk'
 have mo := dat.mo mk (ZaB hmk)
 refine ⟨_, Zh9.k (k := Sum.inl p) ek, l, eg, ⟨_, SqL.of hl⟩, Zeo (xs := ixv us us.length p) (fun i σ H2 => ∃ (o5 o6 : Option V) (more : List Rw), σ = [some (.ref x.s), some (.int n), some (.int (m : Int)), some (.int p), o5, o6] /\ Stt H0 H2 x N ms.length (R ++ more) (B ++ (((ixn (atU us) p us.length).take i).filter (nmB us ms m)).map fun j => (n, j)) k /\ Fr3 x (upd H zz (.lst [])) H2)
  ⟨none, none, [], rfl, by rw [Zas]; simpa using t1, fun _ _ e _ _ _ => e⟩ (fun i σ H2 _ ⟨_, _, _, _, _, F⟩ => SqL.of (F _ _ hl nr nk nb)) ?_ ?_⟩
 ·rintro i v σ H2 hv ⟨o5, o6, more, rfl, t2, F⟩
  unfold ixv at hv
  rw [ZaA] at hv
  cases hj : (ixn (atU us) p us.length)[i]? with
  | none => rw [hj] at hv; cases hv
  | some j' =>
  rw [hj] at hv
  cases hv
  obtain ⟨j, rfl, hjl, hat⟩ := Zke (ZaB hj)
  have hi : i <= us.length := ZbI (ZbE (Zaj.mp hj).1 ZhB)
  obtain ⟨u, hu1⟩ : ∃ u, us[j]? = some u := ⟨_, ZaT hjl⟩
  obtain ⟨xv, hxv⟩ : ∃ v, uv[j]? = some v := ⟨_, ZaT (by rw [hU.length]; exact hjl)⟩
  obtain ⟨u', hu2, hux⟩ := hU.get hxv
  rw [hu1] at hu2
  cases hu2
  have uo := dat.uo u (ZaB hu1)
  have fk := z.fk t2
  have hux2 := hux.mono fk
  have hM2 : Zic (cs T) H2 mvv (mkg mk.f mk.a mk.p) := Zic.mono fk hM3
  have hp2 := z.lst t2 eu z.n7 z.n8
  have hp1 := z.lst t2 em z.n5 z.n6
  have hnm : nmB us ms m j = (Zj2 u mk.f).isNone := by unfold nmB; rw [Zdh, Zdh, hu1, hmk]
  dsimp only [Ze9]
  refine ZqG (R := fun v H3 => ZdN H2 H3 /\ Dta H3 v (mtD (Zj2 u mk.f))) (fun Q' key => ?_) (fun v H3 ⟨S3, hd⟩ => ?_)
  ·have hs2 := z.hs t2
   have hb2 := z.hb t2
   have key' : ∀ v H', ZdN H2 H' -> Dta H' v (mtD (Zj2 u mk.f)) -> Q' v H' := fun v H' a b => key v H' ⟨a, b⟩
   cases u with
   | num a1 a2 a3 =>
    obtain ⟨xu, dxu, rfl, e⟩ := id hux2
    exact .inl ⟨_, ⟨_, _, hs2, Zfr _ _ _ _ _ _ _⟩, _, ⟨_, _, hb2, Zgc _ _ _ _ _⟩, uv, hp2, ZdC (Zdy hxv) ⟨⟨_, _, e, ZmZ _ _ _⟩, _, ⟨_, _, hs2, Zfr _ _ _ _ _ _ _⟩, _, ⟨_, _, hb2, ZfX _ _ _ _ _⟩, mv, hp1, ZdC (Zdy hmvv) ⟨_, _, _, mk.f, mk.a, mk.p, rfl, ⟨_, _, _, rfl⟩, uo.1, hux2, hM2, mo.1, key'⟩⟩⟩
   | call a1 a2 a3 a4 a5 =>
    obtain ⟨xu, dxu, rfl, e⟩ := id hux2
    exact .inr (.inl ⟨_, ⟨_, _, hs2, Zfr _ _ _ _ _ _ _⟩, _, ⟨_, _, hb2, Zgc _ _ _ _ _⟩, uv, hp2, ZdC (Zdy hxv) ⟨⟨_, _, e, ZlD _ _ _ _ _⟩, _, ⟨_, _, hs2, Zfr _ _ _ _ _ _ _⟩, _, ⟨_, _, hb2, ZfX _ _ _ _ _⟩, mv, hp1, ZdC (Zdy hmvv) ⟨_, _, _, mk.f, mk.a, mk.p, rfl, ⟨_, _, _, _, _, rfl⟩, uo.1, hux2, hM2, mo.1, key'⟩⟩⟩)
   | take a1 a2 a3 a4 =>
    obtain ⟨xu, dxu, f, rfl, e, _⟩ := id hux2
    exact .inr (.inr (.inl ⟨_, ⟨_, _, hs2, Zfr _ _ _ _ _ _ _⟩, _, ⟨_, _, hb2, Zgc _ _ _ _ _⟩, uv, hp2, ZdC (Zdy hxv) ⟨⟨_, _, e, Zkl _ _ _ _⟩, _, ⟨_, _, hs2, Zfr _ _ _ _ _ _ _⟩, _, ⟨_, _, hb2, ZfX _ _ _ _ _⟩, mv, hp1, ZdC (Zdy hmvv) ⟨_, _, _, mk.f, mk.a, mk.p, rfl, ⟨_, _, _, _, rfl⟩, uo.1, hux2, hM2, mo.1, key'⟩⟩⟩))
   | case a1 a2 a3 a4 =>
    obtain ⟨xu, dxu, f, rfl, e, _⟩ := id hux2
    exact .inr (.inr (.inr (.inl ⟨_, ⟨_, _, hs2, Zfr _ _ _ _ _ _ _⟩, _, ⟨_, _, hb2, Zgc _ _ _ _ _⟩, uv, hp2, ZdC (Zdy hxv) ⟨⟨_, _, e, Zkm _ _ _ _⟩, _, ⟨_, _, hs2, Zfr _ _ _ _ _ _ _⟩, _, ⟨_, _, hb2, ZfX _ _ _ _ _⟩, mv, hp1, ZdC (Zdy hmvv) ⟨_, _, _, mk.f, mk.a, mk.p, rfl, ⟨_, _, _, _, rfl⟩, uo.1, hux2, hM2, mo.1, key'⟩⟩⟩)))
   | row a1 a2 a3 a4 =>
    obtain ⟨xu, dxu, rfl, e⟩ := id hux2
    exact .inr (.inr (.inr (.inr ⟨_, ⟨_, _, hs2, Zfr _ _ _ _ _ _ _⟩, _, ⟨_, _, hb2, Zgc _ _ _ _ _⟩, uv, hp2, ZdC (Zdy hxv) ⟨⟨_, _, e, Zkn _ _ _ _⟩, _, ⟨_, _, hs2, Zfr _ _ _ _ _ _ _⟩, _, ⟨_, _, hb2, ZfX _ _ _ _ _⟩, mv, hp1, ZdC (Zdy hmvv) ⟨_, _, _, mk.f, mk.a, mk.p, rfl, ⟨_, _, _, _, rfl⟩, uo.1, hux2, hM2, mo.1, key'⟩⟩⟩)))
  have t3 := t2.same S3
  have hs3 := z.hs t3
  have F3 : Fr3 x (upd H zz (.lst [])) H3 := fun a o e n1 n2 n3 => S3 _ _ (F a o e n1 n2 n3)
  cases e : Zj2 u mk.f with
  | none =>
   rw [e] at hd
   cases hd
   refine ⟨true, by rw [decide_eq_true rfl], ZgJ ?_⟩
   obtain ⟨bv, hbv, hbl⟩ := t3.bd
   have hbn : bv.length <= 1000000 + us.length := by
    rw [hbl.length, Zar, ZaC, Zar]
    have := ZaN (nmB us ms m) ((ixn (atU us) p us.length).take i)
    have := List.length_take_le i (ixn (atU us) p us.length)
    omega
   have := dat.lu
   refine ⟨_, ⟨_, _, hs3, Zm2 _ _ _ _ _ _ _⟩, ⟨_, hbv⟩, (by show 2 <= sizeLine; decide), fun tt ht => ⟨bv, Zdz ht _ _ _ hbv, by omega, _, _, more, rfl, ?_, fun a o e n1 n2 n3 => ?_⟩⟩
   ·rw [ZjV hj, hnm, e, if_pos (show (none : Option (List (Int × Int))).isNone = true from rfl), <- Za7]
    exact t3.bad z hbv ht
   ·rw [ZdA n3]
    exact Zdz ht _ _ _ (F3 a o e n1 n2 n3)
  | some lf =>
   rw [e] at hd
   cases hd with
   | @lst f fv _ ef hfl =>
   refine ⟨false, by rw [decide_eq_false (fun h => nomatch h)], ZfA ?_⟩
   refine ⟨⟨_, _, hs3, Zh0 "put_flows" _ _ _ _ _ _ _ (by decide +kernel)⟩, (by show 2 <= sizeLine; decide), fun tw hw => ?_⟩
   have S4 := Zdz hw (.tup [.int n, .int (j : Int)])
   have fr : f ≠ x.r := fun h => by
    obtain ⟨rv3, hrv3, hrl⟩ := t3.r
    rw [h, hrv3] at ef
    cases ef
    exact ZrD hrl (Zm4 hfl) (by simp [hR])
   refine ⟨H0, x, N, ms.length, ms, us, R ++ more, _, k, f, fv, lf, some (n, (j : Int)), .ref tw, rfl, z, t3.same S4, dat.n1, hM, S4 _ _ ef, (Zm4 hfl).mono (ZdN.tk S4), fr, ZnU uo.2 mo.2.1 e, .tup Zdt (.cons (.flat rfl) (.cons (.flat rfl) .nil)), fun H' more' t' F' => ?_⟩
   refine ⟨_, _, more ++ more', rfl, ?_, fun a o e n1 n2 n3 => F' a o (S4 _ _ (F3 a o e n1 n2 n3)) n1 n2⟩
   rw [ZjV hj, hnm, e, if_neg (by simp), Zas, <- Za7]
   exact t'
 ·rintro σ H2 ⟨o5, o6, more, rfl, t2, F⟩
  refine fin H2 more ?_ fun a xs e => F a _ (s1 _ _ e) (ZdY e hrv (fun h => nomatch h)) (ZdY e t.kn (fun h => nomatch h)) (ZdY e hbv0 (fun h => nomatch h))
  unfold ixv at t2
  rw [Zar, ZaP] at t2
  exact t2
def Zpt (c : Cs) (S : Addr) : Sp := fun vs H Q _ => ∃ (H0 : Hp) (x : Sx) (N : Int) (ms : List Mk3) (us : List Us) (fs : List (Int × Int)) (R : List Rw) (B : List (Int × Int)) (k : Nat) (ρ : Rw), vs = [.ref x.s, .int (k : Int)] /\ ZhN c S H0 x ms us /\ Stt H0 H x N ms.length R B k /\ Dat N ms us fs /\ R[k]? = some ρ /\ B.length <= 64 * k /\
 ∀ H' more, Stt H0 H' x N ms.length (R ++ more) (B ++ ZlG us ms ρ k) (k + 1) -> Q .non H'
theorem wd_t : (xor false (decide (wd true = ("goes" : Str)))) = true := by decide +kernel
theorem wd_f : (xor false (decide (wd false = ("goes" : Str)))) = false := by decide +kernel
theorem Zhl (T : Txt K mg) : Zfi P w K mg base CX0 4 T.a_Settling_work T.fd_Settling_work ["self", "number"] (Zpt (cs T) T.a_Settling) := by
 have G_Settling_work_goes := Zgf (P := P) (w := w) (base := base) T
 have G_Settling_work_here := Zgg (P := P) (w := w) (base := base) T
 have G_Settling_work_uses := Zgh (P := P) (w := w) (base := base) T
 refine T.F_Settling_work.ok Zf1 (fun vs H Q E h => ?_) (fun cdv A outer s H vs Q E hr h => ?_)
 ·obtain ⟨H0, x, N, ms, us, fs, R, B, k, ρ, rfl, _⟩ := h
  rfl
 obtain ⟨H0, x, N, ms, us, fs, R, B, k, ρ, rfl, z, t, dat, hk, hB, fin⟩ := h
 refine ⟨_, (Zdw (Zd1 (i := 2) Zf1.nd rfl (.inl rfl) (ZdF ZdK (ZdI T.cl_Settling T.n_Settling_rows (cv 0)) (cv 1) (fun _ _ => rfl)))
  (ZdB (Zez (ZdQ Zft (ZdF ZdG (cv 2) Zdv (fun _ _ => rfl)) ZdZ (Zd3 _))
   (ZdB (ZdT (Zef (ZeD (PE.mono (cv 0)) T.cl_Settling T.me_Settling_work_goes G_Settling_work_goes (hr.mono (by decide)) T.b_Settling_work_goes .nil ZdR (Zds (cv 1) (Zds (ZdF ZdG (cv 2) Zdv (fun _ _ => rfl)) (Zds (ZdF ZdG (cv 2) Zdv (fun _ _ => rfl)) Zdu)))))))
   (Zdw (ZdT (Zef (ZeD (PE.mono (cv 0)) T.cl_Settling T.me_Settling_work_uses G_Settling_work_uses (hr.mono (by decide)) T.b_Settling_work_uses .nil ZdR (Zds (cv 1) (Zds (ZdF ZdG (cv 2) Zdv (fun _ _ => rfl)) (Zds (ZdF ZdG (cv 2) Zdv (fun _ _ => rfl)) Zdu))))))
   (ZdB (ZdT (Zef (ZeD (PE.mono (cv 0)) T.cl_Settling T.me_Settling_work_here G_Settling_work_here (hr.mono (by decide)) T.b_Settling_work_here .nil ZdR (Zds (cv 1) (Zds (ZdF ZdG (cv 2) Zdv (fun _ _ => rfl)) (Zds (ZdF ZdG (cv 2) Zdv (fun _ _ => rfl)) Zdu))))))))))), ?_⟩
 have hM : (ms.length : Int) <= 64 := by have := dat.lm; omega
 have hlen := t.len dat.n1 hM
 have hkl := (Zaj.mp hk).1
 obtain ⟨rv, hrv, hrl⟩ := t.r
 obtain ⟨tr, wv, h1, h2, _⟩ := Zij hrl hk
 obtain ⟨o1, o2, o3, o4⟩ := t.ok ρ (ZaB hk)
 refine ⟨_, ⟨_, _, z.hs t, ZiV _ _ _ _ _ _ _⟩, rv, hrv, ZdC (Zdy h1) ⟨_, h2, ZdC (Zdy (j := 0) rfl) ?_⟩⟩
 obtain ⟨w', a, b, y⟩ := ρ
 cases w' with
 | true =>
  dsimp only at h2 o1 o2 o3 o4 ⊢
  dsimp only [tC, cEq, onB]
  rw [wd_t]
  refine ZgJ ⟨⟨_, _, z.hs t, Zh0 "work_goes" _ _ _ _ _ _ _ (by decide +kernel)⟩, _, h2, _, h2, H0, x, N, ms.length, ms, us, R, B, k, (k : Int), a, b, rfl, z, t, dat.n1, hM, by omega, ⟨o3, o4⟩, fun H' more t' => fin H' more ?_⟩
  show Stt H0 H' x N ms.length (R ++ more) (B ++ []) (k + 1)
  rw [Zas]
  exact t'
 | false =>
  dsimp only at h2 o1 o2 o3 o4 ⊢
  dsimp only [tC, cEq, onB]
  have ea : a = (a.toNat : Int) := by omega
  rw [wd_f]
  refine ZfA ⟨⟨_, _, z.hs t, Zh0 "work_uses" _ _ _ _ _ _ _ (by decide +kernel)⟩, _, h2, _, h2, H0, x, N, ms, us, fs, R, B, k, (k : Int), b, a.toNat, (by rw [<- ea]; rfl), z, t, dat, by omega, (fun h => by rw [h] at hkl; exact absurd hkl (ZbU _)), by omega, fun H1 more t1 tk => ?_⟩
  have h2' : H1 tr = some (.tup [.str (wd false), .int a, .int b, wv]) := tk _ _ h2
  refine ⟨⟨_, _, z.hs t1, Zh0 "work_here" _ _ _ _ _ _ _ (by decide +kernel)⟩, _, h2', _, h2', H0, x, N, ms.length, ms, us, R ++ more, _, k, (k : Int), b, a, rfl, z, t1, dat.n1, hM, by omega, ⟨o1, o2⟩, fun H' more' t' => fin H' (more ++ more') ?_⟩
  show Stt H0 H' x N ms.length (R ++ (more ++ more')) (B ++ bdn (atU us) (nmB us ms a) b k us.length) (k + 1)
  rw [<- Za7]
  rw [<- ea] at t'
  exact t'
end
theorem _root_.BO.Internal.UsAt.to {c : Cs} {H H' : Hp} {v : V} {u : Us} {s S dx : Addr} (h : UsAt c H v u) (hs : H s = some (.ins S dx [])) (k : ∀ a o, H a = some o -> a ≠ s -> H' a = some o) : UsAt c H' v u := by
 have tk : TK H H' := fun a xs e => k a _ e (ZdY e hs (fun h => nomatch h))
 have n : ∀ {a : Addr} {C d : Addr} {p : Str × V} {r : List (Str × V)}, H a = some (.ins C d (p :: r)) -> a ≠ s := fun e => ZdY e hs (fun h => by injection h with _ _ h; cases h)
 cases u with
 | num a p q => obtain ⟨x, d, rfl, e⟩ := h; exact ⟨x, d, rfl, k _ _ e (n e)⟩
 | call a p q y z => obtain ⟨x, d, rfl, e⟩ := h; exact ⟨x, d, rfl, k _ _ e (n e)⟩
 | take a p q l => obtain ⟨x, d, f, rfl, e, i, j⟩ := h; exact ⟨x, d, f, rfl, k _ _ e (n e), i.mono tk, j⟩
 | case a p q l => obtain ⟨x, d, f, rfl, e, i, j⟩ := h; exact ⟨x, d, f, rfl, k _ _ e (n e), i.mono tk, j⟩
 | row a p q y => obtain ⟨x, d, rfl, e⟩ := h; exact ⟨x, d, rfl, k _ _ e (n e)⟩
theorem M3.to {c : Cs} {H H' : Hp} {v : V} {m : Mk3} {s S dx : Addr} (h : M3 c H v m) (hs : H s = some (.ins S dx [])) (k : ∀ a o, H a = some o -> a ≠ s -> H' a = some o) : M3 c H' v m := by
 have tk : TK H H' := fun a xs e => k a _ e (ZdY e hs (fun h => nomatch h))
 obtain ⟨x, d, f, rfl, e, i, j⟩ := h
 exact ⟨x, d, f, rfl, k _ _ e (ZdY e hs (fun h => by injection h with _ _ h; cases h)), i.mono tk, j⟩
theorem stp {Hc : Hp} {s p : Addr} {o u o2 : HO} (Hs : Hc s = some u) (hp : Hc p = none) : (∀ a w, Hc a = some w -> a ≠ s -> (upd (upd Hc p o) s o2) a = some w) /\ (upd (upd Hc p o) s o2) p = some o /\ (upd (upd Hc p o) s o2) s = some o2 /\ (upd Hc p o) s = some u := by
 have n : s ≠ p := ZdD Hs hp
 refine ⟨fun a w e m => by rw [ZdA m, ZdA (ZdD e hp)]; exact e, by rw [ZdA (Ne.symm n)]; exact Zdt, Zdt, by rw [ZdA n]; exact Hs⟩
noncomputable def g1 (b : Addr) : List (Str × V) := [(("board" : Str), V.ref b)]
noncomputable def g2 (b ua : Addr) : List (Str × V) := g1 b ++ [(("uses_at" : Str), V.ref ua)]
noncomputable def g3 (b ua r : Addr) : List (Str × V) := g2 b ua ++ [(("rows" : Str), V.ref r)]
noncomputable def g4 (b ua r bd : Addr) : List (Str × V) := g3 b ua r ++ [(("bads" : Str), V.ref bd)]
noncomputable def g5 (b ua r bd kn : Addr) : List (Str × V) := g4 b ua r bd ++ [(("known" : Str), V.ref kn)]
noncomputable def g6 (b ua r bd kn g : Addr) : List (Str × V) := g5 b ua r bd kn ++ [(("goes" : Str), V.ref g)]
noncomputable def g7 (b ua r bd kn g h : Addr) : List (Str × V) := g6 b ua r bd kn g ++ [(("heres" : Str), V.ref h)]
section
variable {P : Program} {w : World} {K : PySem.W.Frag} {mg : Str -> Option Value} {base : Heap}
def ZnW (c : Cs) (S : Addr) : Sp := fun vs H Q _ => ∃ (s dx b bx p0 p1 p2 p3 : Addr) (r0 : V) (uv : List V) (us : List Us), vs = [.ref s, .ref b] /\ H s = some (.ins S dx []) /\ H b = some (.ins c.B bx (fB p0 p1 p2 p3 r0)) /\ H p2 = some (.lst uv) /\ Zgp (UsAt c H) uv us /\ us.length <= 64 /\
 ∀ (ua r bd kn g h : Addr) (Lu : List Addr) (H' : Hp), (∀ a o, H a = some o -> a ≠ s -> H' a = some o) -> H' s = some (.ins S dx (fS b ua r bd kn g h)) -> DL H' ua Lu (ixv us us.length) us.length -> H' r = some (.lst []) -> H' bd = some (.lst []) -> H' kn = some (.dT []) -> H' g = some (.dK []) -> H' h = some (.dK []) ->
  H r = none -> H bd = none -> H kn = none -> H g = none -> H h = none -> (∀ a ∈ Lu, a ≠ r /\ a ≠ bd) -> r ≠ bd -> g ≠ h -> ua ≠ g -> ua ≠ h -> Q .non H'
theorem Zgr (T : Txt K mg) : Zfi P w K mg base CX0 2 T.a_Settling___init__ T.fd_Settling___init__ ["self", "board"] (ZnW (cs T) T.a_Settling) := by
 have G_uses_by_point := Zf2 (P := P) (w := w) (base := base) T
 refine T.F_Settling___init__.ok Zgq (fun vs H Q E h => ?_) (fun cdv A outer s H vs Q E hr h => ?_)
 ·obtain ⟨s, dx, b, bx, p0, p1, p2, p3, r0, uv, us, rfl, _⟩ := h
  rfl
 obtain ⟨s, dx, b, bx, p0, p1, p2, p3, r0, uv, us, rfl, hs, hb, h2, hU, hn, q⟩ := h
 refine ⟨_, (Zdw (ZfT T.cl_Settling T.n_Settling_board (ZeA (PE.mono (cv 0)) (PE.mono (cv 1)) rfl))
  (Zdw (ZfT T.cl_Settling T.n_Settling_uses_at (ZeA (PE.mono (cv 0)) (PE.mono (ZdM G_uses_by_point (hr.mono (by decide)) rfl T.m_uses_by_point T.k_uses_by_point T.b_uses_by_point .nil ZdR (Zds (cv 1) Zdu))) rfl))
  (Zdw (ZfT T.cl_Settling T.n_Settling_rows (ZeA (PE.mono (cv 0)) (PE.mono (Zem Zdu)) rfl))
  (Zdw (ZfT T.cl_Settling T.n_Settling_bads (ZeA (PE.mono (cv 0)) (PE.mono (Zem Zdu)) rfl))
  (Zdw (ZfT T.cl_Settling T.n_Settling_known (ZeA (PE.mono (cv 0)) (PE.mono ZkH) rfl))
  (Zdw (ZfT T.cl_Settling T.n_Settling_goes (ZeA (PE.mono (cv 0)) (PE.mono Ziq) rfl))
  (ZdB (ZfT T.cl_Settling T.n_Settling_heres (ZeA (PE.mono (cv 0)) (PE.mono Ziq) rfl))))))))), ?_⟩
 have z0 : (0 : Nat) <= sizeLine := by decide
 refine ⟨dx, _, hs, (by show 0 < 1000; decide), ?_⟩
 have k1 : ∀ a o, H a = some o -> a ≠ s -> (upd H s (.ins T.a_Settling dx (g1 b))) a = some o := fun a o e m => by rw [ZdA m]; exact e
 have hs1 : (upd H s (.ins T.a_Settling dx (g1 b))) s = some (.ins T.a_Settling dx (g1 b)) := Zdt
 change ZkB _ _ _ _ (upd H s (.ins T.a_Settling dx (g1 b)))
 generalize upd H s (.ins T.a_Settling dx (g1 b)) = H1 at k1 hs1 ⊢
 have bs : b ≠ s := ZdY hb hs (fun h => by injection h with _ _ h; cases h)
 refine ⟨b, bx, p0, p1, p2, p3, r0, uv, us, rfl, k1 _ _ hb bs, k1 _ _ h2 (ZdY h2 hs (fun h => nomatch h)), hU.imp fun _ _ h => h.to hs k1, by omega, fun ua Lu H2 S2 nua nLu D2 => ?_⟩
 refine ⟨dx, _, S2 _ _ hs1, (by show 1 < 1000; decide), ?_⟩
 rw [ZfI ["board"] rfl (by decide +kernel)]
 change ZkB _ _ _ _ (upd H2 s (.ins T.a_Settling dx (g2 b ua)))
 have k2 : ∀ a o, H1 a = some o -> a ≠ s -> (upd H2 s (.ins T.a_Settling dx (g2 b ua))) a = some o := fun a o e m => by rw [ZdA m]; exact S2 _ _ e
 have uas : ua ≠ s := fun h => by rw [h, hs1] at nua; cases nua
 have D2' : DL (upd H2 s (.ins T.a_Settling dx (g2 b ua))) ua Lu (ixv us us.length) us.length := D2.keep (fun kvs e => by rw [ZdA uas]; exact e) (fun a l m e => by rw [ZdA (fun h => by have := (nLu a m).1; rw [h, hs1] at this; cases this)]; exact e)
 have L2.Internal : ∀ a ∈ Lu, a ≠ s /\ ∃ o, (upd H2 s (.ins T.a_Settling dx (g2 b ua))) a = some o := fun a m => by
  have as : a ≠ s := fun h => by have := (nLu a m).1; rw [h, hs1] at this; cases this
  obtain ⟨o, eo⟩ := (nLu a m).2
  exact ⟨as, o, by rw [ZdA as]; exact eo⟩
 have hs2 : (upd H2 s (.ins T.a_Settling dx (g2 b ua))) s = some (.ins T.a_Settling dx (g2 b ua)) := Zdt
 generalize upd H2 s (.ins T.a_Settling dx (g2 b ua)) = H3 at k2 D2' hs2 L2.Internal ⊢
 obtain ⟨kv, eua, D3⟩ := D2'
 have DD : DL H3 ua Lu (ixv us us.length) us.length := ⟨kv, eua, D3⟩
 have lne : ∀ {Hx : Hp} {f : Int -> List V} {n : Nat} {p : Addr}, DL Hx ua Lu f n -> Hx p = none -> ua ≠ p := fun D e h => by obtain ⟨_, e2, _⟩ := D; rw [h, e] at e2; cases e2
 refine ⟨z0, fun r hr0 => ⟨dx, _, (stp (o := .lst []) (o2 := .lst []) hs2 hr0).2.2.2, (by show 2 < 1000; decide), ?_⟩⟩
 rw [ZfI ["board", "uses_at"] rfl (by decide +kernel)]
 change ZkB _ _ _ _ (upd (upd H3 r (.lst [])) s (.ins T.a_Settling dx (g3 b ua r)))
 obtain ⟨k3, er3, hs3, _⟩ := stp (o := .lst []) (o2 := .ins T.a_Settling dx (g3 b ua r)) hs2 hr0
 have rs : r ≠ s := fun h => by rw [h, hs2] at hr0; cases hr0
 generalize upd (upd H3 r (.lst [])) s (.ins T.a_Settling dx (g3 b ua r)) = H4 at k3 er3 hs3 ⊢
 refine ⟨z0, fun bd hbd => ⟨dx, _, (stp (o := .lst []) (o2 := .lst []) hs3 hbd).2.2.2, (by show 3 < 1000; decide), ?_⟩⟩
 rw [ZfI ["board", "uses_at", "rows"] rfl (by decide +kernel)]
 change ZkB _ _ _ _ (upd (upd H4 bd (.lst [])) s (.ins T.a_Settling dx (g4 b ua r bd)))
 obtain ⟨k4, ebd4, hs4, _⟩ := stp (o := .lst []) (o2 := .ins T.a_Settling dx (g4 b ua r bd)) hs3 hbd
 have rb : r ≠ bd := fun h => by rw [<- h, er3] at hbd; cases hbd
 have bds : bd ≠ s := fun h => by rw [h, hs3] at hbd; cases hbd
 generalize upd (upd H4 bd (.lst [])) s (.ins T.a_Settling dx (g4 b ua r bd)) = H5 at k4 ebd4 hs4 ⊢
 refine fun kn hkn => ⟨dx, _, (stp (o := .dT []) (o2 := .lst []) hs4 hkn).2.2.2, (by show 4 < 1000; decide), ?_⟩
 rw [ZfI ["board", "uses_at", "rows", "bads"] rfl (by decide +kernel)]
 change ZkB _ _ _ _ (upd (upd H5 kn (.dT [])) s (.ins T.a_Settling dx (g5 b ua r bd kn)))
 obtain ⟨k5, ekn5, hs5, _⟩ := stp (o := .dT []) (o2 := .ins T.a_Settling dx (g5 b ua r bd kn)) hs4 hkn
 generalize upd (upd H5 kn (.dT [])) s (.ins T.a_Settling dx (g5 b ua r bd kn)) = H6 at k5 ekn5 hs5 ⊢
 have kns : kn ≠ s := ZdY ekn5 hs5 (fun h => nomatch h)
 refine fun g hg => ⟨dx, _, (stp (o := .dK []) (o2 := .lst []) hs5 hg).2.2.2, (by show 5 < 1000; decide), ?_⟩
 rw [ZfI ["board", "uses_at", "rows", "bads", "known"] rfl (by decide +kernel)]
 change Zj5.nx _ _ (upd (upd H6 g (.dK [])) s (.ins T.a_Settling dx (g6 b ua r bd kn g)))
 obtain ⟨k6, eg6, hs6, _⟩ := stp (o := .dK []) (o2 := .ins T.a_Settling dx (g6 b ua r bd kn g)) hs5 hg
 have gs : g ≠ s := ZdY eg6 hs6 (fun h => nomatch h)
 have e6 : ∀ a o, H3 a = some o -> a ≠ s -> H6 a = some o := fun a o e m => k5 _ _ (k4 _ _ (k3 _ _ e m) m) m
 have uag : ua ≠ g := fun h => by rw [<- h, e6 _ _ eua uas] at hg; cases hg
 generalize upd (upd H6 g (.dK [])) s (.ins T.a_Settling dx (g6 b ua r bd kn g)) = H7 at k6 eg6 hs6 ⊢
 refine fun h hh => ⟨dx, _, (stp (o := .dK []) (o2 := .lst []) hs6 hh).2.2.2, (by show 6 < 1000; decide), ?_⟩
 rw [ZfI ["board", "uses_at", "rows", "bads", "known", "goes"] rfl (by decide +kernel)]
 show Q .non (upd (upd H7 h (.dK [])) s (.ins T.a_Settling dx (g7 b ua r bd kn g h)))
 obtain ⟨k7, eh7, hs7, _⟩ := stp (o := .dK []) (o2 := .ins T.a_Settling dx (g7 b ua r bd kn g h)) hs6 hh
 have uah : ua ≠ h := fun z => by rw [<- z, k6 _ _ (e6 _ _ eua uas) uas] at hh; cases hh
 have gh : g ≠ h := fun z => by rw [<- z, eg6] at hh; cases hh
 have e8 : ∀ a o, H3 a = some o -> a ≠ s -> (upd (upd H7 h (.dK [])) s (.ins T.a_Settling dx (g7 b ua r bd kn g h))) a = some o := fun a o e m => k7 _ _ (k6 _ _ (e6 a o e m) m) m
 have nn : ∀ {Hx : Hp} {p : Addr}, (∀ a o, H a = some o -> a ≠ s -> Hx a = some o) -> Hx p = none -> p ≠ s -> H p = none := fun {Hx p} k e m => by
  cases z : H p with
  | none => rfl
  | some o => rw [k p o z m] at e; cases e
 refine q ua r bd kn g h Lu _ (fun a o e m => e8 a o (k2 _ _ (k1 _ _ e m) m) m) hs7 (DD.keep (fun kvs e => e8 _ _ e uas) (fun a l m e => e8 _ _ e (ZdY e hs2 (fun h => nomatch h)))) ?_ ?_ ?_ (k7 _ _ eg6 gs) eh7 ?_ ?_ ?_ ?_ ?_ ?_ rb gh uag uah
 ·exact k7 _ _ (k6 _ _ (k5 _ _ (k4 _ _ er3 rs) rs) rs) rs
 ·exact k7 _ _ (k6 _ _ (k5 _ _ ebd4 bds) bds) bds
 ·exact k7 _ _ (k6 _ _ ekn5 kns) kns
 ·exact nn (fun a o e m => k2 _ _ (k1 _ _ e m) m) hr0 rs
 ·exact nn (fun a o e m => k3 _ _ (k2 _ _ (k1 _ _ e m) m) m) hbd bds
 ·exact nn (fun a o e m => k4 _ _ (k3 _ _ (k2 _ _ (k1 _ _ e m) m) m) m) hkn kns
 ·exact nn (fun a o e m => e6 _ _ (k2 _ _ (k1 _ _ e m) m) m) hg gs
 ·exact nn (fun a o e m => k6 _ _ (e6 _ _ (k2 _ _ (k1 _ _ e m) m) m) m) hh (ZdY eh7 hs7 (fun h => nomatch h))
 ·intro a m
  obtain ⟨as, o, eo⟩ := L2.Internal a m
  exact ⟨fun h => (by rw [h, hr0] at eo; cases eo), fun h => (by have := k3 _ _ eo as; rw [h, hbd] at this; cases this)⟩
end
section
variable {P : Program} {w : World} {K : PySem.W.Frag} {mg : Str -> Option Value} {base : Heap}
theorem Zko {us : List Us} {ms : List Mk3} {R : List Rw} : ∀ k : Nat, (ZjB (ZlG us ms) R k).length <= us.length * k
 | 0 => ZbK _
 | k + 1 => by
  have ih := Zko (us := us) (ms := ms) (R := R) k
  rw [ZjB, ZaC, Nat.mul_succ]
  have : (match R[k]? with
   | some r => ZlG us ms r k
   | none => []).length <= us.length := by
   cases R[k]? with
   | none => exact ZbL _
   | some r =>
    show (ZlG us ms r k).length <= us.length
    unfold ZlG
    cases r.w with
    | true => exact ZbL _
    | false => exact Zo5
  exact Nat.add_le_add ih this
theorem two0 {H0 : Hp} {d e : Addr} {N M : Int} (hd : H0 d = some (.dK [])) (he : H0 e = some (.dK [])) : Two H0 H0 d e N M 0 [] [] (fun _ => []) (fun _ => []) :=
 ⟨⟨[], hd, ZbL _, fun _ _ => rfl, fun _ _ h => (by cases h), fun _ _ _ h => (by cases h)⟩, ⟨[], he, ZbL _, fun _ _ => rfl, fun _ _ h => (by cases h), fun _ _ _ h => (by cases h)⟩, fun _ h => absurd h ZaV, fun _ h => absurd h ZaV, fun _ h => absurd h ZaV,
  fun _ => ⟨ZbL _, fun _ h => absurd h ZaV⟩, fun _ => ⟨ZbL _, fun _ h => absurd h ZaV⟩⟩
def ZlH (c : Cs) (L : Addr) : Sp := fun vs H Q _ => ∃ (b bx p0 p1 p2 p3 : Addr) (N : Int) (mv uv fv : List V) (ms : List Mk3) (us : List Us) (fs : List (Int × Int)), vs = [.ref b] /\ H b = some (.ins c.B bx (fB p0 p1 p2 p3 (.int 0))) /\ H p1 = some (.lst mv) /\ Zgp (M3 c H) mv ms /\ H p2 = some (.lst uv) /\ Zgp (UsAt c H) uv us /\ H p3 = some (.lst fv) /\ Ims H fv (fs.map flD) /\ Dat N ms us fs /\
 ∀ (l dl r bd : Addr) (H' : Hp) (rv bv : List V) (R : List Rw), ZdN H H' -> H' l = some (.ins L dl (fL r bd)) -> H' r = some (.lst rv) -> Ims H' rv (R.map Rw.d) -> H' bd = some (.lst bv) -> Ims H' bv ((ZjB (ZlG us ms) R R.length).map flD) -> (∀ ρ ∈ R, ρ.ok N ms.length) -> R.length <= 8192 -> Q (.ref l) H'
theorem ZlI (T : Txt K mg) : Zfi P w K mg base CX0 5 T.a_settled T.fd_settled ["board"] (ZlH (cs T) T.a_Log) := by
 have G_Settling___init__ := Zgr (P := P) (w := w) (base := base) T
 have G_Settling_put := Zfk (P := P) (w := w) (base := base) T
 have G_Settling_work := Zhl (P := P) (w := w) (base := base) T
 have G_Log___init__ := Zgd (P := P) (w := w) (base := base) T
 refine T.F_settled.ok Zfp (fun vs H Q E h => ?_) (fun cdv A outer s H vs Q E hr h => ?_)
 ·obtain ⟨b, bx, p0, p1, p2, p3, N, mv, uv, fv, ms, us, fs, rfl, _⟩ := h
  rfl
 obtain ⟨b, bx, p0, p1, p2, p3, N, mv, uv, fv, ms, us, fs, rfl, hb, h1, hM, h2, hU, h3, hF, dat, q⟩ := h
 refine ⟨_, (Zdw (Zd1 (i := 1) Zfp.nd rfl (.inl rfl) (ZfR T.mk_Settling G_Settling___init__ (hr.mono (by decide)) rfl T.m_Settling T.b_Settling___init__ .nil ZdR (Zds (cv 0) Zdu)))
  (Zdw (Ze3 PassesOwn.never rfl (Zen (ZdI T.cl_Board T.n_Board_flows (cv 0))) (Zeb (i := 2) Zfp.nd rfl (.inl rfl))
   (ZdB (ZdT (Zef (ZeD (PE.mono (cv 1)) T.cl_Settling T.me_Settling_put G_Settling_put (hr.mono (by decide)) T.b_Settling_put .nil ZdR (Zds ZdZ (Zds (ZdF ZdG (cv 2) Zdv (fun _ _ => rfl)) (Zds (ZdF ZdG (cv 2) Zdv (fun _ _ => rfl)) (Zds Zgs Zdu)))))))))
  (Zdw (Ze3 PassesOwn.never rfl (Zml rfl T.z_enumerate (Zds (ZdI T.cl_Board T.n_Board_makes (cv 0)) Zdu)) (ZlS rfl (Zgk (Zeb (i := 3) Zfp.nd rfl (.inl rfl)) (Zgk (Zeb (i := 4) Zfp.nd rfl (.inl rfl)) Zj6)))
   (ZdB (ZdT (Zef (ZeD (PE.mono (cv 1)) T.cl_Settling T.me_Settling_put G_Settling_put (hr.mono (by decide)) T.b_Settling_put .nil ZdR (Zds ZdZ (Zds (cv 3) (Zds (ZdI T.cl_Make T.n_Make_at (cv 4)) (Zds Zgs Zdu)))))))))
  (Zdw (Zd1 (i := 5) Zfp.nd rfl (.inl rfl) Zdv)
  (Zdw (Znn PassesOwn.never (ZdQ Zo3 (cv 5) (Zd0 Zfh rfl T.z_len Zhx (Zds (ZdI T.cl_Settling T.n_Settling_rows (cv 1)) Zdu)) (Zd3 _))
   (Zdw (ZdT (Zef (ZeD (PE.mono (cv 1)) T.cl_Settling T.me_Settling_work G_Settling_work (hr.mono (by decide)) T.b_Settling_work .nil ZdR (Zds (cv 5) Zdu))))
   (ZdB (ZpS (i := 5) Zfp.nd rfl (.inl rfl) Zdv ZpT))))
  (ZdB (ZdO (ZfR T.mk_Log G_Log___init__ (hr.mono (by decide)) rfl T.m_Log T.b_Log___init__ .nil ZdR (Zds (ZdI T.cl_Settling T.n_Settling_rows (cv 1)) (Zds (ZdI T.cl_Settling T.n_Settling_bads (cv 1)) Zdu)))))))))), ?_⟩
 have sl : sizeLine = 16777216 := sizeLine_eq
 have hM64 : (ms.length : Int) <= 64 := by have := dat.lm; omega
 refine fun s dx hs hdx _ => ?_
 have S1 : ZdN H (upd (upd H dx (.own s)) s (.ins T.a_Settling dx [])) := Zey hs hdx
 have es : (upd (upd H dx (.own s)) s (.ins T.a_Settling dx [])) s = some (.ins T.a_Settling dx []) := Zdt
 have fresh : ∀ a, (upd (upd H dx (.own s)) s (.ins T.a_Settling dx [])) a = none -> H a = none := fun a e => by
  cases z : H a with
  | none => rfl
  | some o => rw [S1 _ _ z] at e; cases e
 generalize upd (upd H dx (.own s)) s (.ins T.a_Settling dx []) = H1 at S1 es fresh ⊢
 refine ⟨s, dx, b, bx, p0, p1, p2, p3, _, uv, us, rfl, es, S1 _ _ hb, S1 _ _ h2, hU.imp fun _ _ h => h.mono (ZdN.fk S1), dat.lu, fun ua r bd kn g h Lu H0 k hS D er ebd ekn eg eh nr nbd nkn ng nh nL rb gh uag uah => ⟨rfl, ?_⟩⟩
 have sN : ∀ {a : Addr} {o : HO}, H a = some o -> a ≠ s := fun e z => by rw [z, hs] at e; cases e
 have keepH : ∀ a o, H a = some o -> H0 a = some o := fun a o e => k _ _ (S1 _ _ e) (sN e)
 have pn : ∀ {a p : Addr} {o : HO}, H a = some o -> H1 p = none -> a ≠ p := fun e z => ZdD e (fresh _ z)
 have Z : ZhN (cs T) T.a_Settling H0 ⟨s, dx, b, bx, p0, p1, p2, p3, ua, r, bd, kn, g, h, Lu⟩ ms us :=
  ⟨hS, keepH _ _ hb, ⟨mv, keepH _ _ h1, hM.imp fun _ _ h => (show M3 _ H1 _ _ from Zic.mono (ZdN.fk S1) h).to es k⟩, ⟨uv, keepH _ _ h2, hU.imp fun _ _ h => (h.mono (ZdN.fk S1)).to es k⟩, D, ⟨_, er⟩, ⟨_, ebd⟩, ⟨_, ekn⟩, ⟨_, eg⟩, ⟨_, eh⟩, rb, gh, uag, uah, pn h1 nr, pn h1 nbd, pn h2 nr, pn h2 nbd, nL⟩
 have T0 : Stt H0 H0 ⟨s, dx, b, bx, p0, p1, p2, p3, ua, r, bd, kn, g, h, Lu⟩ N ms.length [] [] 0 :=
  ⟨fun a o e _ _ _ _ _ => e, ⟨[], er, .nil⟩, ⟨[], ebd, .nil⟩, ekn, ⟨_, _, _, _, two0 eg eh⟩, ZaI, fun _ h => absurd h ZaV⟩
 have e3 := keepH _ _ h3
 have n31 := pn h3 nr
 have n32 := pn h3 nbd
 have hF0 : Ims H0 fv (fs.map flD) := hF.mono fun a xs e => keepH _ _ e
 generalize hx : (⟨s, dx, b, bx, p0, p1, p2, p3, ua, r, bd, kn, g, h, Lu⟩ : Sx) = x at Z T0
 have xs_ : x.s = s := by rw [<- hx]
 have xb : x.b = b := by rw [<- hx]
 have xr : x.r = r := by rw [<- hx]
 have xbd : x.bd = bd := by rw [<- hx]
 have hbo : ∀ {H2 : Hp} {R : List Rw} {B : List (Int × Int)} {k : Nat}, Stt H0 H2 x N ms.length R B k -> H2 b = some (.ins (cs T).B bx (fB p0 p1 p2 p3 (.int 0))) := fun t => by
  have := Z.hb t
  rw [<- hx] at this
  exact this
 have hso : ∀ {H2 : Hp} {R : List Rw} {B : List (Int × Int)} {k : Nat}, Stt H0 H2 x N ms.length R B k -> H2 s = some (.ins T.a_Settling dx (fS b ua r bd kn g h)) := fun t => by
  have := Z.hs t
  rw [<- hx] at this
  exact this
 have fl : ∀ {H2 : Hp} {R : List Rw} {B : List (Int × Int)} {k : Nat}, Stt H0 H2 x N ms.length R B k -> H2 p3 = some (.lst fv) := fun t => Z.lst t e3 (by rw [xr]; exact n31) (by rw [xbd]; exact n32)
 have tkk : ∀ {H2 : Hp} {R : List Rw} {B : List (Int × Int)} {k : Nat}, Stt H0 H2 x N ms.length R B k -> TK H0 H2 := fun t a xs e => Z.fix t e (fun _ h => nomatch h) (fun _ h => nomatch h) (fun _ h => nomatch h)
 refine ⟨_, ⟨_, _, hbo T0, Zk3 _ _ _ _ _⟩, p3, rfl, ⟨_, SqL.of (fl T0)⟩, Zeo (xs := fv) (fun i σ H2 => ∃ (o2 o3 o4 o5 : Option V) (R : List Rw), σ = [some (.ref b), some (.ref s), o2, o3, o4, o5] /\ Stt H0 H2 x N ms.length R [] 0)
  ⟨none, none, none, none, [], rfl, T0⟩ (fun i σ H2 _ ⟨_, _, _, _, _, _, t⟩ => SqL.of (fl t)) ?_ ?_⟩
 ·rintro i v σ H2 hv ⟨o2, o3, o4, o5, R, rfl, t⟩
  obtain ⟨p, tt, hp, rfl, et⟩ := Zii hF0 hv
  have et2 := tkk t _ _ et
  have hpm := dat.fo p (ZaB hp)
  refine ⟨⟨_, _, hso t, Zh0 "put" _ _ _ _ _ _ _ (by decide +kernel)⟩, _, et2, _, et2, H0, x, N, ms.length, ms, us, R, [], 0, ⟨true, p.1, p.2, none⟩, .non, by rw [xs_]; rfl, Z, t, dat.n1, hM64, .flat rfl, ⟨hpm.1.1, hpm.1.2, hpm.2.1, hpm.2.2⟩, fun H' R' _ t' _ => ⟨_, _, _, _, R', rfl, t'⟩⟩
 ·rintro σ H2 ⟨o2, o3, o4, o5, R, rfl, t⟩
  have ml : ∀ {H2 : Hp} {R : List Rw} {B : List (Int × Int)} {k : Nat}, Stt H0 H2 x N ms.length R B k -> H2 p1 = some (.lst mv) := fun t => Z.lst t (keepH _ _ h1) (by rw [xr]; exact pn h1 nr) (by rw [xbd]; exact pn h1 nbd)
  refine ⟨_, ⟨_, _, hbo t, ZfX _ _ _ _ _⟩, p1, rfl, ⟨_, SqL.of (ml t)⟩, Zk4 (xs := mv) (fun i σ H2 => ∃ (o2 o3 o4 o5 : Option V) (R : List Rw), σ = [some (.ref b), some (.ref s), o2, o3, o4, o5] /\ Stt H0 H2 x N ms.length R [] 0)
   ⟨_, _, _, _, R, rfl, t⟩ (fun i σ H2 _ ⟨_, _, _, _, _, _, t⟩ => SqL.of (ml t)) ?_ ?_⟩
  ·rintro i v σ H2 tt hv ⟨o2, o3, o4, o5, R, rfl, t⟩ htt
   obtain ⟨mv0, em0, hM0⟩ := Z.m
   have eqv : mv0 = mv := by
    have : H0 x.p1 = some (.lst mv) := by rw [<- hx]; exact keepH _ _ h1
    rw [em0] at this
    cases this
    rfl
   subst eqv
   obtain ⟨mk, hmk, hm3⟩ := hM0.get hv
   have hil := (Zaj.mp hmk).1
   have hmo := dat.mo mk (ZaB hmk)
   have sT := Zdz htt (.tup [.int (i : Int), v])
   refine ⟨tt, _, rfl, SqT.of Zdt, rfl, _, _, rfl, _, _, rfl, rfl, ?_⟩
   have t1 := t.same sT
   generalize upd H2 tt (.tup [.int (i : Int), v]) = H3 at t1 ⊢
   obtain ⟨xm, dxm, f, rfl, exm, _⟩ := Zic.mono (Z.fk t1) hm3
   refine ⟨⟨_, _, hso t1, Zh0 "put" _ _ _ _ _ _ _ (by decide +kernel)⟩, _, ⟨_, _, exm, Zrx _ _ _ _⟩, H0, x, N, ms.length, ms, us, R, [], 0, ⟨false, (i : Int), mk.a, none⟩, .non, by rw [xs_]; rfl, Z, t1, dat.n1, hM64, .flat rfl, ⟨by show (0 : Int) <= (i : Int); omega, by show (i : Int) < (ms.length : Int); omega, hmo.2.2.1, hmo.2.2.2⟩, fun H' R' _ t' _ => ⟨_, _, _, _, R', rfl, t'⟩⟩
  ·rintro σ H2 ⟨o2, o3, o4, o5, R, rfl, t⟩
   refine ⟨fun m σ H2 => ∃ (o2 o3 o4 : Option V) (k : Nat) (R : List Rw), m = 9000 - k /\ σ = [some (.ref b), some (.ref s), o2, o3, o4, some (.int (k : Int))] /\ k <= R.length /\ Stt H0 H2 x N ms.length R (ZjB (ZlG us ms) R k) k, ⟨_, _, _, _, 0, R, rfl, rfl, ZbL _, t⟩, ?_⟩
   rintro m σ H2 ⟨o2, o3, o4, k, R, rfl, rfl, hk, t⟩
   have hlen := t.len dat.n1 hM64
   obtain ⟨rv, hrv, hrl⟩ := t.r
   have hrn : rv.length = R.length := by rw [hrl.length, Zar]
   refine ⟨_, ⟨_, _, hso t, ZiV _ _ _ _ _ _ _⟩, r, _, rfl, .inl (SqL.of (by rw [<- xr]; exact hrv)), ?_⟩
   by_cases hkl : k < R.length
   ·dsimp only [cI0, onB]
    rw [decide_eq_true (show (k : Int) < (rv.length : Int) by omega)]
    refine ZgJ ⟨fun σ' H' => ∃ m', m' < 9000 - k /\ ∃ (o2 o3 o4 : Option V) (k : Nat) (R : List Rw), m' = 9000 - k /\ σ' = [some (.ref b), some (.ref s), o2, o3, o4, some (.int (k : Int))] /\ k <= R.length /\ Stt H0 H' x N ms.length R (ZjB (ZlG us ms) R k) k, fun _ _ h => h, ?_⟩
    obtain ⟨ρ, hρ⟩ : ∃ ρ, R[k]? = some ρ := ⟨_, ZaT hkl⟩
    have dl := Zko (us := us) (ms := ms) (R := R) k
    have := dat.lu
    refine ⟨⟨_, _, hso t, Zh0 "work" _ _ _ _ _ _ _ (by decide +kernel)⟩, H0, x, N, ms, us, fs, R, _, k, ρ, by rw [xs_]; rfl, Z, t, dat, hρ, ZbH dl (Nat.mul_le_mul_right k this), fun H' more t' => ?_⟩
    refine ⟨_, rfl, _, _, rfl, rfl, 9000 - (k + 1), by omega, _, _, _, k + 1, R ++ more, rfl, rfl, by rw [ZaC]; omega, ?_⟩
    rw [Zmp (R := R) (S := more) (n := k + 1) hkl, Zo6 hρ]
    exact t'
   ·have ek : k = R.length := by omega
    subst ek
    obtain ⟨bv, hbv, hbl⟩ := t.bd
    dsimp only [cI0, onB]
    rw [decide_eq_false (show ¬ ((R.length : Nat) : Int) < (rv.length : Int) by omega)]
    refine ZfA ⟨_, ⟨_, _, hso t, ZiV _ _ _ _ _ _ _⟩, _, ⟨_, _, hso t, Zm2 _ _ _ _ _ _ _⟩, fun l dl hl hdl _ => ?_⟩
    refine ⟨l, dl, r, bd, rfl, Zdt, rfl, ?_⟩
    rw [Zes]
    have S9 : ZdN H2 (upd (upd H2 dl (.own l)) l (.ins T.a_Log dl (fL r bd))) := Zey hl hdl
    refine q l dl r bd _ rv bv R (fun a o e => S9 _ _ (t.keep a o (keepH _ _ e) (by rw [xr]; exact pn e nr) (by rw [xbd]; exact pn e nbd) ?_ ?_ ?_)) Zdt (by have := S9 _ _ hrv; rw [xr] at this; exact this) (hrl.mono (ZdN.tk S9)) (by have := S9 _ _ hbv; rw [xbd] at this; exact this) (hbl.mono (ZdN.tk S9)) t.ok hlen
    ·rw [<- hx]; exact pn e nkn
    ·rw [<- hx]; exact pn e ng
    ·rw [<- hx]; exact pn e nh
end
section
variable {P : Program} {w : World} {K : PySem.W.Frag} {mg : Str -> Option Value} {base : Heap}
noncomputable def ZrF : List Int := [48271, 69621, 16807, 39373, 40692, 52774, 12211, 3791, 40014]
noncomputable def ZrG : List Int := [10007, 20011, 30011, 40009, 50021, 60013, 70001, 80021, 90001]
theorem Zkp {l : List Int} {i : Int} (h0 : 0 <= i) (h1 : i < (l.length : Int)) : ∃ n, atI (l.map V.int) i = some (.int n) /\ n ∈ l := by
 obtain ⟨c, e, m⟩ := Zoe (l.map V.int) i h0 (by rw [Zar]; exact h1)
 obtain ⟨n, hn, rfl⟩ := ZaW.mp m
 exact ⟨n, e, hn⟩
theorem Zpu : ∀ n ∈ ZrF, -(2 ^ 64) < n /\ n < 2 ^ 64 := by decide
theorem Zpv : ∀ n ∈ ZrG, 0 < n := by decide
def Zgi : Sp := fun vs H Q _ => ∃ c t m : Int, vs = [.int c, .int t, .int m] /\ 0 <= t /\ t < 9 /\ 0 < m /\ ∀ n H', ZdN H H' -> 0 <= n -> n < m -> Q (.int n) H'
theorem ZfJ (T : Txt K mg) : Zfi P w K mg base CX0 1 T.a_pick T.fd_pick ["_law_cell", "_law_turn", "_law_many"] Zgi := by
 refine T.F_pick.ok Zga (fun vs H Q E h => ?_) (fun cdv A outer s H vs Q E hr h => ?_)
 ·obtain ⟨c, t, m, rfl, _⟩ := h
  rfl
 obtain ⟨c, t, m, rfl, t0, t1, hm, q⟩ := h
 refine ⟨_, (Zdw (Zd1 (i := 3) Zga.nd rfl (.inl rfl) (Zem (Zkd (xs := [48271, 69621, 16807, 39373, 40692, 52774, 12211, 3791, 40014]) (by decide +kernel))))
  (Zdw (Zd1 (i := 4) Zga.nd rfl (.inl rfl) (Zem (Zkd (xs := [10007, 20011, 30011, 40009, 50021, 60013, 70001, 80021, 90001]) (by decide +kernel))))
  (ZdB (ZdO (Zep ZfH (Zep ZfH (Zep Zjz (Zep ZgP (Zep ZfH (cv 0) (Zep Zog Zdv Zdv)) Zdv) (ZdF ZdK (cv 3) (cv 1) (fun _ _ => rfl))) (ZdF ZdK (cv 4) (cv 1) (fun _ _ => rfl))) (cv 2)))))), ?_⟩
 obtain ⟨f, ef, mf⟩ := Zkp (l := ZrF) t0 t1
 obtain ⟨p, ep, mp⟩ := Zkp (l := ZrG) t0 t1
 refine ⟨(by show 9 <= sizeLine; decide), fun a ha => ⟨(by show 9 <= sizeLine; decide), fun b hb => ?_⟩⟩
 have S1 := Zdz ha (.lst (ZrF.map V.int))
 have S2 := Zdz hb (.lst (ZrG.map V.int))
 refine ⟨⟨by decide, by decide, by decide⟩, (by show (0 : Int) < 10 ^ (40 : Int).toNat; decide +kernel), _, S2 _ _ Zdt, ZdC ef ⟨.inr (Zpu f mf), _, Zdt, ZdC ep ⟨Zpv p mp, hm, ?_⟩⟩⟩
 exact q _ _ (S1.trans S2) (Zdi _ (Int.ne_of_gt hm)) (Zdj _ hm)
theorem Zpw {X : Cx} : OpR X (binaryOp .Mult) (fun x y H Q => ∃ (i : Str) (n : Int), x = .str i /\ y = .int n /\ 0 <= n /\ n < 100 /\ 1 <= i.length /\ i.length <= 1000 /\ ∀ z : Str, z.length = n.toNat * i.length -> Q (.str z) H) := by
 intro pins s σ H x y v u Q I rx ry h
 obtain ⟨i, n, rfl, rfl, h0, h9, hl, hm, q⟩ := h
 by_cases n2 : 2 <= n
 ·exact Zlt pins s σ H _ _ v u Q I rx ry ⟨i, n, rfl, rfl, n2, h9, hl, hm, q _ (Zmi i _)⟩
 obtain ⟨t, rfl⟩ := rx
 obtain ⟨t', rfl⟩ := ry
 by_cases n1 : n = 1
 ·subst n1
  refine PySem.P.mul_str (by decide) (fun _ h => by simp at h) (fun _ h => by simp at h) ?_
  rw [if_neg (by decide), if_pos (by simp)]
  exact ⟨.str i, H, I, ⟨_, rfl⟩, q i (by simp)⟩
 ·obtain rfl : n = 0 := by omega
  exact PySem.P.mul_str_none (by decide) (by decide) ⟨.str Str.empty, H, I.tok _, ⟨_, rfl⟩, q _ (by show (0 : Nat) = 0 * i.length; omega)⟩
noncomputable def sg4 (k : Nat) : Nat := ("abcd" : Str).cps.toList.getD k 0
noncomputable def w4 (A B : Str) (k : Nat) : Str := A ++ ⟨#[sg4 k]⟩ ++ B
theorem ZnX (a b : Str) : (a ++ b).cps.toList = a.cps.toList ++ b.cps.toList := Zc8
theorem ZhO (c : Nat) : (⟨#[c]⟩ : Str).length = 1 := rfl
theorem ZqH {f : Nat -> Str} (h : ∀ a, a < 4 -> ∀ b, b < 4 -> a ≠ b -> f a ≠ f b) : ((Zaa 4).map f).Nodup := by
 rw [List.Nodup, Zbr]
 refine List.Pairwise.imp_of_mem (fun {a b} ha hb hlt => ?_) Zbu
 exact h a (Zac.mp ha) b (Zac.mp hb) (ZbG hlt)
theorem ZqI : ∀ a, a < 4 -> ∀ b, b < 4 -> a ≠ b -> sg4 a ≠ sg4 b := by decide +kernel
theorem ZnY (A B : Str) : ((Zaa 4).map (w4 A B)).Nodup := ZqH fun a ha b hb hn e => by
 have h := congrArg (fun z : Str => z.cps.toList) e
 simp only [w4, ZnX] at h
 have h2 := List.append_cancel_left (List.append_cancel_right h)
 injection h2 with h3 _
 exact ZqI a ha b hb hn h3
def Wd (H : Hp) (l : Addr) : Prop := ∃ ws : List Str, H l = some (.lst (ws.map V.str)) /\ ws.length = 4 /\ ws.Nodup
theorem Wd.same {H H' : Hp} {l : Addr} (h : Wd H l) (s : ZdN H H') : Wd H' l := by
 obtain ⟨ws, e, z⟩ := h
 exact ⟨ws, s _ _ e, z⟩
theorem ZrH {H : Hp} {l : Addr} (h : Wd H l) : ∃ ws : List Str, H l = some (.lst (ws.map V.str)) /\ ws.Nodup /\ ∀ i : Int, 0 <= i -> i < 4 -> ∃ x, atI (ws.map V.str) i = some (.str x) /\ ws[i.toNat]? = some x := by
 obtain ⟨ws, e, hl, hn⟩ := h
 refine ⟨ws, e, hn, fun i h0 h1 => ?_⟩
 have hi : i.toNat < ws.length := by omega
 refine ⟨ws[i.toNat], ?_, ZaT hi⟩
 have z : atI (ws.map V.str) ((i.toNat : Nat) : Int) = some (.str ws[i.toNat]) := Zdy (by rw [ZaA, ZaT hi]; rfl)
 rw [show ((i.toNat : Nat) : Int) = i by omega] at z
 exact z
theorem Zm5 {a : Nat} {ws : List Str} (h : ∀ (j : Nat) (y : Str), ws[j]? = some y -> y.length = a + j) : ws.Nodup := by
 rw [List.Nodup, Zbn]
 intro i j hi hj hlt e
 have h1 := h i _ (ZaT hi)
 have h2 := h j _ (ZaT hj)
 rw [e] at h1
 omega
theorem ZqJ {k ch : Nat} (h : ("abcd" : Str).cps[k]? = some ch) : sg4 k = ch := by
 rw [sg4, ZaY, Zc6, h]
 rfl
def ZiW : Sp := fun vs H Q _ => ∃ c : Int, vs = [.int c] /\ ∀ l H', ZdN H H' -> H l = none -> Wd H' l -> Q (.ref l) H'
theorem ZiX (T : Txt K mg) : Zfi P w K mg base CX0 2 T.a_words T.fd_words ["_law_cell"] ZiW := by
 refine T.F_words.ok Ze1 (fun vs H Q E h => ?_) (fun cdv A outer s H vs Q E hr h => ?_)
 ·obtain ⟨c, rfl, _⟩ := h
  rfl
 obtain ⟨c0, rfl, q⟩ := h
 refine ⟨_, (Zdw (Zd1 (i := 1) Ze1.nd rfl (.inl rfl) (Zep ZfH (cv 0) (Zep Zog Zdv Zdv)))
  (Zdw (Zd1 (i := 2) Ze1.nd rfl (.inr rfl) ZdZ)
  (Zdw (Ze3 PassesOwn.never rfl (Zf4 rfl T.z_range (Zds (Zep ZfH (cv 1) Zdv) Zdu)) (Zeb (i := 3) Ze1.nd rfl (.inl rfl))
   (ZdB (Zd1 (i := 2) Ze1.nd rfl (.inr rfl) (Zep Ziz (cv 2) (ZdF Zql ZdZ (Zep ZfH (Zep Ziy (cv 1) (Zep ZgP Zdv (Zep Zjz (Zep Zjz Zdv (cv 3)) (cv 3)))) Zdv) (fun _ _ => rfl))))))
  (Zdw (Zd1 (i := 4) Ze1.nd rfl (.inr rfl) (Zep ZfH (Zep Ziy (cv 1) Zdv) (Zep ZgP (Zd0 Zju rfl T.z_len Zhx (Zds (cv 2) Zdu)) Zdv)))
  (Zdw (Zez (ZdQ Zft (Zep ZfH (Zep Ziy (cv 1) Zdv) Zdv) Zdv (Zd3 _))
   (ZdB (ZdO (Zjw rfl (Zod (x := "_law_sign") ["_law_stem", "_law_at"] [("_law_stem", 2, s.heap.objs.size + 1), ("_law_at", 4, s.heap.objs.size + 2)] rfl rfl (by decide +kernel) (by decide +kernel) rfl (by decide +kernel) rfl rfl (by intro p hp; simp only [Zag, ZaV, or_false] at hp; rcases hp with rfl | rfl <;> exact ⟨rfl, rfl, rfl, rfl⟩)) (Zqb ZdZ) (fun _ _ _ _ _ => ZfS) (fun _ _ _ _ _ => (Zep Ziz (Zep Ziz (Zgl Zn9 (cv 1) Zir (Zf5 (cv 2))) (cv 0)) (Zgl Zn9 (cv 1) (Zf5 (cv 2)) Zir))))))
   ZdS)
  (ZdB (ZdO (Zjw rfl (Zod (x := "_law_k") ["_law_stem"] [("_law_stem", 2, s.heap.objs.size + 1)] rfl rfl (by decide +kernel) (by decide +kernel) rfl (by decide +kernel) rfl rfl (by intro p hp; simp only [Zag, ZaV, or_false] at hp; rcases hp with rfl <;> exact ⟨rfl, rfl, rfl, rfl⟩)) (Zf4 rfl T.z_range (Zds Zdv Zdu)) (fun _ _ _ _ _ => ZfS) (fun _ _ _ _ _ => (Zep Ziz (cv 1) (Zep Zpw ZdZ (cv 0)))))))))))), ?_⟩
 have sl : sizeLine = 16777216 := sizeLine_eq
 refine ⟨⟨by decide, by decide, by decide⟩, (by show (0 : Int) < 10 ^ (30 : Int).toNat; decide +kernel), ?_⟩
 dsimp only
 generalize c0 % 10 ^ (30 : Int).toNat = c
 have s0 := Zdi c (show (8 : Int) ≠ 0 by decide)
 have s1 := Zdj c (show (0 : Int) < 8 by decide)
 refine ⟨(by show (0 : Int) < 8; decide), c % 8, rfl, by omega, by omega, Zji (fun i σ H2 => ∃ (x : Str) (o : Option V), σ = [some (.int c0), some (.int c), some (.str x), o, none] /\ H2 = H /\ 1 <= x.length /\ x.length <= 1 + i)
  ⟨"q", none, rfl, rfl, (by decide +kernel), (by decide +kernel)⟩ ?_ ?_⟩
 ·rintro i σ H2 hi ⟨x, o, rfl, rfl, h1, h2⟩
  have k0 : (0 : Int) <= 0 + (i : Int) := by omega
  have k1 : (0 : Int) + (i : Int) <= 7 := by omega
  have kk0 : 0 <= 3 * (0 + (i : Int)) * (0 + (i : Int)) := Int.mul_nonneg (by omega) k0
  have kk1 : 3 * (0 + (i : Int)) * (0 + (i : Int)) <= 21 * 7 := Int.mul_le_mul (by omega) k1 k0 (by decide)
  obtain ⟨ch, e1, _⟩ := Zoe ("q7" : Str).cps.toList (c / (8 + 3 * (0 + (i : Int)) * (0 + (i : Int))) % 2) (Zdi _ (by decide)) (by rw [show ("q7" : Str).cps.toList.length = 2 by decide +kernel]; exact Zdj _ (by decide))
  refine ⟨.inl ⟨by decide, by decide⟩, .inl ⟨by omega, by omega⟩, ⟨by omega, by omega⟩, (by show (0 : Int) < 2; decide), sz (by decide +kernel), ZdC e1 ⟨by rw [ZhO]; omega, _, _, rfl, rfl, by rw [Str.length_append, ZhO]; omega, by rw [Str.length_append, ZhO]; omega⟩⟩
 ·rintro σ H2 ⟨x, o, rfl, rfl, h1, h2⟩
  have hx : x.length <= 100 := by omega
  refine ⟨⟨by decide, by decide⟩, x, rfl, by omega, (by show (0 : Int) < (x.length : Int) + 1; omega), ?_⟩
  dsimp only
  generalize c / 8 % ((x.length : Int) + 1) = at_
  have la := Txt.slice_le x none (some at_)
  have lb := Txt.slice_le x (some at_) none
  refine ⟨⟨by decide, by decide⟩, (by show (0 : Int) < 2; decide), ?_⟩
  dsimp only [tC, cEq, onB]
  refine ZqS (fun _ => ?_) (fun _ => ?_)
  ·have z4 : ("abcd" : Str).cps.size = 4 := by decide +kernel
   refine ⟨_, rfl, fun D hD => ?_⟩
   refine Zhd 4 (by omega) (fun xs _ => xs = ((Zaa xs.length).map (w4 (Txt.slice x none (some at_)) (Txt.slice x (some at_) none))).map V.str) (fun xs H1 H2 h _ => h) hD rfl (fun k H2 _ hk => (by show k < ("abcd" : Str).cps.size; rw [z4]; exact hk)) (fun H2 _ => (by show 4 = ("abcd" : Str).cps.size; rw [z4])) rfl ?_ ?_
   ·rintro k H3 v H4 xs Z S hk ⟨rfl, ch, hc, rfl⟩ hxs hl z
    refine ⟨_, rfl, _, rfl, by omega, by rw [ZhO]; omega, _, rfl, _, rfl, by omega, by rw [Str.length_append, ZhO]; omega, z _ _ (ZdN.refl _) ?_⟩
    rw [ZaC, ZaL, Za2, ZaO, ZaO, <- hxs, hl]
    show xs ++ _ = xs ++ [V.str (w4 _ _ k)]
    rw [w4, ZqJ hc]
   ·rintro H3 xs S hxs hl e
    rw [hl] at hxs
    exact q D H3 S hD ⟨_, by rw [e, hxs], by rw [Zar, Zbs], ZnY _ _⟩
  ·refine ⟨4, rfl, by decide, by decide, fun D hD => ?_⟩
   refine Zhd 4 (by omega) (fun xs _ => ∃ ws : List Str, xs = ws.map V.str /\ ∀ (j : Nat) (y : Str), ws[j]? = some y -> y.length = x.length + j) (fun xs H1 H2 h _ => h) hD rfl (fun k H2 _ hk => hk) (fun H2 _ => ZbK _) ⟨[], rfl, fun j y h => by simp at h⟩ ?_ ?_
   ·rintro k H3 v H4 xs Z S hk ⟨rfl, rfl⟩ ⟨ws, hws, hj⟩ hl z
    have hwl : ws.length = k := by rw [hws, Zar] at hl; exact hl
    have l7 : ("7" : Str).length = 1 := by decide +kernel
    refine ⟨_, _, rfl, rfl, by omega, by omega, by rw [l7]; decide, by rw [l7]; decide, fun y hy => ⟨?_, z _ _ (ZdN.refl _) ⟨ws ++ [x ++ y], by rw [hws, ZaO]; rfl, fun j y' h => ?_⟩⟩⟩
    ·rw [l7] at hy; omega
    ·by_cases hjl : j < ws.length
     ·rw [Zaz hjl] at h
      exact hj j y' h
     ·have : j = ws.length := by
       have := (Zaj.mp h).1
       rw [ZaC, ZaL] at this
       omega
      subst this
      rw [List.getElem?_concat_length] at h
      cases h
      rw [Str.length_append, hy, l7]
      omega
   ·rintro H3 xs S ⟨ws, hws, hj⟩ hl e
    exact q D H3 S hD ⟨ws, by rw [e, hws], by rw [hws, Zar] at hl; exact hl, Zm5 hj⟩
end
section
variable {i : Nat} {s w : Str} {t u : TS.Internal} {D : Zj5} {σ : St} {H : Hp}
theorem ZqK (hv : σ[i]? = some (some (.str s))) (h : s ≠ w) (q : u D σ H) : ZlK (cT (tOp (cEq false) (cV i) (tC (.str w)))) t u D σ H := by
 show onV σ[i]? _
 rw [hv]
 show if (false ^^ decide (s = w)) = true then t D σ H else u D σ H
 rw [decide_eq_false h]
 exact q
theorem Zpx (hv : σ[i]? = some (some (.str s))) (h : s = w) (q : t D σ H) : ZlK (cT (tOp (cEq false) (cV i) (tC (.str w)))) t u D σ H := by
 show onV σ[i]? _
 rw [hv]
 show if (false ^^ decide (s = w)) = true then t D σ H else u D σ H
 rw [decide_eq_true h]
 exact q
theorem ZqL {a : Addr} {r : List V} (hv : σ[i]? = some (some (.ref a))) (ha : H a = some (.tup (.str s :: r))) (h : s ≠ w) (q : u D σ H) : ZlK (cT (tOp (cEq false) (tOp ZpI (cV i) (tC (.int 0))) (tC (.str w)))) t u D σ H := by
 show onV σ[i]? _
 rw [hv]
 refine ⟨_, ha, ZdC (Zdy (j := 0) rfl) ?_⟩
 show if (false ^^ decide (s = w)) = true then t D σ H else u D σ H
 rw [decide_eq_false h]
 exact q
theorem Zpy {a : Addr} {r : List V} (hv : σ[i]? = some (some (.ref a))) (ha : H a = some (.tup (.str s :: r))) (h : s = w) (q : t D σ H) : ZlK (cT (tOp (cEq false) (tOp ZpI (cV i) (tC (.int 0))) (tC (.str w)))) t u D σ H := by
 show onV σ[i]? _
 rw [hv]
 refine ⟨_, ha, ZdC (Zdy (j := 0) rfl) ?_⟩
 show if (false ^^ decide (s = w)) = true then t D σ H else u D σ H
 rw [decide_eq_true h]
 exact q
theorem ZeK {u' : TS.Internal} (hv : σ[i]? = some (some (.str s))) (h : s ≠ w) (q : u' D σ H) : ZkB (ZlK (cT (tOp (cEq false) (cV i) (tC (.str w)))) t Zf3) u' D σ H := ZqK (u := Zf3) (D := { D with nx := u' D }) hv h q
theorem Zha {u' : TS.Internal} (hv : σ[i]? = some (some (.str s))) (h : s = w) (q : t { D with nx := u' D } σ H) : ZkB (ZlK (cT (tOp (cEq false) (cV i) (tC (.str w)))) t Zf3) u' D σ H := Zpx (u := Zf3) (D := { D with nx := u' D }) hv h q
end
noncomputable def wat (ws : List Str) (i : Int) : Str := ws.getD (i % 4).toNat ""
theorem ZqM {ws : List Str} (n : ws.length = 4) (i : Int) : atI (ws.map V.str) (i % 4) = some (.str (wat ws i)) := by
 have h0 := Zdi i (show (4 : Int) ≠ 0 by decide)
 have h1 := Zdj i (show (0 : Int) < 4 by decide)
 obtain ⟨r, er⟩ : ∃ r : Nat, i % 4 = (r : Int) := ⟨_, (Int.toNat_of_nonneg h0).symm⟩
 rw [wat, er, Zdh]
 refine Zdy (j := r) ?_
 have hr : r < ws.length := by omega
 rw [ZaA, ZaY, ZaT hr]
 rfl
theorem ZqN {ws : List Str} (n : ws.length = 4) (nd : ws.Nodup) {i j : Int} (h : i % 4 ≠ j % 4) : wat ws i ≠ wat ws j := by
 have h0 := Zdi i (show (4 : Int) ≠ 0 by decide)
 have h1 := Zdj i (show (0 : Int) < 4 by decide)
 have g0 := Zdi j (show (4 : Int) ≠ 0 by decide)
 have g1 := Zdj j (show (0 : Int) < 4 by decide)
 have hi : (i % 4).toNat < ws.length := by omega
 have hj : (j % 4).toNat < ws.length := by omega
 rw [wat, wat, ZaY, ZaY, ZaT hi, ZaT hj]
 have key := Zbn.mp nd
 rcases Nat.lt_or_gt_of_ne (show (i % 4).toNat ≠ (j % 4).toNat by omega) with z | z
 ·exact key _ _ hi hj z
 ·exact (key _ _ hj hi z).symm
noncomputable def kys (ws : List Str) (a : Int) (n : Nat) : List Str := (Zaa n).map fun (k : Nat) => wat ws (a + (0 + (k : Int)))
theorem Zm6 {ws : List Str} (n : ws.length = 4) (nd : ws.Nodup) {a : Int} {m : Nat} (hm : m <= 4) : (kys ws a m).Nodup := by
 rw [kys, List.Nodup, Zbr]
 refine List.Pairwise.imp_of_mem (fun {x y} hx hy hlt => ZqN n nd ?_) Zbu
 have h1 := Zac.mp hx
 have h2 := Zac.mp hy
 omega
theorem ZnZ (ws : List Str) (a : Int) (n : Nat) : kys ws a (n + 1) = kys ws a n ++ [wat ws (a + (0 + (n : Int)))] := by
 rw [kys, kys, Za2, ZaO]
 rfl
section
variable {P : Program} {w : World} {K : PySem.W.Frag} {mg : Str -> Option Value} {base : Heap}
def Spt (H : Hp) (sp : Addr) (N : Int) : Prop := ∃ ns : List Int, H sp = some (.lst (ns.map V.int)) /\ ns.length = 3 /\ ∀ n ∈ ns, InR N n
theorem Spt.at {H : Hp} {sp : Addr} {N : Int} (h : Spt H sp N) : ∃ ns : List Int, H sp = some (.lst (ns.map V.int)) /\ ∀ k : Int, 0 <= k -> k < 3 -> ∃ n, atI (ns.map V.int) k = some (.int n) /\ InR N n := by
 obtain ⟨ns, e, hl, hr⟩ := h
 refine ⟨ns, e, fun k k0 k1 => ?_⟩
 obtain ⟨n, en, mn⟩ := Zkp (l := ns) k0 (by omega)
 exact ⟨n, en, hr n mn⟩
theorem Spt.same {H H' : Hp} {sp : Addr} {N : Int} (h : Spt H sp N) (s : ZdN H H') : Spt H' sp N := by
 obtain ⟨ns, e, z⟩ := h
 exact ⟨ns, s _ _ e, z⟩
def ZiY : Sp := fun vs H Q _ => ∃ (l sp : Addr) (c N : Int), vs = [.ref l, .int c, .ref sp] /\ Wd H l /\ Spt H sp N /\ ∀ v (ps : List (Str × Int)) H', ZdN H H' -> ps.length <= 10 -> Zo1 ps -> (∀ p ∈ ps, InR N p.2) -> Im H' v (prD ps) -> Q v H'
theorem ZgX (T : Txt K mg) : Zfi P w K mg base CX0 2 T.a_named T.fd_named ["_law_words_here", "_law_cell", "_law_spots"] ZiY := by
 have G_pick := ZfJ (P := P) (w := w) (base := base) T
 refine T.F_named.ok ZgT (fun vs H Q E h => ?_) (fun cdv A outer s H vs Q E hr h => ?_)
 ·obtain ⟨l, sp, c, N, rfl, _⟩ := h
  rfl
 obtain ⟨l, sp, c, N, rfl, hw, hsp, q⟩ := h
 obtain ⟨ws, ew, wn, wd⟩ := hw
 obtain ⟨ns, es, hat⟩ := hsp.at
 refine ⟨_, (Zdw (Zd1 (i := 3) ZgT.nd rfl (.inr rfl) (ZdM G_pick (hr.mono (by decide)) rfl T.m_pick T.k_pick T.b_pick .nil ZdR (Zds (cv 1) (Zds Zdv (Zds Zdv Zdu)))))
  (ZdB (ZdO (Zfj Ziu rfl T.z_tuple Zho (Zds (Zjw rfl (Zod (x := "_law_k") ["_law_words_here", "_law_spots", "_law_first"] [("_law_words_here", 0, s.heap.objs.size + 1), ("_law_spots", 2, s.heap.objs.size + 2), ("_law_first", 3, s.heap.objs.size + 3)] rfl rfl (by decide +kernel) (by decide +kernel) rfl (by decide +kernel) rfl rfl (by intro p hp; simp only [Zag, ZaV, or_false] at hp; rcases hp with rfl | rfl | rfl <;> exact ⟨rfl, rfl, rfl, rfl⟩)) (Zf4 rfl T.z_range (Zds (ZdM G_pick (hr.mono (by decide)) rfl T.m_pick T.k_pick T.b_pick .nil ZdR (Zds (cv 1) (Zds Zdv (Zds Zdv Zdu)))) Zdu)) (fun _ _ _ _ _ => ZfS) (fun _ _ _ _ _ => (Zel (Zds (ZdF ZdK (cv 1) (Zep ZfH (Zep ZgP (cv 3) (cv 0)) Zdv) (fun _ _ => rfl)) (Zds (ZdF ZdK (cv 2) (cv 0) (fun _ _ => rfl)) Zdu))))) Zdu))))), ?_⟩
 have sl : sizeLine = 16777216 := sizeLine_eq
 refine ⟨c, 6, 4, rfl, by decide, by decide, by decide, fun fi H1 S1 _ _ => ⟨c, 8, 4, rfl, by decide, by decide, by decide, fun r H2 S2 r0 r1 => ⟨r, rfl, by omega, by omega, fun D hD => ?_⟩⟩⟩
 have S12 := S1.trans S2
 refine Zhd r.toNat (by omega) (fun xs H2 => ∃ ps : List (Str × Int), ps.map Prod.fst = kys ws fi xs.length /\ (∀ p ∈ ps, InR N p.2) /\ Ims H2 xs (ps.map prL)) (fun xs H1 H2 ⟨ps, hn, hr, h⟩ k => ⟨ps, hn, hr, h.mono k⟩) hD rfl (fun k H2 _ hk => hk) (fun H2 _ => ZbK _) ⟨[], rfl, fun p h => absurd h ZaV, .nil⟩ ?_ ?_
 ·rintro k H3 v H4 xs Z S hk ⟨rfl, rfl⟩ ⟨ps, hpl, hpr, hp⟩ hl z
  obtain ⟨m, em, hm⟩ := hat (0 + (k : Int)) (by omega) (by omega)
  refine ⟨(by show (0 : Int) < 4; decide), _, S _ _ (S12 _ _ ew), ZdC (ZqM wn _) ⟨_, S _ _ (S12 _ _ es), ZdC em ⟨(by show 2 <= sizeLine; decide), fun t2 ht2 => ?_⟩⟩⟩
  refine z _ _ (Zdz ht2 _) ⟨ps ++ [(wat ws (fi + (0 + (k : Int))), m)], ?_, fun p hp => ?_, ?_⟩
  ·rw [ZaO, hpl, ZaC, hl]
   exact (ZnZ ws fi k).symm
  ·rcases Zah.mp hp with h | h
   ·exact hpr p h
   ·simp only [ZaS] at h
    rw [h]
    exact hm
  rw [ZaO]
  exact (hp.mono (ZdN.tk (Zdz ht2 _))).app (.cons (.tup Zdt (.cons (.flat rfl) (.cons (.flat rfl) .nil))) .nil)
 ·rintro H3 xs S ⟨ps, hpl, hpr, hp⟩ hl e
  have lp : ps.length = xs.length := by
   have := congrArg Zaw hpl
   rw [Zar, kys, Zar, Zbs] at this
   exact this
  have dp : Zo1 ps := by
   rw [Zo1, hpl]
   exact Zm6 wn wd (by omega)
  exact ⟨D, xs, rfl, .inl ⟨SqL.of e, fun t3 ht3 => q _ ps _ ((S12.trans S).trans (Zdz ht3 _)) (by omega) dp hpr (.tup Zdt (hp.mono (ZdN.tk (Zdz ht3 _))))⟩⟩
theorem Zk8 {K : PySem.W.Frag} {te : TE} {Q : VK} {τ : St} {H H1 : Hp} {p D : Addr} {N : Int} (hp : H1 p = some (.lst [V.int 1, V.int 2, V.int 3])) (hD : H1 D = none) (hτ : τ.set 0 none = τ) (S : ZdN H H1)
  (step : ∀ (k : Int) (H2 : Hp) (Z : VK), ZdN H1 H2 -> 1 <= k -> k <= 3 -> (∀ n H5, ZdN H2 H5 -> InR N n -> Z (.int n) H5) -> te (τ.set 0 (some (.int k))) H2 Z)
  (fin : ∀ H', ZdN H H' -> Spt H' D N -> Q (.ref D) H') : LcP (Itl K p) 0 Zkc te Q τ H1 D := by
 refine Zhd 3 (by decide) (fun xs _ => ∃ ns : List Int, xs = ns.map V.int /\ ∀ n ∈ ns, InR N n) (fun xs _ _ h _ => h) hD hτ (fun k H2 S hk => ZkL hp S hk) (fun H2 S => ZkM hp S) ⟨[], rfl, fun n h => absurd h ZaV⟩ ?_ ?_
 ·rintro k H2 v H3 xs Z S2 hk ⟨rfl, hv⟩ ⟨ns, hns, hr⟩ hl z
  have hv' := hv _ (SqL.of (S2 _ _ hp))
  obtain ⟨j, rfl, j1, j3⟩ : ∃ j : Int, v = .int j /\ 1 <= j /\ j <= 3 := by
   match k, hk, hv' with
   | 0, _, e => cases e; exact ⟨1, rfl, by decide, by decide⟩
   | 1, _, e => cases e; exact ⟨2, rfl, by decide, by decide⟩
   | 2, _, e => cases e; exact ⟨3, rfl, by decide, by decide⟩
  refine step j H3 Z S2 j1 j3 fun n H5 S5 hn => z _ _ S5 ⟨ns ++ [n], by rw [hns, ZaO]; rfl, fun m hm => ?_⟩
  rcases Zah.mp hm with h | h
  ·exact hr m h
  ·simp only [ZaS] at h
   rw [h]
   exact hn
 ·rintro H2 xs S2 ⟨ns, hns, hr⟩ hl e
  exact fin H2 (S.trans S2) ⟨ns, by rw [e, hns], by rw [hns, Zar] at hl; exact hl, hr⟩
theorem Zgn {Q : VK} {l : Addr} {c N : Int} {sp : Option V} {f : V} {m : Mf} {H H1 : Hp} (hN : 0 < N) (q : ∀ v (m : Mf) (a p : Int) H', ZdN H H' -> m.ok -> m.rng N -> InR N a -> Im H' v (Mkg.d (mkg m a p)) -> Q v H') (S : ZdN H H1) (ok : m.ok) (rg : m.rng N) (hf : Im H1 f m.f) :
  ZrO (ZrU (Zhg (cV 4) (Zhg (cV 5) (Zhg (Zl3 Zgi [] E0 (Zhg (cV 1) (Zhg (tC (.int 5)) (Zhg (cV 2) ZpG)))) (Zhg (Zl3 Zgi [] E0 (Zhg (cV 1) (Zhg (tC (.int 7)) (Zhg (tC (.int 160)) ZpG)))) ZpG))))) { nx := fun _ H' => Q .non H', rt := Q } [some (.ref l), some (.int c), some (.int N), sp, some (.str m.s), some f] H1 := by
 refine ⟨c, 5, N, rfl, by decide, by decide, hN, fun a H2 S2 a0 a1 => ⟨c, 7, 160, rfl, by decide, by decide, by decide, fun p H3 S3 _ _ => ⟨(by show 4 <= sizeLine; decide), fun t ht => ?_⟩⟩⟩
 have S4 := Zdz ht (.tup [V.str m.s, f, V.int a, V.int p])
 exact q _ m a p _ (((S.trans S2).trans S3).trans S4) ok rg ⟨a0, a1⟩ (.tup Zdt (.cons (.flat rfl) (.cons (hf.mono (ZdN.tk ((S2.trans S3).trans S4))) (.cons (.flat rfl) (.cons (.flat rfl) .nil)))))
def ZjW : Sp := fun vs H Q _ => ∃ (l : Addr) (c N : Int), vs = [.ref l, .int c, .int N] /\ Wd H l /\ 0 < N /\ ∀ v (m : Mf) (a p : Int) H', ZdN H H' -> m.ok -> m.rng N -> InR N a -> Im H' v (Mkg.d (mkg m a p)) -> Q v H'
theorem ZjX (T : Txt K mg) : Zfi P w K mg base CX0 3 T.a_make T.fd_make ["_law_words_here", "_law_cell", "_law_many"] ZjW := by
 have G_pick := ZfJ (P := P) (w := w) (base := base) T
 have G_named := ZgX (P := P) (w := w) (base := base) T
 refine T.F_make.ok ZeB (fun vs H Q E h => ?_) (fun cdv A outer s H vs Q E hr h => ?_)
 ·obtain ⟨l, c, N, rfl, _⟩ := h
  rfl
 obtain ⟨l, c, N, rfl, hw, hN, q⟩ := h
 refine ⟨_, (Zdw (ZkJ (j := 3) rfl (Zod (x := "_law_k") ["_law_many", "_law_cell"] [("_law_many", 2, s.heap.objs.size + 2), ("_law_cell", 1, s.heap.objs.size + 1)] rfl rfl (by decide +kernel) (by decide +kernel) rfl (by decide +kernel) rfl rfl (by intro p hp; simp only [Zag, ZaV, or_false] at hp; rcases hp with rfl | rfl <;> exact ⟨rfl, rfl, rfl, rfl⟩)) (Zen (Zem (Zds Zdv (Zds Zdv (Zds Zdv Zdu))))) (fun _ _ _ _ _ => ZfS) (fun _ _ _ _ _ => (ZdM G_pick (hr.mono (by decide)) rfl T.m_pick T.k_pick T.b_pick .nil ZdR (Zds (cv 2) (Zds (cv 0) (Zds (cv 1) Zdu))))) ZeB.nd rfl (.inl rfl))
  (Zdw (Zd1 (i := 4) ZeB.nd rfl (.inl rfl) (ZdF ZdK (Zem (Zds ZdZ (Zds ZdZ (Zds ZdZ (Zds ZdZ (Zds ZdZ (Zds ZdZ Zdu))))))) (ZdM G_pick (hr.mono (by decide)) rfl T.m_pick T.k_pick T.b_pick .nil ZdR (Zds (cv 1) (Zds Zdv (Zds Zdv Zdu)))) (fun _ _ => rfl)))
  (Zdw (Zd1 (i := 5) ZeB.nd rfl (.inl rfl) (Zel Zdu))
  (Zdw (Zez (ZdQ Zft (cv 4) ZdZ (Zd3 _))
   (ZdB (Zd1 (i := 5) ZeB.nd rfl (.inl rfl) (Zel (Zds (ZdF ZdK (cv 3) Zdv (fun _ _ => rfl)) (Zds (ZdF ZdK (cv 3) Zdv (fun _ _ => rfl)) Zdu)))))
   ZdS)
  (Zdw (Zez (ZdQ Zft (cv 4) ZdZ (Zd3 _))
   (ZdB (Zd1 (i := 5) ZeB.nd rfl (.inl rfl) (ZdM G_named (hr.mono (by decide)) rfl T.m_named T.k_named T.b_named .nil ZdR (Zds (cv 0) (Zds (cv 1) (Zds (cv 3) Zdu))))))
   ZdS)
  (Zdw (Zez (ZdQ Zft (cv 4) ZdZ (Zd3 _))
   (ZdB (Zd1 (i := 5) ZeB.nd rfl (.inl rfl) (Zel (Zds (ZdF ZdK (cv 0) (ZdM G_pick (hr.mono (by decide)) rfl T.m_pick T.k_pick T.b_pick .nil ZdR (Zds (cv 1) (Zds Zdv (Zds Zdv Zdu)))) (fun _ _ => rfl)) (Zds (ZdF ZdK (cv 3) Zdv (fun _ _ => rfl)) Zdu)))))
   ZdS)
  (Zdw (Zez (ZdQ Zft (cv 4) ZdZ (Zd3 _))
   (ZdB (Zd1 (i := 5) ZeB.nd rfl (.inl rfl) (Zel (Zds (ZdF ZdK (cv 3) Zdv (fun _ _ => rfl)) Zdu))))
   ZdS)
  (ZdB (ZdO (Zel (Zds (cv 4) (Zds (cv 5) (Zds (ZdM G_pick (hr.mono (by decide)) rfl T.m_pick T.k_pick T.b_pick .nil ZdR (Zds (cv 1) (Zds Zdv (Zds (cv 2) Zdu)))) (Zds (ZdM G_pick (hr.mono (by decide)) rfl T.m_pick T.k_pick T.b_pick .nil ZdR (Zds (cv 1) (Zds Zdv (Zds Zdv Zdu)))) Zdu)))))))))))))), ?_⟩
 refine ⟨(by show 3 <= sizeLine; decide), fun p hp => ⟨p, rfl, ⟨_, SqL.of Zdt⟩, fun D hD => Zk8 (N := N) Zdt hD rfl (Zdz hp _) (fun k H2 Z _ k1 k3 z => ⟨c, k, N, rfl, by omega, by omega, hN, fun n H5 S5 n0 n1 => z n H5 S5 ⟨n0, n1⟩⟩) (fun H1 S1 hsp => ?_)⟩⟩
 refine ⟨(by show 6 <= sizeLine; decide), fun b hb => ⟨c, 4, 6, rfl, by decide, by decide, by decide, fun n H2 S2 n0 n1 => ?_⟩⟩
 have Sb := Zdz hb (.lst [V.str "num", V.str "fn", V.str "rec", V.str "tag", V.str "row", V.str "any"])
 have hb2 := S2 _ _ (Zdt (H := H1) (a := b) (o := .lst [V.str "num", V.str "fn", V.str "rec", V.str "tag", V.str "row", V.str "any"]))
 have S3 : ZdN H H2 := S1.trans (Sb.trans S2)
 have hsp2 := hsp.same (Sb.trans S2)
 have hw2 := hw.same S3
 obtain ⟨ws, ew, _, wat_⟩ := ZrH hw2
 obtain ⟨ns, es, hat⟩ := hsp2.at
 obtain ⟨x0, e0, r0⟩ := hat 0 (by decide) (by decide)
 obtain ⟨x1, e1, r1⟩ := hat 1 (by decide) (by decide)
 refine ⟨_, hb2, ?_⟩
 obtain ⟨k, rfl⟩ : ∃ k : Nat, n = (k : Int) := ⟨n.toNat, by omega⟩
 match k, n1 with
 | 0, _ =>
  refine ZdC (Zdy (j := 0) rfl) ⟨(by show 0 <= sizeLine; decide), fun t ht => ?_⟩
  dsimp only [Ze9]
  refine ZeK (s := "num") rfl (by decide +kernel) (ZeK (s := "num") rfl (by decide +kernel) (ZeK (s := "num") rfl (by decide +kernel) (ZeK (s := "num") rfl (by decide +kernel) ?_)))
  exact Zgn (m := .num) hN q (S3.trans (Zdz ht _)) trivial trivial (.tup Zdt .nil)
 | 1, _ =>
  refine ZdC (Zdy (j := 1) rfl) ⟨(by show 0 <= sizeLine; decide), fun t ht => ?_⟩
  have St := Zdz ht (.tup [])
  dsimp only [Ze9]
  refine Zha (s := "fn") rfl rfl ⟨_, St _ _ es, ZdC e0 ⟨_, St _ _ es, ZdC e1 ⟨(by show 2 <= sizeLine; decide), fun t2 ht2 => ?_⟩⟩⟩
  dsimp only [Ze9]
  refine ZeK (s := "fn") rfl (by decide +kernel) (ZeK (s := "fn") rfl (by decide +kernel) (ZeK (s := "fn") rfl (by decide +kernel) ?_))
  exact Zgn (m := .fn x0 x1) hN q ((S3.trans St).trans (Zdz ht2 _)) trivial ⟨r0, r1⟩ (.tup Zdt (.cons (.flat rfl) (.cons (.flat rfl) .nil)))
 | 2, _ =>
  refine ZdC (Zdy (j := 2) rfl) ⟨(by show 0 <= sizeLine; decide), fun t ht => ?_⟩
  have St := Zdz ht (.tup [])
  dsimp only [Ze9]
  refine ZeK (s := "rec") rfl (by decide +kernel) (Zha (s := "rec") rfl rfl ⟨l, D, c, N, rfl, hw2.same St, hsp2.same St, fun v ps H4 S4 hl hd hr hv => ?_⟩)
  dsimp only [Ze9]
  refine ZeK (s := "rec") rfl (by decide +kernel) (ZeK (s := "rec") rfl (by decide +kernel) ?_)
  exact Zgn (m := .rcd ps) hN q ((S3.trans St).trans S4) ⟨hl, hd⟩ hr hv
 | 3, _ =>
  refine ZdC (Zdy (j := 3) rfl) ⟨(by show 0 <= sizeLine; decide), fun t ht => ?_⟩
  have St := Zdz ht (.tup [])
  dsimp only [Ze9]
  refine ZeK (s := "tag") rfl (by decide +kernel) (ZeK (s := "tag") rfl (by decide +kernel) (Zha (s := "tag") rfl rfl ⟨c, 6, 4, rfl, by decide, by decide, by decide, fun j H4 S4 j0 j1 => ?_⟩))
  obtain ⟨y, ey, _⟩ := wat_ j j0 j1
  refine ⟨_, S4 _ _ (St _ _ ew), ZdC ey ⟨_, S4 _ _ (St _ _ es), ZdC e0 ⟨(by show 2 <= sizeLine; decide), fun t2 ht2 => ?_⟩⟩⟩
  dsimp only [Ze9]
  refine ZeK (s := "tag") rfl (by decide +kernel) ?_
  exact Zgn (m := .tag y x0) hN q (((S3.trans St).trans S4).trans (Zdz ht2 _)) trivial r0 (.tup Zdt (.cons (.flat rfl) (.cons (.flat rfl) .nil)))
 | 4, _ =>
  refine ZdC (Zdy (j := 4) rfl) ⟨(by show 0 <= sizeLine; decide), fun t ht => ?_⟩
  have St := Zdz ht (.tup [])
  dsimp only [Ze9]
  refine ZeK (s := "row") rfl (by decide +kernel) (ZeK (s := "row") rfl (by decide +kernel) (ZeK (s := "row") rfl (by decide +kernel) (Zha (s := "row") rfl rfl ⟨_, St _ _ es, ZdC e0 ⟨(by show 1 <= sizeLine; decide), fun t2 ht2 => ?_⟩⟩)))
  exact Zgn (m := .row x0) hN q ((S3.trans St).trans (Zdz ht2 _)) trivial r0 (.tup Zdt (.cons (.flat rfl) .nil))
 | 5, _ =>
  refine ZdC (Zdy (j := 5) rfl) ⟨(by show 0 <= sizeLine; decide), fun t ht => ?_⟩
  dsimp only [Ze9]
  refine ZeK (s := "any") rfl (by decide +kernel) (ZeK (s := "any") rfl (by decide +kernel) (ZeK (s := "any") rfl (by decide +kernel) (ZeK (s := "any") rfl (by decide +kernel) ?_)))
  exact Zgn (m := .any) hN q (S3.trans (Zdz ht _)) trivial trivial (.tup Zdt .nil)
 | k + 6, h => exact absurd h (by omega)
end
section
variable {i : Nat} {s w w' : Str} {t : TS.Internal} {D : Zj5} {σ : St} {H : Hp} {u' : TS.Internal}
theorem Zpz {Q : Bool -> Hp -> Prop} (hv : σ[i]? = some (some (.str s))) (h : s ≠ w) (q : Q false H) : cT (tOp (cEq false) (cV i) (tC (.str w))) σ H Q := by
 show onV σ[i]? _
 rw [hv]
 show Q (false ^^ decide (s = w)) H
 rw [decide_eq_false h]
 exact q
theorem Zou {Q : Bool -> Hp -> Prop} (hv : σ[i]? = some (some (.str s))) (h : s = w) (q : Q true H) : cT (tOp (cEq false) (cV i) (tC (.str w))) σ H Q := by
 show onV σ[i]? _
 rw [hv]
 show Q (false ^^ decide (s = w)) H
 rw [decide_eq_true h]
 exact q
theorem Zov (hv : σ[i]? = some (some (.str s))) (h : s ≠ w) (h' : s ≠ w') (q : u' D σ H) : ZkB (ZlK (tOr (cT (tOp (cEq false) (cV i) (tC (.str w)))) (cT (tOp (cEq false) (cV i) (tC (.str w'))))) t Zf3) u' D σ H :=
 Zpz hv h (ZfA (Zpz hv h' (ZfA q)))
theorem ZrI (hv : σ[i]? = some (some (.str s))) (h : s = w) (q : t { D with nx := u' D } σ H) : ZkB (ZlK (tOr (cT (tOp (cEq false) (cV i) (tC (.str w)))) (cT (tOp (cEq false) (cV i) (tC (.str w'))))) t Zf3) u' D σ H :=
 Zou hv h (ZgJ (ZgJ q))
theorem ZrJ (hv : σ[i]? = some (some (.str s))) (h : s ≠ w) (h' : s = w') (q : t { D with nx := u' D } σ H) : ZkB (ZlK (tOr (cT (tOp (cEq false) (cV i) (tC (.str w)))) (cT (tOp (cEq false) (cV i) (tC (.str w'))))) t Zf3) u' D σ H :=
 Zpz hv h (ZfA (Zou hv h' (ZgJ q)))
end
section
variable {P : Program} {w : World} {K : PySem.W.Frag} {mg : Str -> Option Value} {base : Heap}
theorem hdI {H : Hp} (n : Str) (a p s : Int) : Ims H [V.str n, .int a, .int p, .int s] (hdD n a p s) := .cons (.flat rfl) (.cons (.flat rfl) (.cons (.flat rfl) (.cons (.flat rfl) .nil)))
def Zkq : Sp := fun vs H Q _ => ∃ (l : Addr) (c N : Int), vs = [.ref l, .int c, .int N] /\ Wd H l /\ 0 < N /\ ∀ v (u : Us) H', ZdN H H' -> u.ok -> u.dist -> u.rng N -> Im H' v (Us.d u) -> Q v H'
theorem Zkr (T : Txt K mg) : Zfi P w K mg base CX0 3 T.a_use T.fd_use ["_law_words_here", "_law_cell", "_law_many"] Zkq := by
 have G_pick := ZfJ (P := P) (w := w) (base := base) T
 have G_named := ZgX (P := P) (w := w) (base := base) T
 refine T.F_use.ok ZfU (fun vs H Q E h => ?_) (fun cdv A outer s H vs Q E hr h => ?_)
 ·obtain ⟨l, c, N, rfl, _⟩ := h
  rfl
 obtain ⟨l, c, N, rfl, hw, hN, q⟩ := h
 refine ⟨_, (Zdw (ZkJ (j := 3) rfl (Zod (x := "_law_k") ["_law_many", "_law_cell"] [("_law_many", 2, s.heap.objs.size + 2), ("_law_cell", 1, s.heap.objs.size + 1)] rfl rfl (by decide +kernel) (by decide +kernel) rfl (by decide +kernel) rfl rfl (by intro p hp; simp only [Zag, ZaV, or_false] at hp; rcases hp with rfl | rfl <;> exact ⟨rfl, rfl, rfl, rfl⟩)) (Zen (Zem (Zds Zdv (Zds Zdv (Zds Zdv Zdu))))) (fun _ _ _ _ _ => ZfS) (fun _ _ _ _ _ => (ZdM G_pick (hr.mono (by decide)) rfl T.m_pick T.k_pick T.b_pick .nil ZdR (Zds (cv 2) (Zds (cv 0) (Zds (cv 1) Zdu))))) ZfU.nd rfl (.inl rfl))
  (Zdw (Zd1 (i := 4) ZfU.nd rfl (.inl rfl) (ZdF ZdK (Zem (Zds ZdZ (Zds ZdZ (Zds ZdZ (Zds ZdZ (Zds ZdZ Zdu)))))) (ZdM G_pick (hr.mono (by decide)) rfl T.m_pick T.k_pick T.b_pick .nil ZdR (Zds (cv 1) (Zds Zdv (Zds Zdv Zdu)))) (fun _ _ => rfl)))
  (Zdw (Zd1 (i := 5) ZfU.nd rfl (.inl rfl) (Zel (Zds (cv 4) (Zds (ZdM G_pick (hr.mono (by decide)) rfl T.m_pick T.k_pick T.b_pick .nil ZdR (Zds (cv 1) (Zds Zdv (Zds (cv 2) Zdu)))) (Zds (ZdM G_pick (hr.mono (by decide)) rfl T.m_pick T.k_pick T.b_pick .nil ZdR (Zds (cv 1) (Zds Zdv (Zds Zdv Zdu)))) (Zds (Zep ZfH (cv 1) Zdv) Zdu))))))
  (Zdw (Zez (ZdQ Zft (cv 4) ZdZ (Zd3 _))
   (ZdB (ZdO (Zep Zka (cv 5) (Zel (Zds (ZdF ZdK (cv 3) Zdv (fun _ _ => rfl)) (Zds (ZdF ZdK (cv 3) Zdv (fun _ _ => rfl)) Zdu))))))
   ZdS)
  (Zdw (Zez (PW.pt (Zjh (ZdQ Zft (cv 4) ZdZ (Zd3 _)) (Zh7 (ZdQ Zft (cv 4) ZdZ (Zd3 _)))))
   (ZdB (ZdO (Zep Zka (cv 5) (Zel (Zds (ZdM G_named (hr.mono (by decide)) rfl T.m_named T.k_named T.b_named .nil ZdR (Zds (cv 0) (Zds (cv 1) (Zds (cv 3) Zdu)))) Zdu)))))
   ZdS)
  (Zdw (Zez (ZdQ Zft (cv 4) ZdZ (Zd3 _))
   (ZdB (ZdO (Zep Zka (cv 5) (Zel (Zds (ZdF ZdK (cv 3) Zdv (fun _ _ => rfl)) Zdu)))))
   ZdS)
  (ZdB (ZdO (cv 5))))))))), ?_⟩
 refine ⟨(by show 3 <= sizeLine; decide), fun p hp => ⟨p, rfl, ⟨_, SqL.of Zdt⟩, fun D hD => Zk8 (N := N) Zdt hD rfl (Zdz hp _) (fun k H2 Z _ k1 k3 z => ⟨c, k, N, rfl, by omega, by omega, hN, fun n H5 S5 n0 n1 => z n H5 S5 ⟨n0, n1⟩⟩) (fun H1 S1 hsp => ?_)⟩⟩
 refine ⟨(by show 5 <= sizeLine; decide), fun b hb => ⟨c, 4, 5, rfl, by decide, by decide, by decide, fun n H2 S2 n0 n1 => ?_⟩⟩
 have Sb := Zdz hb (.lst [V.str "num", V.str "call", V.str "take", V.str "case", V.str "row"])
 have hb2 := S2 _ _ (Zdt (H := H1) (a := b) (o := .lst [V.str "num", V.str "call", V.str "take", V.str "case", V.str "row"]))
 have S3 : ZdN H H2 := S1.trans (Sb.trans S2)
 have hsp2 := hsp.same (Sb.trans S2)
 refine ⟨_, hb2, ?_⟩
 obtain ⟨k, rfl⟩ : ∃ k : Nat, n = (k : Int) := ⟨n.toNat, by omega⟩
 obtain ⟨wd_, hk, hws⟩ : ∃ x : Str, [V.str "num", V.str "call", V.str "take", V.str "case", V.str "row"][k]? = some (.str x) /\ (x = "num" \/ x = "call" \/ x = "take" \/ x = "case" \/ x = "row") := by
  match k, n1 with
  | 0, _ => exact ⟨_, rfl, by simp⟩
  | 1, _ => exact ⟨_, rfl, by simp⟩
  | 2, _ => exact ⟨_, rfl, by simp⟩
  | 3, _ => exact ⟨_, rfl, by simp⟩
  | 4, _ => exact ⟨_, rfl, by simp⟩
  | k + 5, h => exact absurd h (by omega)
 refine ZdC (Zdy hk) ⟨c, 5, N, rfl, by decide, by decide, hN, fun a H3 S3' a0 a1 => ⟨c, 7, 160, rfl, by decide, by decide, by decide, fun p H4 S4 _ _ => ⟨(by show (0 : Int) < 2; decide), (by show 4 <= sizeLine; decide), fun hd hhd => ?_⟩⟩⟩
 have Sh := Zdz hhd (.tup [V.str wd_, .int a, .int p, .int (c % 2)])
 have S5 : ZdN H _ := ((S3.trans S3').trans S4).trans Sh
 have eh := (Zdt (H := H4) (a := hd) (o := .tup [V.str wd_, .int a, .int p, .int (c % 2)]))
 have hw5 := hw.same S5
 have hsp5 := hsp2.same ((S3'.trans S4).trans Sh)
 dsimp only [Ze9]
 generalize upd H4 hd (.tup [V.str wd_, .int a, .int p, .int (c % 2)]) = H5 at S5 eh hw5 hsp5 ⊢
 obtain ⟨ns, es, hat⟩ := hsp5.at
 obtain ⟨x0, e0, r0⟩ := hat 0 (by decide) (by decide)
 obtain ⟨x1, e1, r1⟩ := hat 1 (by decide) (by decide)
 have cat : ∀ (H6 : Hp) (ys : List V) (t3 : Addr) (Z : VK), ZdN H5 H6 -> H6 t3 = none -> ys.length <= 5 -> ys ≠ [] -> (∀ t4, (upd H6 t3 (.tup ys)) t4 = none -> Z (.ref t4) (upd (upd H6 t3 (.tup ys)) t4 (.tup ([V.str wd_, .int a, .int p, .int (c % 2)] ++ ys)))) -> ZoP K (.ref hd) (.ref t3) (upd H6 t3 (.tup ys)) Z := fun H6 ys t3 Z S6 h3 hl hne z =>
  ⟨hd, t3, _, _, rfl, rfl, SqT.of (Zdz h3 _ _ _ (S6 _ _ eh)), SqT.of Zdt, (fun z => nomatch z), (by show 4 + ys.length <= sizeLine; have := sizeLine_eq; omega), fun z => absurd z hne, fun _ t4 h4 => z t4 h4⟩
 have pt : ∀ (v : V) (H6 : Hp) (d : Dt) (t3 t4 : Addr), H6 t3 = none -> (upd H6 t3 (.tup [v])) t4 = none -> Im H6 v d -> Im (upd (upd H6 t3 (.tup [v])) t4 (.tup ([V.str wd_, .int a, .int p, .int (c % 2)] ++ [v]))) (.ref t4) (.tup (hdD wd_ a p (c % 2) ++ [d])) := fun v H6 d t3 t4 h3 h4 hv =>
  .tup Zdt ((hdI _ _ _ _).app (.cons (hv.mono (ZdN.tk ((Zdz h3 _).trans (Zdz h4 _)))) .nil))
 have nm : ∀ (v : V) (ps : List (Str × Int)) (H6 : Hp) (Z : VK), ZdN H5 H6 -> Im H6 v (prD ps) -> (∀ v' H', ZdN H H' -> Im H' v' (.tup (hdD wd_ a p (c % 2) ++ [prD ps])) -> Z v' H') -> (1 : Nat) <= sizeLine /\ ∀ t3, H6 t3 = none -> ZoP K (.ref hd) (.ref t3) (upd H6 t3 (.tup [v])) Z := fun v ps H6 Z S6 hv z =>
  ⟨by decide, fun t3 h3 => cat H6 [v] t3 Z S6 h3 (by show 1 <= 5; decide) (fun h => nomatch h) fun t4 h4 => z _ _ (((S5.trans S6).trans (Zdz h3 _)).trans (Zdz h4 _)) (pt v H6 _ t3 t4 h3 h4 hv)⟩
 rcases hws with rfl | rfl | rfl | rfl | rfl
 ·refine ZeK (s := "num") rfl (by decide +kernel) (Zov (s := "num") rfl (by decide +kernel) (by decide +kernel) (ZeK (s := "num") rfl (by decide +kernel) ?_))
  exact q _ (.num a p (c % 2)) _ S5 trivial trivial trivial (.tup eh (hdI _ _ _ _))
 ·refine Zha (s := "call") rfl rfl ⟨_, es, ZdC e0 ⟨_, es, ZdC e1 ⟨(by show 2 <= sizeLine; decide), fun t3 h3 => ?_⟩⟩⟩
  refine cat H5 _ t3 _ (ZdN.refl _) h3 (by show 2 <= 5; decide) (fun h => nomatch h) fun t4 h4 => ?_
  exact q _ (.call a p (c % 2) x0 x1) _ ((S5.trans (Zdz h3 _)).trans (Zdz h4 _)) trivial trivial ⟨r0, r1⟩ (.tup Zdt ((hdI _ _ _ _).app (.cons (.flat rfl) (.cons (.flat rfl) .nil))))
 ·refine ZeK (s := "take") rfl (by decide +kernel) (ZrI (s := "take") rfl rfl ⟨l, D, c, N, rfl, hw5, hsp5, fun v ps H6 S6 hl hd_ hr hv => ?_⟩)
  exact nm v ps H6 _ S6 hv fun v' H' S' h' => q _ (.take a p (c % 2) ps) _ S' hl hd_ hr h'
 ·refine ZeK (s := "case") rfl (by decide +kernel) (ZrJ (s := "case") rfl (by decide +kernel) rfl ⟨l, D, c, N, rfl, hw5, hsp5, fun v ps H6 S6 hl hd_ hr hv => ?_⟩)
  exact nm v ps H6 _ S6 hv fun v' H' S' h' => q _ (.case a p (c % 2) ps) _ S' hl hd_ hr h'
 ·refine ZeK (s := "row") rfl (by decide +kernel) (Zov (s := "row") rfl (by decide +kernel) (by decide +kernel) (Zha (s := "row") rfl rfl ⟨_, es, ZdC e0 ⟨(by show 1 <= sizeLine; decide), fun t3 h3 => ?_⟩⟩))
  refine cat H5 _ t3 _ (ZdN.refl _) h3 (by show 1 <= 5; decide) (fun h => nomatch h) fun t4 h4 => ?_
  exact q _ (.row a p (c % 2) x0) _ ((S5.trans (Zdz h3 _)).trans (Zdz h4 _)) trivial trivial r0 (.tup Zdt ((hdI _ _ _ _).app (.cons (.flat rfl) .nil)))
theorem Zgy {H : Hp} {v : V} {n : Str} {a p s : Int} {r : List Dt} (h : Im H v (.tup (hdD n a p s ++ r))) : ∃ t xs, v = .ref t /\ H t = some (.tup ([.str n, .int a, .int p, .int s] ++ xs)) /\ Ims H xs r := by
 cases h with
 | @tup t ys _ e hs =>
  cases hs with
  | cons h1 hs =>
   cases h1
   cases hs with
   | cons h2 hs =>
    cases h2
    cases hs with
    | cons h3 hs =>
     cases h3
     cases hs with
     | cons h4 hs =>
      cases h4
      exact ⟨t, _, rfl, e, hs⟩
theorem Zgz {i : Nat} {s w : Str} {t u' : TS.Internal} {D : Zj5} {σ : St} {H : Hp} {a : Addr} {r : List V} (hv : σ[i]? = some (some (.ref a))) (ha : H a = some (.tup (.str s :: r))) (h : s ≠ w) (q : u' D σ H) : ZkB (ZlK (cT (tOp (cEq false) (tOp ZpI (cV i) (tC (.int 0))) (tC (.str w)))) t Zf3) u' D σ H := ZqL (u := Zf3) (D := { D with nx := u' D }) hv ha h q
theorem ZiZ {i : Nat} {s w : Str} {t u' : TS.Internal} {D : Zj5} {σ : St} {H : Hp} {a : Addr} {r : List V} (hv : σ[i]? = some (some (.ref a))) (ha : H a = some (.tup (.str s :: r))) (h : s = w) (q : t { D with nx := u' D } σ H) : ZkB (ZlK (cT (tOp (cEq false) (tOp ZpI (cV i) (tC (.int 0))) (tC (.str w)))) t Zf3) u' D σ H := Zpy (u := Zf3) (D := { D with nx := u' D }) hv ha h q
def Zi0 (c : Cs) : Sp := fun vs H Q _ => ∃ (v : V) (u : Us), vs = [v] /\ u.ok /\ Im H v (Us.d u) /\ ∀ x H', ZdN H H' -> UsAt c H' x u -> Q x H'
theorem Zi1 (T : Txt K mg) : Zfi P w K mg base CX0 4 T.a_using T.fd_using ["_law_told"] (Zi0 (cs T)) := by
 have G_Use___init__ := ZeZ (P := P) (w := w) (base := base) T
 have G_CallUse___init__ := ZgG (P := P) (w := w) (base := base) T
 have G_TakeUse___init__ := ZgH (P := P) (w := w) (base := base) T
 have G_CaseUse___init__ := ZgI (P := P) (w := w) (base := base) T
 have G_RowUse___init__ := ZgW (P := P) (w := w) (base := base) T
 refine T.F_using.ok ZiI (fun vs H Q E h => ?_) (fun cdv A outer s H vs Q E hr h => ?_)
 ·obtain ⟨v, u, rfl, _⟩ := h
  rfl
 obtain ⟨v, u, rfl, uo, hv, q⟩ := h
 refine ⟨_, (Zdw (Zez (ZdQ Zft (ZdF ZdG (cv 0) Zdv (fun _ _ => rfl)) ZdZ (Zd3 _))
   (ZdB (ZdO (ZfR T.mk_CallUse G_CallUse___init__ (hr.mono (by decide)) rfl T.m_CallUse T.b_CallUse___init__ .nil ZdR (Zds (ZdF ZdG (cv 0) Zdv (fun _ _ => rfl)) (Zds (ZdF ZdG (cv 0) Zdv (fun _ _ => rfl)) (Zds (ZdF ZdG (cv 0) Zdv (fun _ _ => rfl)) (Zds (ZdF ZdG (cv 0) Zdv (fun _ _ => rfl)) (Zds (ZdF ZdG (cv 0) Zdv (fun _ _ => rfl)) Zdu))))))))
   ZdS)
  (Zdw (Zez (ZdQ Zft (ZdF ZdG (cv 0) Zdv (fun _ _ => rfl)) ZdZ (Zd3 _))
   (ZdB (ZdO (ZfR T.mk_TakeUse G_TakeUse___init__ (hr.mono (by decide)) rfl T.m_TakeUse T.b_TakeUse___init__ .nil ZdR (Zds (ZdF ZdG (cv 0) Zdv (fun _ _ => rfl)) (Zds (ZdF ZdG (cv 0) Zdv (fun _ _ => rfl)) (Zds (ZdF ZdG (cv 0) Zdv (fun _ _ => rfl)) (Zds (ZdF ZdG (cv 0) Zdv (fun _ _ => rfl)) Zdu)))))))
   ZdS)
  (Zdw (Zez (ZdQ Zft (ZdF ZdG (cv 0) Zdv (fun _ _ => rfl)) ZdZ (Zd3 _))
   (ZdB (ZdO (ZfR T.mk_CaseUse G_CaseUse___init__ (hr.mono (by decide)) rfl T.m_CaseUse T.b_CaseUse___init__ .nil ZdR (Zds (ZdF ZdG (cv 0) Zdv (fun _ _ => rfl)) (Zds (ZdF ZdG (cv 0) Zdv (fun _ _ => rfl)) (Zds (ZdF ZdG (cv 0) Zdv (fun _ _ => rfl)) (Zds (ZdF ZdG (cv 0) Zdv (fun _ _ => rfl)) Zdu)))))))
   ZdS)
  (Zdw (Zez (ZdQ Zft (ZdF ZdG (cv 0) Zdv (fun _ _ => rfl)) ZdZ (Zd3 _))
   (ZdB (ZdO (ZfR T.mk_RowUse G_RowUse___init__ (hr.mono (by decide)) rfl T.m_RowUse T.b_RowUse___init__ .nil ZdR (Zds (ZdF ZdG (cv 0) Zdv (fun _ _ => rfl)) (Zds (ZdF ZdG (cv 0) Zdv (fun _ _ => rfl)) (Zds (ZdF ZdG (cv 0) Zdv (fun _ _ => rfl)) (Zds (ZdF ZdG (cv 0) Zdv (fun _ _ => rfl)) Zdu)))))))
   ZdS)
  (ZdB (ZdO (ZfR T.mk_NumUse G_Use___init__ (hr.mono (by decide)) rfl T.m_NumUse T.b_Use___init__ .nil ZdR (Zds (ZdF ZdG (cv 0) Zdv (fun _ _ => rfl)) (Zds (ZdF ZdG (cv 0) Zdv (fun _ _ => rfl)) (Zds (ZdF ZdG (cv 0) Zdv (fun _ _ => rfl)) Zdu)))))))))), ?_⟩
 cases u with
 | num a p sl =>
  obtain ⟨t, xs, rfl, e, hs⟩ := Zgy (r := []) (show Im H v (.tup (hdD "num" a p sl ++ [])) from hv)
  cases hs
  refine Zgz rfl e (by decide +kernel) (Zgz rfl e (by decide +kernel) (Zgz rfl e (by decide +kernel) (Zgz rfl e (by decide +kernel) ?_)))
  refine ⟨_, e, ZdC (Zdy (j := 1) rfl) ⟨_, e, ZdC (Zdy (j := 2) rfl) ⟨_, e, ZdC (Zdy (j := 3) rfl) fun x dx hx hdx nx => ?_⟩⟩⟩
  refine ⟨x, _, dx, _, _, _, rfl, Zdt, T.cl_NumUse, T.n_NumUse_at, T.n_NumUse_place, T.n_NumUse_slot, rfl, ?_⟩
  rw [Zes]
  exact q _ _ (Zey hx hdx) ⟨x, dx, rfl, Zdt⟩
 | call a p sl y z =>
  obtain ⟨t, xs, rfl, e, hs⟩ := Zgy hv
  obtain rfl := Zpr hs
  refine ZiZ rfl e rfl ⟨_, e, ZdC (Zdy (j := 1) rfl) ⟨_, e, ZdC (Zdy (j := 2) rfl) ⟨_, e, ZdC (Zdy (j := 3) rfl) ⟨_, e, ZdC (Zdy (j := 4) rfl) ⟨_, e, ZdC (Zdy (j := 5) rfl) fun x dx hx hdx nx => ?_⟩⟩⟩⟩⟩
  refine ⟨x, dx, _, _, _, _, _, rfl, Zdt, rfl, ?_⟩
  rw [Zes]
  exact q _ _ (Zey hx hdx) ⟨x, dx, rfl, Zdt⟩
 | take a p sl ps =>
  obtain ⟨t, xs, rfl, e, hs⟩ := Zgy hv
  obtain ⟨f, rfl, hf⟩ : ∃ f, xs = [f] /\ Im H f (prD ps) := by
   cases hs with | cons h1 hs => cases hs; exact ⟨_, rfl, h1⟩
  refine Zgz rfl e (by decide +kernel) (ZiZ rfl e rfl ⟨_, e, ZdC (Zdy (j := 1) rfl) ⟨_, e, ZdC (Zdy (j := 2) rfl) ⟨_, e, ZdC (Zdy (j := 3) rfl) ⟨_, e, ZdC (Zdy (j := 4) rfl) fun x dx hx hdx nx => ?_⟩⟩⟩⟩)
  refine ⟨x, dx, _, _, _, _, rfl, Zdt, rfl, ?_⟩
  rw [Zes]
  exact q _ _ (Zey hx hdx) ⟨x, dx, f, rfl, Zdt, hf.mono (ZdN.tk (Zey hx hdx)), uo⟩
 | case a p sl ps =>
  obtain ⟨t, xs, rfl, e, hs⟩ := Zgy hv
  obtain ⟨f, rfl, hf⟩ : ∃ f, xs = [f] /\ Im H f (prD ps) := by
   cases hs with | cons h1 hs => cases hs; exact ⟨_, rfl, h1⟩
  refine Zgz rfl e (by decide +kernel) (Zgz rfl e (by decide +kernel) (ZiZ rfl e rfl ⟨_, e, ZdC (Zdy (j := 1) rfl) ⟨_, e, ZdC (Zdy (j := 2) rfl) ⟨_, e, ZdC (Zdy (j := 3) rfl) ⟨_, e, ZdC (Zdy (j := 4) rfl) fun x dx hx hdx nx => ?_⟩⟩⟩⟩))
  refine ⟨x, dx, _, _, _, _, rfl, Zdt, rfl, ?_⟩
  rw [Zes]
  exact q _ _ (Zey hx hdx) ⟨x, dx, f, rfl, Zdt, hf.mono (ZdN.tk (Zey hx hdx)), uo⟩
 | row a p sl y =>
  obtain ⟨t, xs, rfl, e, hs⟩ := Zgy hv
  obtain rfl := Zrz hs
  refine Zgz rfl e (by decide +kernel) (Zgz rfl e (by decide +kernel) (Zgz rfl e (by decide +kernel) (ZiZ rfl e rfl ⟨_, e, ZdC (Zdy (j := 1) rfl) ⟨_, e, ZdC (Zdy (j := 2) rfl) ⟨_, e, ZdC (Zdy (j := 3) rfl) ⟨_, e, ZdC (Zdy (j := 4) rfl) fun x dx hx hdx nx => ?_⟩⟩⟩⟩)))
  refine ⟨x, dx, _, _, _, _, rfl, Zdt, rfl, ?_⟩
  rw [Zes]
  exact q _ _ (Zey hx hdx) ⟨x, dx, rfl, Zdt⟩
end
theorem Zhr (ns : List Int) (lo hi : Option Int) : ∃ ms : List Int, ZlL (ns.map V.int) lo hi = ms.map V.int /\ ms.length <= ns.length := by
 refine ⟨(ns.drop (HT.Internal.sIx (ns.map V.int).length 0 lo)).take (HT.Internal.sIx (ns.map V.int).length (ns.map V.int).length hi - HT.Internal.sIx (ns.map V.int).length 0 lo), ?_, ?_⟩
 ·unfold ZlL
  rw [<- List.map_drop, <- List.map_take]
 ·rw [Zax, ZaK]
  omega
theorem _root_.BO.Internal.Ls.new {H : Hp} {l : List Addr} {m : List (List V)} {a : Addr} (c : List V) (L : Ls H l m) (nd : l.Nodup) (h : H a = none) : Ls (upd H a (.lst c)) (a :: l) (c :: m) /\ (a :: l).Nodup :=
 ⟨.cons Zdt (L.same (Zdz h _)), Zat.mpr ⟨fun m => (by obtain ⟨c, e⟩ := L.mem m; rw [h] at e; cases e), nd⟩⟩
noncomputable def Mk3.d (m : Mk3) : Dt := Mkg.d (mkg m.f m.a m.p)
structure Th (H : Hp) (th q0 q1 q2 q3 : Addr) (pts : List Int) (ms : List Mk3) (us : List Us) (fs : List (Int × Int)) : Prop where
 t : H th = some (.lst [.ref q0, .ref q1, .ref q2, .ref q3])
 p : H q0 = some (.lst (pts.map V.int))
 m : ∃ mv, H q1 = some (.lst mv) /\ Ims H mv (ms.map Mk3.d)
 u : ∃ uv, H q2 = some (.lst uv) /\ Ims H uv (us.map Us.d)
 f : ∃ fv, H q3 = some (.lst fv) /\ Ims H fv (fs.map flD)
theorem Th.same {H H' : Hp} {th q0 q1 q2 q3 : Addr} {pts : List Int} {ms : List Mk3} {us : List Us} {fs : List (Int × Int)} (h : Th H th q0 q1 q2 q3 pts ms us fs) (s : ZdN H H') : Th H' th q0 q1 q2 q3 pts ms us fs := by
 obtain ⟨t, p, ⟨mv, m1, m2⟩, ⟨uv, u1, u2⟩, ⟨fv, f1, f2⟩⟩ := h
 have tk := ZdN.tk s
 exact ⟨s _ _ t, s _ _ p, ⟨mv, s _ _ m1, m2.mono tk⟩, ⟨uv, s _ _ u1, u2.mono tk⟩, ⟨fv, s _ _ f1, f2.mono tk⟩⟩
def midT (H : Hp) (a : Addr) : St -> Hp -> Prop := fun σ' H' => ∃ (wl : Addr) (st N : Int), σ' = [some (.ref a), some (.ref wl), some (.int st), some (.int N), none, none, none] /\ ZdN H H' /\ Wd H' wl /\ 0 < N /\ N <= 40
theorem Zm7 {ts : List Int} {i : Nat} {x : V} (h : (ts.map V.int)[i]? = some x) : i < ts.length /\ ∃ n : Int, x = .int n := by
 have hi := (Zaj.mp h).1
 rw [Zar] at hi
 rw [ZaA] at h
 cases e : ts[i]? with
 | none => rw [e] at h; cases h
 | some m => rw [e] at h; exact ⟨hi, m, (Zce.inj h).symm⟩
section
variable {P : Program} {w : World} {K : PySem.W.Frag} {mg : Str -> Option Value} {base : Heap}
structure Dr (H H2 : Hp) (sc th q0 q1 q2 q3 wl : Addr) (ts : List Int) (pts : List Int) (N : Int) (i : Nat) (mv uv fv : List V) (ms : List Mk3) (us : List Us) (fs : List (Int × Int)) : Prop where
 s : ZdN H H2
 w : Wd H2 wl
 wf : H wl = none \/ True
 l : Ls H2 [sc, th, q3, q2, q1, q0] [ts.map V.int, [.ref q0, .ref q1, .ref q2, .ref q3], fv, uv, mv, pts.map V.int]
 nd : [sc, th, q3, q2, q1, q0].Nodup
 f3 : H q3 = none
 f2 : H q2 = none
 f1 : H q1 = none
 w3 : wl ∉ [q3, q2, q1]
 im : Ims H2 mv (ms.map Mk3.d)
 iu : Ims H2 uv (us.map Us.d)
 if_ : Ims H2 fv (fs.map flD)
 lm : ms.length <= i
 lu : us.length <= i
 lf : fs.length <= i
 mo : ∀ m ∈ ms, m.f.ok /\ m.f.rng N /\ InR N m.a
 uo : ∀ u ∈ us, u.ok /\ u.dist /\ u.rng N
 fo : ∀ p ∈ fs, InR N p.1 /\ InR N p.2
theorem Zi2 {α : Type} {l : List α} {a : α} {F : α -> Prop} (h : ∀ x ∈ l, F x) (ha : F a) : ∀ x ∈ l ++ [a], F x := fun x hx => by
 rcases Zah.mp hx with z | z
 ·exact h x z
 ·simp only [ZaS] at z
  rw [z]
  exact ha
section
variable {H H2 H3 : Hp} {sc th q0 q1 q2 q3 wl : Addr} {ts pts : List Int} {N : Int} {i : Nat} {mv uv fv : List V} {ms : List Mk3} {us : List Us} {fs : List (Int × Int)}
theorem Dr.same (d : Dr H H2 sc th q0 q1 q2 q3 wl ts pts N i mv uv fv ms us fs) (s : ZdN H2 H3) : Dr H H3 sc th q0 q1 q2 q3 wl ts pts N i mv uv fv ms us fs :=
 ⟨d.s.trans s, d.w.same s, d.wf, d.l.same s, d.nd, d.f3, d.f2, d.f1, d.w3, d.im.mono (ZdN.tk s), d.iu.mono (ZdN.tk s), d.if_.mono (ZdN.tk s), d.lm, d.lu, d.lf, d.mo, d.uo, d.fo⟩
theorem Zm8 {a : Addr} {o : HO} (h : Wd H2 wl) (n : wl ≠ a) : Wd (upd H2 a o) wl := by
 obtain ⟨ws, e, z⟩ := h
 exact ⟨ws, by rw [ZdA n]; exact e, z⟩
theorem Dr.addF (d : Dr H H2 sc th q0 q1 q2 q3 wl ts pts N i mv uv fv ms us fs) {v : V} {p : Int × Int} (hv : Im H2 v (flD p)) (hp : InR N p.1 /\ InR N p.2) : Dr H (upd H2 q3 (.lst (fv ++ [v]))) sc th q0 q1 q2 q3 wl ts pts N (i + 1) mv uv (fv ++ [v]) ms us (fs ++ [p]) := by
 have k : FK H2 (upd H2 q3 (.lst (fv ++ [v]))) := Zid (d.l.at (i := 2) (a := q3) rfl rfl)
 refine ⟨ZfV d.s d.f3 _, Zm8 d.w (fun z => d.w3 (by simp [z])), d.wf, d.l.put (c := fv ++ [v]) d.nd (i := 2) (a := q3) rfl, d.nd, d.f3, d.f2, d.f1, d.w3, d.im.mono k.tk, d.iu.mono k.tk, ?_, ZbV d.lm, ZbV d.lu, by rw [ZaC]; exact ZbT d.lf, d.mo, d.uo, Zi2 d.fo hp⟩
 rw [ZaO]
 exact (d.if_.mono k.tk).app (.cons (hv.mono k.tk) .nil)
theorem Dr.addU (d : Dr H H2 sc th q0 q1 q2 q3 wl ts pts N i mv uv fv ms us fs) {v : V} {u : Us} (hv : Im H2 v u.d) (hu : u.ok /\ u.dist /\ u.rng N) : Dr H (upd H2 q2 (.lst (uv ++ [v]))) sc th q0 q1 q2 q3 wl ts pts N (i + 1) mv (uv ++ [v]) fv ms (us ++ [u]) fs := by
 have k : FK H2 (upd H2 q2 (.lst (uv ++ [v]))) := Zid (d.l.at (i := 3) (a := q2) rfl rfl)
 refine ⟨ZfV d.s d.f2 _, Zm8 d.w (fun z => d.w3 (by simp [z])), d.wf, d.l.put (c := uv ++ [v]) d.nd (i := 3) (a := q2) rfl, d.nd, d.f3, d.f2, d.f1, d.w3, d.im.mono k.tk, ?_, d.if_.mono k.tk, ZbV d.lm, by rw [ZaC]; exact ZbT d.lu, ZbV d.lf, d.mo, Zi2 d.uo hu, d.fo⟩
 rw [ZaO]
 exact (d.iu.mono k.tk).app (.cons (hv.mono k.tk) .nil)
theorem Dr.addM (d : Dr H H2 sc th q0 q1 q2 q3 wl ts pts N i mv uv fv ms us fs) {v : V} {m : Mk3} (hv : Im H2 v m.d) (hm : m.f.ok /\ m.f.rng N /\ InR N m.a) : Dr H (upd H2 q1 (.lst (mv ++ [v]))) sc th q0 q1 q2 q3 wl ts pts N (i + 1) (mv ++ [v]) uv fv (ms ++ [m]) us fs := by
 have k : FK H2 (upd H2 q1 (.lst (mv ++ [v]))) := Zid (d.l.at (i := 4) (a := q1) rfl rfl)
 refine ⟨ZfV d.s d.f1 _, Zm8 d.w (fun z => d.w3 (by simp [z])), d.wf, d.l.put (c := mv ++ [v]) d.nd (i := 4) (a := q1) rfl, d.nd, d.f3, d.f2, d.f1, d.w3, ?_, d.iu.mono k.tk, d.if_.mono k.tk, by rw [ZaC]; exact ZbT d.lm, ZbV d.lu, ZbV d.lf, Zi2 d.mo hm, d.uo, d.fo⟩
 rw [ZaO]
 exact (d.im.mono k.tk).app (.cons (hv.mono k.tk) .nil)
end
def Zh1 (K : PySem.W.Frag) : Sp := fun vs H Q _ => ∃ (a : Addr) (ns : List Int), vs = [.ref a] /\ SqL K H a (ns.map V.int) /\ ns.length <= 63 /\ ∀ (th q0 q1 q2 q3 : Addr) (N : Int) (pts : List Int) (ms : List Mk3) (us : List Us) (fs : List (Int × Int)) (H' : Hp), ZdN H H' -> Th H' th q0 q1 q2 q3 pts ms us fs -> Dat N ms us fs -> (∀ u ∈ us, u.ok) -> pts.length <= 64 -> (pts.length : Int) = N -> N <= 40 -> ms.length <= 61 -> Q (.ref th) H'
theorem Zh2 (T : Txt K mg) : Zfi P w K mg base CX0 4 T.a_things T.fd_things ["_law_script"] (Zh1 K) := by
 have G_pick := ZfJ (P := P) (w := w) (base := base) T
 have G_words := ZiX (P := P) (w := w) (base := base) T
 have G_make := ZjX (P := P) (w := w) (base := base) T
 have G_use := Zkr (P := P) (w := w) (base := base) T
 refine T.F_things.ok Zeg (fun vs H Q E h => ?_) (fun cdv A outer s H vs Q E hr h => ?_)
 ·obtain ⟨a, ns, rfl, _⟩ := h
  rfl
 obtain ⟨a, ns, rfl, hsq, hlen, q⟩ := h
 refine ⟨_, (Zdw (Zd1 (i := 1) Zeg.nd rfl (.inl rfl) (ZdM G_words (hr.mono (by decide)) rfl T.m_words T.k_words T.b_words .nil ZdR (Zds (Zd0 (Zhz rfl) rfl T.z_sum Zmc (Zds (Zgl Zit (cv 0) Zir (Zf5 Zdv)) Zdu)) Zdu)))
  (Zdw (Zd1 (i := 2) Zeg.nd rfl (.inr rfl) (Zd0 (Zhz rfl) rfl T.z_sum Zmc (Zds (Zgl Zit (cv 0) (Zf5 Zdv) (Zf5 Zdv)) Zdu)))
  (Zdw (Zd1 (i := 3) Zeg.nd rfl (.inl rfl) (Zep ZgP Zdv (ZdM G_pick (hr.mono (by decide)) rfl T.m_pick T.k_pick T.b_pick .nil ZdR (Zds (cv 2) (Zds Zdv (Zds Zdv Zdu))))))
  (ZoV (midT H a) (Zez (ZdQ Zft (ZdM G_pick (hr.mono (by decide)) rfl T.m_pick T.k_pick T.b_pick .nil ZdR (Zds (cv 2) (Zds Zdv (Zds Zdv Zdu)))) Zdv (Zd3 _))
   (ZdB (Zd1 (i := 3) Zeg.nd rfl (.inl rfl) (Zep ZgP Zdv (ZdM G_pick (hr.mono (by decide)) rfl T.m_pick T.k_pick T.b_pick .nil ZdR (Zds (cv 2) (Zds Zdv (Zds Zdv Zdu)))))))
   ZdS)
  (Zdw (Zd1 (i := 4) Zeg.nd rfl (.inl rfl) (Zem (Zds (Zjw rfl (Zod (x := "_law_k") ["_law_start"] [("_law_start", 2, s.heap.objs.size + 1)] rfl rfl (by decide +kernel) (by decide +kernel) rfl (by decide +kernel) rfl rfl (by intro p hp; simp only [Zag, ZaV, or_false] at hp; rcases hp with rfl <;> exact ⟨rfl, rfl, rfl, rfl⟩)) (Zf4 rfl T.z_range (Zds (cv 3) Zdu)) (fun _ _ _ _ _ => ZfS) (fun _ _ _ _ _ => (ZdM G_pick (hr.mono (by decide)) rfl T.m_pick T.k_pick T.b_pick .nil ZdR (Zds (Zep ZgP (cv 1) (Zep Zjz Zdv (cv 0))) (Zds (Zep ZfH (cv 0) Zdv) (Zds Zdv Zdu)))))) (Zds (Zem Zdu) (Zds (Zem Zdu) (Zds (Zem Zdu) Zdu))))))
  (Zdw (Ze3 PassesOwn.never rfl (Zen (Zgl Zit (cv 0) (Zf5 Zdv) (Zf5 Zdv))) (Zeb (i := 5) Zeg.nd rfl (.inl rfl))
   (Zdw (Zd1 (i := 6) Zeg.nd rfl (.inl rfl) (ZdM G_pick (hr.mono (by decide)) rfl T.m_pick T.k_pick T.b_pick .nil ZdR (Zds (cv 5) (Zds Zdv (Zds Zdv Zdu)))))
   (ZdB (Zez (ZdQ Zo3 (cv 6) Zdv (Zd3 _))
    (ZdB (ZdT (ZfK (ZgB ZcU ZcV ZcW Zea (PE.mono (ZdF ZdK (cv 4) Zdv (fun _ _ => rfl))) (Zds (PE.mono (Zel (Zds (ZdM G_pick (hr.mono (by decide)) rfl T.m_pick T.k_pick T.b_pick .nil ZdR (Zds (cv 5) (Zds Zdv (Zds (cv 3) Zdu)))) (Zds (ZdM G_pick (hr.mono (by decide)) rfl T.m_pick T.k_pick T.b_pick .nil ZdR (Zds (cv 5) (Zds Zdv (Zds (cv 3) Zdu)))) Zdu)))) Zdu)))))
    (ZdB (Zez (ZdQ Zo3 (cv 6) Zdv (Zd3 _))
     (ZdB (ZdT (ZfK (ZgB ZcU ZcV ZcW Zea (PE.mono (ZdF ZdK (cv 4) Zdv (fun _ _ => rfl))) (Zds (PE.mono (ZdM G_make (hr.mono (by decide)) rfl T.m_make T.k_make T.b_make .nil ZdR (Zds (cv 1) (Zds (cv 5) (Zds (cv 3) Zdu))))) Zdu)))))
     (ZdB (ZdT (ZfK (ZgB ZcU ZcV ZcW Zea (PE.mono (ZdF ZdK (cv 4) Zdv (fun _ _ => rfl))) (Zds (PE.mono (ZdM G_use (hr.mono (by decide)) rfl T.m_use T.k_use T.b_use .nil ZdR (Zds (cv 1) (Zds (cv 5) (Zds (cv 3) Zdu))))) Zdu)))))))))))
  (ZdB (ZdO (cv 4))))))))), ?_⟩
 have sl : sizeLine = 16777216 := sizeLine_eq
 have z0 : (0 : Nat) <= sizeLine := by decide
 obtain ⟨ms0, em, _⟩ := Zhr ns none (some 1)
 obtain ⟨ms1, em1, _⟩ := Zhr ns (some 1) (some 2)
 obtain ⟨ts, et, lt⟩ := Zhr ns (some 2) (some 82)
 have lt2 : ts.length <= 61 := by
  have := congrArg Zaw et
  rw [Zar] at this
  rw [<- this]
  unfold ZlL
  rw [show (2 : Int) = ((2 : Nat) : Int) from rfl, HT.Internal.sIx_nat, Zax, ZaK, Zar]
  omega
 refine ⟨_, rfl, a, _, rfl, hsq, fun c1 hc1 => ⟨c1, ms0, rfl, SqL.of (by rw [Zdt, em]), fun n0 => ⟨n0, rfl, fun wl Hw sw _ ww => ?_⟩⟩⟩
 have Sw : ZdN H Hw := (Zdz hc1 _).trans sw
 refine ⟨_, rfl, _, rfl, a, _, rfl, Sw.seq hsq, fun c2 hc2 => ⟨c2, ms1, rfl, SqL.of (by rw [Zdt, em1]), fun st => ?_⟩⟩
 have S2 := Zdz hc2 (.lst (ZlL (ns.map V.int) (some 1) (some 2)))
 have Sv := Sw.trans S2
 have ww2 := ww.same S2
 dsimp only [Ze9]
 generalize upd Hw c2 (.lst (ZlL (ns.map V.int) (some 1) (some 2))) = H1 at Sv ww2 ⊢
 refine ⟨st, 0, 12, rfl, by decide, by decide, by decide, fun n1 H2 S2 a0 a1 => ⟨⟨st, 1, 8, rfl, by decide, by decide, by decide, fun n2 H3 S3 _ _ => ?_⟩, ?_⟩⟩
 ·dsimp only [tC, cEq, onB]
  refine ZqS (fun _ => ?_) (fun _ => ?_)
  ·exact ⟨st, 2, 40, rfl, by decide, by decide, by decide, fun n3 H4 S4 b0 b1 => ⟨wl, st, 1 + n3, rfl, ((Sv.trans S2).trans S3).trans S4, ww2.same ((S2.trans S3).trans S4), by omega, by omega⟩⟩
  ·exact ⟨wl, st, 1 + n1, rfl, (Sv.trans S2).trans S3, ww2.same (S2.trans S3), by omega, by omega⟩
 rintro σ H3 ⟨wl, st, N, rfl, S, ww, hN0, hN1⟩
 refine ⟨N, rfl, by omega, by omega, fun q0 hq0 => ?_⟩
 refine Zhd N.toNat (by omega) (fun xs _ => ∃ ns : List Int, xs = ns.map V.int) (fun xs _ _ h _ => h) hq0 rfl (fun k H2 _ hk => hk) (fun H2 _ => ZbK _) ⟨[], rfl⟩ ?_ ?_
 ·rintro k H4 v H5 xs Z S4 hk ⟨rfl, rfl⟩ ⟨ms, hms⟩ hl z
  refine ⟨.inl ⟨by decide, by decide⟩, (by show (0 : Int) < 9; decide), _, _, 160, rfl, Zdi _ (by decide), Zdj _ (by decide), by decide, fun n H5 S5 _ _ => z _ _ S5 ⟨ms ++ [n], by rw [hms, ZaO]; rfl⟩⟩
 rintro H4 xs S4 ⟨pts, rfl⟩ hl e0
 rw [Zar] at hl
 refine ⟨z0, fun q1 h1 => ⟨z0, fun q2 h2 => ⟨z0, fun q3 h3 => ⟨(by show 4 <= sizeLine; decide), fun th hth => ?_⟩⟩⟩⟩
 obtain ⟨L1, N1⟩ := Ls.new [] (Ls.cons e0 .nil) (by simp) h1
 obtain ⟨L2.Internal, N2⟩ := Ls.new [] L1 N1 h2
 obtain ⟨L3, N3⟩ := Ls.new [] L2.Internal N2 h3
 obtain ⟨L4, N4⟩ := Ls.new [.ref q0, .ref q1, .ref q2, .ref q3] L3 N3 hth
 have s1 := Zdz h1 (.lst [])
 have s2 := Zdz h2 (.lst [])
 have s3 := Zdz h3 (.lst [])
 have s4 := Zdz hth (.lst [.ref q0, .ref q1, .ref q2, .ref q3])
 have SS : ZdN H4 _ := ((s1.trans s2).trans s3).trans s4
 have S5 := (S.trans S4).trans SS
 have ww5 := (ww.same S4).same SS
 have f1 : H4 q1 = none := h1
 have f2 : H4 q2 = none := s1.free h2
 have f3 : H4 q3 = none := (s1.trans s2).free h3
 have nw : ∀ x, H4 x = none -> wl ≠ x := fun x hx z => by
  obtain ⟨ws, ew, _⟩ := ww.same S4
  rw [z, hx] at ew
  cases ew
 dsimp only [Ze9]
 refine ⟨_, rfl, _, rfl, a, _, rfl, S5.seq hsq, fun sc hsc => ?_⟩
 obtain ⟨L5, N5⟩ := Ls.new (ZlL (ns.map V.int) (some 2) (some 82)) L4 N4 hsc
 rw [et] at *
 have s5 := Zdz hsc (.lst (ts.map V.int))
 have D0 : Dr H _ sc th q0 q1 q2 q3 wl ts pts N 0 [] [] [] [] [] [] := ⟨S5.trans s5, ww5.same s5, .inr trivial, L5, N5, (S.trans S4).free f3, (S.trans S4).free f2, (S.trans S4).free f1, by simp only [Zag, ZaV, or_false, not_or]; exact ⟨nw _ f3, nw _ f2, nw _ f1⟩, .nil, .nil, .nil, ZbK _, ZbK _, ZbK _, fun _ h => absurd h ZaV, fun _ h => absurd h ZaV, fun _ h => absurd h ZaV⟩
 refine ⟨sc, rfl, ⟨_, SqL.of Zdt⟩, Zeo (xs := ts.map V.int) (fun i σ H2 => ∃ (o5 o6 : Option V) (mv uv fv : List V) (ms : List Mk3) (us : List Us) (fs : List (Int × Int)), σ = [some (.ref a), some (.ref wl), some (.int st), some (.int N), some (.ref th), o5, o6] /\ Dr H H2 sc th q0 q1 q2 q3 wl ts pts N i mv uv fv ms us fs)
  ⟨none, none, [], [], [], [], [], [], rfl, D0⟩ (fun i σ H2 _ ⟨_, _, _, _, _, _, _, _, _, d⟩ => SqL.of (d.l.at (i := 0) (a := sc) rfl rfl)) ?_ ?_⟩
 ·rintro i x σ H2 hx ⟨o5, o6, mv, uv, fv, ms, us, fs, rfl, d⟩
  obtain ⟨hi, n, rfl⟩ := Zm7 hx
  have li : i <= 63 := by omega
  refine ⟨n, 0, 8, rfl, by decide, by decide, by decide, fun so H3 S3 _ _ => ?_⟩
  have d3 := d.same S3
  have et3 := d3.l.at (i := 1) (a := th) rfl rfl
  dsimp only [Ze9, tC, cI0, onB]
  refine ZqS (fun _ => ?_) (fun _ => ZqS (fun _ => ?_) (fun _ => ?_))
  ·refine ⟨_, et3, ZdC (Zdy (j := 3) rfl) ⟨⟨_, d3.l.at (i := 2) (a := q3) rfl rfl⟩, n, 1, N, rfl, by decide, by decide, hN0, fun x H4 S4 x0 x1 => ⟨n, 2, N, rfl, by decide, by decide, hN0, fun y H5 S5 y0 y1 => ⟨(by show 2 <= sizeLine; decide), fun t ht => ?_⟩⟩⟩⟩
   have d6 := ((d3.same S4).same S5).same (Zdz ht (.tup [.int x, .int y]))
   have fl := d6.if_.length
   rw [Zar] at fl
   have := d6.lf
   exact ⟨fv, d6.l.at (i := 2) (a := q3) rfl rfl, by omega, _, _, _, _, _, _, _, _, rfl, d6.addF (p := (x, y)) (.tup Zdt (.cons (.flat rfl) (.cons (.flat rfl) .nil))) ⟨⟨x0, x1⟩, ⟨y0, y1⟩⟩⟩
  ·refine ⟨_, et3, ZdC (Zdy (j := 1) rfl) ⟨⟨_, d3.l.at (i := 4) (a := q1) rfl rfl⟩, wl, n, N, rfl, d3.w, hN0, fun v m ma mp H4 S4 ok rg ra hv => ?_⟩⟩
   have d6 := d3.same S4
   have fl := d6.im.length
   rw [Zar] at fl
   have := d6.lm
   exact ⟨mv, d6.l.at (i := 4) (a := q1) rfl rfl, by omega, _, _, _, _, _, _, _, _, rfl, d6.addM (m := ⟨m, ma, mp⟩) hv ⟨ok, rg, ra⟩⟩
  ·refine ⟨_, et3, ZdC (Zdy (j := 2) rfl) ⟨⟨_, d3.l.at (i := 3) (a := q2) rfl rfl⟩, wl, n, N, rfl, d3.w, hN0, fun v u H4 S4 ok di rg hv => ?_⟩⟩
   have d6 := d3.same S4
   have fl := d6.iu.length
   rw [Zar] at fl
   have := d6.lu
   exact ⟨uv, d6.l.at (i := 3) (a := q2) rfl rfl, by omega, _, _, _, _, _, _, _, _, rfl, d6.addU (u := u) hv ⟨ok, di, rg⟩⟩
 ·rintro σ H2 ⟨o5, o6, mv, uv, fv, ms, us, fs, rfl, d⟩
  have l1 := d.lm
  have l2 := d.lu
  have l3 := d.lf
  rw [Zar] at l1 l2 l3
  exact q th q0 q1 q2 q3 N pts ms us fs H2 d.s ⟨d.l.at (i := 1) (a := th) rfl rfl, d.l.at (i := 5) (a := q0) rfl rfl, ⟨mv, d.l.at (i := 4) (a := q1) rfl rfl, d.im⟩, ⟨uv, d.l.at (i := 3) (a := q2) rfl rfl, d.iu⟩, ⟨fv, d.l.at (i := 2) (a := q3) rfl rfl, d.if_⟩⟩
   ⟨hN0, by omega, by omega, by omega, by omega, d.mo, fun u hu => (d.uo u hu).2, d.fo⟩ (fun u hu => (d.uo u hu).1) (by omega) (by omega) hN1 (by omega)
end
section
variable {P : Program} {w : World} {K : PySem.W.Frag} {mg : Str -> Option Value} {base : Heap}
theorem Zk9 {H : Hp} : ∀ {mv : List V} {ms : List Mk3} {i : Nat} {v : V}, Ims H mv (ms.map Mk3.d) -> mv[i]? = some v -> ∃ m t f, ms[i]? = some m /\ v = .ref t /\ H t = some (.tup [.str m.f.s, f, .int m.a, .int m.p]) /\ Im H f m.f.f
 | _, [], _, _, .nil, e => by simp at e
 | _, m :: ms, 0, v, .cons h _, e => by
  cases e
  obtain ⟨t, xs, rfl, e, hs⟩ := ZfO h
  cases hs with
  | cons h1 hs =>
   cases h1
   cases hs with
   | cons h2 hs =>
    obtain rfl := Zpr hs
    exact ⟨m, t, _, rfl, rfl, e, h2⟩
 | _, m :: ms, i + 1, v, .cons _ t, e => by
  rw [ZaX] at e
  obtain ⟨q, u, f, e1, e2⟩ := Zk9 t e
  exact ⟨q, u, f, by rw [ZaX]; exact e1, e2⟩
theorem Zla {H : Hp} : ∀ {uv : List V} {us : List Us} {i : Nat} {v : V}, Ims H uv (us.map Us.d) -> uv[i]? = some v -> ∃ u, us[i]? = some u /\ Im H v u.d
 | _, [], _, _, .nil, e => by simp at e
 | _, m :: ms, 0, v, .cons h _, e => by cases e; exact ⟨m, rfl, h⟩
 | _, m :: ms, i + 1, v, .cons _ t, e => by
  rw [ZaX] at e
  obtain ⟨q, e1, e2⟩ := Zla t e
  exact ⟨q, by rw [ZaX]; exact e1, e2⟩
structure Bf (c : Cs) (H H2 : Hp) (b bx p0 p1 p2 p3 : Addr) (xs mv uv fv : List V) (ms : List Mk3) (us : List Us) (fs : List (Int × Int)) : Prop where
 s : ZdN H H2
 b : H2 b = some (.ins c.B bx (fB p0 p1 p2 p3 (.int 0)))
 l : Ls H2 [p0, p1, p2, p3] [xs, mv, uv, fv]
 nd : [p0, p1, p2, p3].Nodup
 f : ∀ a ∈ [p0, p1, p2, p3], H a = none
 m : Zgp (M3 c H2) mv ms
 u : Zgp (UsAt c H2) uv us
 i : Ims H2 fv (fs.map flD)
section
variable {c : Cs} {H H2 H3 : Hp} {b bx p0 p1 p2 p3 : Addr} {xs mv uv fv : List V} {ms : List Mk3} {us : List Us} {fs : List (Int × Int)}
theorem Bf.same (B : Bf c H H2 b bx p0 p1 p2 p3 xs mv uv fv ms us fs) (s : ZdN H2 H3) : Bf c H H3 b bx p0 p1 p2 p3 xs mv uv fv ms us fs :=
 ⟨B.s.trans s, s _ _ B.b, B.l.same s, B.nd, B.f, B.m.imp fun _ _ => Zic.mono (ZdN.fk s), B.u.imp fun _ _ => UsAt.mono (ZdN.fk s), B.i.mono (ZdN.tk s)⟩
theorem Bf.put (B : Bf c H H2 b bx p0 p1 p2 p3 xs mv uv fv ms us fs) {j : Nat} {a : Addr} {ys zs : List V} (ha : [p0, p1, p2, p3][j]? = some a) (hy : [xs, mv, uv, fv][j]? = some ys) :
  FK H2 (upd H2 a (.lst zs)) /\ ZdN H (upd H2 a (.lst zs)) /\ (upd H2 a (.lst zs)) b = some (.ins c.B bx (fB p0 p1 p2 p3 (.int 0))) /\ Ls (upd H2 a (.lst zs)) [p0, p1, p2, p3] ([xs, mv, uv, fv].set j zs) := by
 have e := B.l.at ha hy
 exact ⟨Zid e, ZfV B.s (B.f a (ZaB ha)) _, by rw [ZdA (ZdY B.b e (fun h => nomatch h))]; exact B.b, B.l.put B.nd ha⟩
end
def Zi3 (c : Cs) : Sp := fun vs H Q _ => ∃ (th q0 q1 q2 q3 : Addr) (pts : List Int) (ms : List Mk3) (us : List Us) (fs : List (Int × Int)), vs = [.ref th] /\ Th H th q0 q1 q2 q3 pts ms us fs /\ (∀ m ∈ ms, m.f.ok) /\ (∀ u ∈ us, u.ok) /\ pts.length <= 64 /\ ms.length <= 64 /\ us.length <= 64 /\ fs.length <= 64 /\
 ∀ (b bx p0 p1 p2 p3 : Addr) (mv uv fv : List V) (H' : Hp), ZdN H H' -> H' b = some (.ins c.B bx (fB p0 p1 p2 p3 (.int 0))) -> H' p0 = some (.lst (pts.map V.int)) -> H' p1 = some (.lst mv) -> Zgp (M3 c H') mv ms -> H' p2 = some (.lst uv) -> Zgp (UsAt c H') uv us -> H' p3 = some (.lst fv) -> Ims H' fv (fs.map flD) -> Q (.ref b) H'
theorem ZgY {α : Type} {l : List α} {i : Nat} {a : α} (h : l[i]? = some a) : l.take (i + 1) = l.take i ++ [a] := by
 rw [Zbj, h]
 rfl
theorem Zi4 (T : Txt K mg) : Zfi P w K mg base CX0 5 T.a_board T.fd_board ["_law_things_here"] (Zi3 (cs T)) := by
 have G_Board___init__ := Zg9 (P := P) (w := w) (base := base) T
 have G_Board_point := ZhZ (P := P) (w := w) (base := base) T
 have G_Board_make := ZiS (P := P) (w := w) (base := base) T
 have G_Board_use := ZjT (P := P) (w := w) (base := base) T
 have G_Board_flow := ZiU (P := P) (w := w) (base := base) T
 have G_using := Zi1 (P := P) (w := w) (base := base) T
 refine T.F_board.ok Ze2 (fun vs H Q E h => ?_) (fun cdv A outer s H vs Q E hr h => ?_)
 ·obtain ⟨th, q0, q1, q2, q3, pts, ms, us, fs, rfl, _⟩ := h
  rfl
 obtain ⟨th, q0, q1, q2, q3, pts, ms, us, fs, rfl, hT, mo, uo, lp, lm, lu, lf, q⟩ := h
 refine ⟨_, (Zdw (Zd1 (i := 1) Ze2.nd rfl (.inl rfl) (Zns T.mk_Board G_Board___init__ (hr.mono (by decide)) rfl T.m_Board T.b_Board___init__ .nil ZdR))
  (Zdw (Ze3 PassesOwn.never rfl (Zen (ZdF ZdK (cv 0) Zdv (fun _ _ => rfl))) (Zeb (i := 2) Ze2.nd rfl (.inl rfl))
   (ZdB (ZdT (Zef (ZeD (PE.mono (cv 1)) T.cl_Board T.me_Board_point G_Board_point (hr.mono (by decide)) T.b_Board_point .nil ZdR (Zds (cv 2) Zdu))))))
  (Zdw (Ze3 PassesOwn.never rfl (Zen (ZdF ZdK (cv 0) Zdv (fun _ _ => rfl))) (Zeb (i := 3) Ze2.nd rfl (.inl rfl))
   (ZdB (ZdT (Zef (ZeD (PE.mono (cv 1)) T.cl_Board T.me_Board_make G_Board_make (hr.mono (by decide)) T.b_Board_make .nil ZdR (Zds (ZdF ZdG (cv 3) Zdv (fun _ _ => rfl)) (Zds (ZdF ZdG (cv 3) Zdv (fun _ _ => rfl)) (Zds (ZdF ZdG (cv 3) Zdv (fun _ _ => rfl)) (Zds (ZdF ZdG (cv 3) Zdv (fun _ _ => rfl)) Zdu)))))))))
  (Zdw (Ze3 PassesOwn.never rfl (Zen (ZdF ZdK (cv 0) Zdv (fun _ _ => rfl))) (Zeb (i := 4) Ze2.nd rfl (.inl rfl))
   (ZdB (ZdT (Zef (ZeD (PE.mono (cv 1)) T.cl_Board T.me_Board_use G_Board_use (hr.mono (by decide)) T.b_Board_use .nil ZdR (Zds (ZdM G_using (hr.mono (by decide)) rfl T.m_using T.k_using T.b_using .nil ZdR (Zds (cv 4) Zdu)) Zdu))))))
  (Zdw (Ze3 PassesOwn.never rfl (Zen (ZdF ZdK (cv 0) Zdv (fun _ _ => rfl))) (Zeb (i := 5) Ze2.nd rfl (.inl rfl))
   (ZdB (ZdT (Zef (ZeD (PE.mono (cv 1)) T.cl_Board T.me_Board_flow G_Board_flow (hr.mono (by decide)) T.b_Board_flow .nil ZdR (Zds (ZdF ZdG (cv 5) Zdv (fun _ _ => rfl)) (Zds (ZdF ZdG (cv 5) Zdv (fun _ _ => rfl)) Zdu)))))))
  (ZdB (ZdO (cv 1)))))))), ?_⟩
 have sl : sizeLine = 16777216 := sizeLine_eq
 obtain ⟨et, ep, ⟨mv0, em, im⟩, ⟨uv0, eu, iu⟩, ⟨fv0, ef, if_⟩⟩ := hT
 have lmv := im.length
 have luv := iu.length
 have lfv := if_.length
 rw [Zar] at lmv luv lfv
 refine fun b bx hb hbx _ => ⟨b, bx, rfl, Zdt, fun p0 p1 p2 p3 H1 fr nd eb L k => ⟨rfl, ?_⟩⟩
 have S1 : ZdN H (upd (upd H bx (.own b)) b (.ins (cs T).B bx [])) := Zey hb hbx
 have SH : ZdN H H1 := fun a o e => k a o (S1 a o e) (ZdD e hb)
 have B0 : Bf (cs T) H H1 b bx p0 p1 p2 p3 [] [] [] [] [] [] [] := ⟨SH, eb, L, nd, fun a ha => S1.free (fr a ha), .nil, .nil, .nil⟩
 have no : ∀ {x : Str}, x ∉ (["points", "makes", "uses", "flows", "root"] : List Str) -> (fB p0 p1 p2 p3 (.int 0)).lookup x = none := fun {x} h => by
  simp only [Zag, ZaV, or_false, not_or] at h
  have f : ∀ {a b : Str}, ¬ a = b -> (a == b) = false := fun {a b} h => by simp [h]
  exact (ZeJ (f h.1)).trans ((ZeJ (f h.2.1)).trans ((ZeJ (f h.2.2.1)).trans ((ZeJ (f h.2.2.2.1)).trans ((ZeJ (f h.2.2.2.2)).trans rfl))))
 dsimp only [Ze9]
 refine ⟨_, SH _ _ et, ZdC (Zdy (j := 0) rfl) ⟨q0, rfl, ⟨_, SqL.of (SH _ _ ep)⟩, Zeo (xs := pts.map V.int) (fun i σ H2 => ∃ (o2 : Option V) (xs : List V), σ = [some (.ref th), some (.ref b), o2, none, none, none] /\ xs.length = i /\ xs = (pts.take i).map V.int /\ Bf (cs T) H H2 b bx p0 p1 p2 p3 xs [] [] [] [] [] [])
  ⟨none, [], rfl, rfl, rfl, B0⟩ (fun i σ H2 _ ⟨_, _, _, _, _, B⟩ => SqL.of (B.s _ _ ep)) ?_ ?_⟩⟩
 ·rintro i v σ H2 hv ⟨o2, xs, rfl, hx, hxe, B⟩
  obtain ⟨hi, n, rfl⟩ := Zm7 hv
  have hn : pts[i]? = some n := by
   rw [ZaA] at hv
   obtain ⟨m, h1, h2⟩ := Zch.mp hv
   cases h2
   exact h1
  obtain ⟨k1, s1, b1, l1⟩ := B.put (j := 0) (zs := xs ++ [.int n]) rfl rfl
  refine ⟨⟨_, _, B.b, no (by decide +kernel)⟩, b, bx, p0, p1, p2, p3, _, .int n, xs, rfl, B.b, B.l.at (i := 0) (a := p0) rfl rfl, by omega, _, xs ++ [V.int n], rfl, by rw [ZaC, hx]; rfl, by rw [hxe, ZgY hn, ZaO]; rfl, s1, b1, l1, B.nd, B.f, .nil, .nil, .nil⟩
 rintro σ H2 ⟨o2, xs, rfl, hx, hxe, B⟩
 rw [Zar, ZaP] at hxe
 refine ⟨_, B.s _ _ et, ZdC (Zdy (j := 1) rfl) ⟨q1, rfl, ⟨_, SqL.of (B.s _ _ em)⟩, Zeo (xs := mv0) (fun i σ H2 => ∃ (o3 : Option V) (mv : List V), σ = [some (.ref th), some (.ref b), o2, o3, none, none] /\ Bf (cs T) H H2 b bx p0 p1 p2 p3 xs mv [] [] (ms.take i) [] [])
  ⟨none, [], rfl, B⟩ (fun i σ H2 _ ⟨_, _, _, B⟩ => SqL.of (B.s _ _ em)) ?_ ?_⟩⟩
 ·rintro i v σ H2 hv ⟨o3, mv, rfl, B⟩
  obtain ⟨m, t, f, hm, rfl, e, hf⟩ := Zk9 im hv
  have e2 := B.s _ _ e
  have lmv2 := B.m.length
  rw [Zax] at lmv2
  refine ⟨⟨_, _, B.b, no (by decide +kernel)⟩, _, e2, ZdC (Zdy (j := 0) rfl) ⟨_, e2, ZdC (Zdy (j := 1) rfl) ⟨_, e2, ZdC (Zdy (j := 2) rfl) ⟨_, e2, ZdC (Zdy (j := 3) rfl) ⟨b, bx, p0, p1, p2, p3, _, _, _, _, _, mv, rfl, B.b, B.l.at (i := 1) (a := p1) rfl rfl, by omega, fun x dx hx hdx => ?_⟩⟩⟩⟩⟩
  have S3 : ZdN H2 (upd (upd H2 dx (.own x)) x (.ins (cs T).M dx (fM (.str m.f.s) f (.int m.a) (.int m.p)))) := Zey hx hdx
  have B3 := B.same S3
  have ex : (upd (upd H2 dx (.own x)) x (.ins (cs T).M dx (fM (.str m.f.s) f (.int m.a) (.int m.p)))) x = some (.ins (cs T).M dx (fM (.str m.f.s) f (.int m.a) (.int m.p))) := Zdt
  have hf3 : Im _ f m.f.f := hf.mono (ZdN.tk (B.s.trans S3))
  show ∃ (o3 : Option V) (mv' : List V), _ /\ Bf (cs T) H (upd (upd (upd H2 dx (.own x)) x (.ins (cs T).M dx (fM (.str m.f.s) f (.int m.a) (.int m.p)))) p1 (.lst (mv ++ [.ref x]))) b bx p0 p1 p2 p3 xs mv' [] [] (ms.take (i + 1)) [] []
  generalize upd (upd H2 dx (.own x)) x (.ins (cs T).M dx (fM (.str m.f.s) f (.int m.a) (.int m.p))) = H3 at B3 ex hf3 ⊢
  obtain ⟨k1, s1, b1, l1⟩ := B3.put (j := 1) (zs := mv ++ [.ref x]) rfl rfl
  have nx : x ≠ p1 := ZdY ex (B3.l.at (i := 1) (a := p1) rfl rfl) (fun h => nomatch h)
  refine ⟨_, _, rfl, s1, b1, l1, B.nd, B.f, ?_, .nil, .nil⟩
  rw [ZgY hm]
  exact .snoc ⟨x, dx, f, rfl, by rw [ZdA nx]; exact ex, hf3.mono k1.tk, Mf.dep _, Mf.okd (mo m (ZaB hm))⟩ (B3.m.imp fun _ _ => Zic.mono k1)
 rintro σ H3 ⟨o3, mv, rfl, B⟩
 rw [Zbb (by omega)] at B
 refine ⟨_, B.s _ _ et, ZdC (Zdy (j := 2) rfl) ⟨q2, rfl, ⟨_, SqL.of (B.s _ _ eu)⟩, Zeo (xs := uv0) (fun i σ H2 => ∃ (o4 : Option V) (uv : List V), σ = [some (.ref th), some (.ref b), o2, o3, o4, none] /\ Bf (cs T) H H2 b bx p0 p1 p2 p3 xs mv uv [] ms (us.take i) [])
  ⟨none, [], rfl, B⟩ (fun i σ H2 _ ⟨_, _, _, B⟩ => SqL.of (B.s _ _ eu)) ?_ ?_⟩⟩
 ·rintro i v σ H2 hv ⟨o4, uv, rfl, B⟩
  obtain ⟨u, hu, hv⟩ := Zla iu hv
  have luv2 := B.u.length
  rw [Zax] at luv2
  refine ⟨⟨_, _, B.b, no (by decide +kernel)⟩, v, u, rfl, uo u (ZaB hu), hv.mono (ZdN.tk B.s), fun x H4 S4 hx => ?_⟩
  have B4 := B.same S4
  obtain ⟨k1, s1, b1, l1⟩ := B4.put (j := 2) (zs := uv ++ [x]) rfl rfl
  refine ⟨b, bx, p0, p1, p2, p3, _, x, uv, rfl, B4.b, B4.l.at (i := 2) (a := p2) rfl rfl, by omega, _, _, rfl, s1, b1, l1, B.nd, B.f, B4.m.imp fun _ _ => Zic.mono k1, ?_, .nil⟩
  rw [ZgY hu]
  exact .snoc (hx.mono k1) (B4.u.imp fun _ _ => UsAt.mono k1)
 rintro σ H4 ⟨o4, uv, rfl, B⟩
 rw [Zbb (by omega)] at B
 refine ⟨_, B.s _ _ et, ZdC (Zdy (j := 3) rfl) ⟨q3, rfl, ⟨_, SqL.of (B.s _ _ ef)⟩, Zeo (xs := fv0) (fun i σ H2 => ∃ (o5 : Option V) (fv : List V), σ = [some (.ref th), some (.ref b), o2, o3, o4, o5] /\ fv.length = i /\ Bf (cs T) H H2 b bx p0 p1 p2 p3 xs mv uv fv ms us (fs.take i))
  ⟨none, [], rfl, rfl, B⟩ (fun i σ H2 _ ⟨_, _, _, _, B⟩ => SqL.of (B.s _ _ ef)) ?_ ?_⟩⟩
 ·rintro i v σ H2 hv ⟨o5, fv, rfl, hl, B⟩
  have hi := (Zaj.mp hv).1
  obtain ⟨p, t, hp, rfl, e⟩ := Zii if_ hv
  have e2 := B.s _ _ e
  refine ⟨⟨_, _, B.b, no (by decide +kernel)⟩, _, e2, ZdC (Zdy (j := 0) rfl) ⟨_, e2, ZdC (Zdy (j := 1) rfl) ⟨b, bx, p0, p1, p2, p3, _, _, _, fv, rfl, B.b, B.l.at (i := 3) (a := p3) rfl rfl, by omega, fun t2 h2 => ?_⟩⟩⟩
  have B4 := B.same (Zdz h2 (.tup [.int p.1, .int p.2]))
  have e4 : (upd H2 t2 (.tup [.int p.1, .int p.2])) t2 = some (.tup [.int p.1, .int p.2]) := Zdt
  obtain ⟨k1, s1, b1, l1⟩ := B4.put (j := 3) (zs := fv ++ [.ref t2]) rfl rfl
  refine ⟨_, fv ++ [V.ref t2], rfl, by rw [ZaC, hl]; rfl, s1, b1, l1, B.nd, B.f, B4.m.imp fun _ _ => Zic.mono k1, B4.u.imp fun _ _ => UsAt.mono k1, ?_⟩
  rw [ZgY hp, ZaO]
  exact (B4.i.mono k1.tk).app (.cons (.tup (k1.tk _ _ e4) (.cons (.flat rfl) (.cons (.flat rfl) .nil))) .nil)
 rintro σ H5 ⟨o5, fv, rfl, hl, B⟩
 rw [Zbb (by omega)] at B
 exact q b bx p0 p1 p2 p3 mv uv fv H5 B.s B.b (by rw [<- hxe]; exact B.l.at (i := 0) (a := p0) rfl rfl) (B.l.at (i := 1) (a := p1) rfl rfl) B.m (B.l.at (i := 2) (a := p2) rfl rfl) B.u (B.l.at (i := 3) (a := p3) rfl rfl) B.i
end
mutual
theorem ZrK {K : PySem.W.Frag} {H : Hp} : ∀ {v : V} {d : Dt}, Im H v d -> At K H v d
 | v, _, .flat h => .flat (by cases v <;> first | rfl | cases h)
 | _, _, .tup h hs => .tup (SqT.of h) (Zi5 hs)
theorem Zi5 {K : PySem.W.Frag} {H : Hp} : ∀ {v : List V} {d : List Dt}, Ims H v d -> Ats K H v d
 | _, _, .nil => .nil
 | _, _, .cons h hs => .cons (ZrK h) (Zi5 hs)
end
theorem ZhP {H : Hp} : ∀ {xs : List V} {ds : List Dt} {j : Nat} {x : V}, Ims H xs ds -> xs[j]? = some x -> ∃ d, ds[j]? = some d /\ Im H x d
 | _, _, 0, _, .cons h _, e => ⟨_, rfl, by cases e; exact h⟩
 | _, _, j + 1, _, .cons _ t, e => by
  rw [ZaX] at e
  obtain ⟨d, e1, e2⟩ := ZhP t e
  exact ⟨d, by rw [ZaX]; exact e1, e2⟩
section
variable {P : Program} {w : World} {K : PySem.W.Frag} {mg : Str -> Option Value} {base : Heap}
def Zi6 : Sp := fun vs H Q _ => ∃ n : Int, vs = [.int n] /\ Q (.bl true) H
theorem ZfY (T : Txt K mg) : Zfi P w K mg base CX0 1 T.a_whole T.fd_whole ["_law_x"] Zi6 := by
 refine T.F_whole.ok ZiJ (fun vs H Q E h => ?_) (fun cdv A outer s H vs Q E hr h => ?_)
 ·obtain ⟨n, rfl, _⟩ := h
  rfl
 obtain ⟨n, rfl, q⟩ := h
 refine ⟨_, (ZdB (ZdO (ZkA (Zd0 Zfy rfl T.z_isinstance Zee (Zds (cv 0) (Zds (ZgM rfl T.z_int Zn8) Zdu))) (Zn2 (ZpR (Zd0 Zfy rfl T.z_isinstance Zee (Zds (cv 0) (Zds (ZgM rfl T.z_bool ZoT) Zdu)))))))), ?_⟩
 exact ⟨_, _, _, _, true, rfl, fun _ r => r, .int n, rfl, _, rfl, ZgJ ⟨_, _, _, _, false, rfl, fun _ r => r, .int n, rfl, _, rfl, q⟩⟩
def ZjY : Sp := fun vs H Q _ => ∃ (t : Addr) (a b : Int), vs = [.ref t] /\ H t = some (.tup [.int a, .int b]) /\ Q (.bl true) H
theorem ZjZ (T : Txt K mg) : Zfi P w K mg base CX0 2 T.a_pair T.fd_pair ["_law_x"] ZjY := by
 have G_whole := ZfY (P := P) (w := w) (base := base) T
 refine T.F_pair.ok ZjO (fun vs H Q E h => ?_) (fun cdv A outer s H vs Q E hr h => ?_)
 ·obtain ⟨t, a, b, rfl, _⟩ := h
  rfl
 obtain ⟨t, a, b, rfl, e, q⟩ := h
 refine ⟨_, (ZdB (ZdO (ZkA (Zd0 Zfy rfl T.z_isinstance Zee (Zds (cv 0) (Zds (ZgM rfl T.z_tuple Zho) Zdu))) (ZkA (ZlY Zft (Zd0 Zfh rfl T.z_len Zhx (Zds (cv 0) Zdu)) Zdv (Zd3 _)) (ZkA (ZdM G_whole (hr.mono (by decide)) rfl T.m_whole T.k_whole T.b_whole .nil ZdR (Zds (ZdF ZdG (cv 0) Zdv (fun _ _ => rfl)) Zdu)) (Zn2 (ZdM G_whole (hr.mono (by decide)) rfl T.m_whole T.k_whole T.b_whole .nil ZdR (Zds (ZdF ZdG (cv 0) Zdv (fun _ _ => rfl)) Zdu)))))))), ?_⟩
 refine ⟨_, _, _, _, true, rfl, fun _ r => r, .tup e, rfl, _, rfl, ZgJ ⟨t, _, rfl, .inr (SqT.of e), _, rfl, ?_⟩⟩
 refine ZgJ ⟨_, e, ZdC (Zdy (j := 0) rfl) ⟨a, rfl, _, rfl, ZgJ ⟨_, e, ZdC (Zdy (j := 1) rfl) ⟨b, rfl, q⟩⟩⟩⟩
def Zh3 : Sp := fun vs H Q _ => ∃ (r : Addr) (rv : List V) (R : List Rw), vs = [.ref r] /\ H r = some (.lst rv) /\ Ims H rv (R.map Rw.d) /\ Q (.bl true) H
theorem Zh4 (T : Txt K mg) : Zfi P w K mg base CX0 3 T.a_shaped T.fd_shaped ["_law_rows"] Zh3 := by
 have G_whole := ZfY (P := P) (w := w) (base := base) T
 have G_pair := ZjZ (P := P) (w := w) (base := base) T
 refine T.F_shaped.ok Zgv (fun vs H Q E h => ?_) (fun cdv A outer s H vs Q E hr h => ?_)
 ·obtain ⟨r, rv, R, rfl, _⟩ := h
  rfl
 obtain ⟨r, rv, R, rfl, er, hR, q⟩ := h
 refine ⟨_, (Zdw (Zez (Zf0 (ZfZ (Zd0 Zfy rfl T.z_isinstance Zee (Zds (cv 0) (Zds (ZgM rfl T.z_list Zhy) Zdu)))))
   (ZdB (ZdO Zgo))
   ZdS)
  (Zdw (Ze3 PassesOwn.never rfl (Zen (cv 0)) (Zeb (i := 1) Zgv.nd rfl (.inl rfl))
   (Zdw (Zez (PW.pt (Zjh (Zf0 (ZfZ (Zd0 Zfy rfl T.z_isinstance Zee (Zds (cv 1) (Zds (ZgM rfl T.z_tuple Zho) Zdu))))) (Zjh (ZdQ ZnC (Zd0 Zfh rfl T.z_len Zhx (Zds (cv 1) Zdu)) Zdv (Zd3 _)) (Zh7 (Zf0 (ZfZ (Zd0 Zfy rfl T.z_isinstance Zee (Zds (ZdF ZdG (cv 1) Zdv (fun _ _ => rfl)) (Zds (ZgM rfl T.z_str Zqa) Zdu)))))))))
    (ZdB (ZdO Zgo))
    ZdS)
   (Zdw (Zez (PW.pt (Zkz (ZdQ ZnC (ZdF ZdG (cv 1) Zdv (fun _ _ => rfl)) ZdZ (Zd3 _)) (Zim (ZdQ ZnC (ZdF ZdG (cv 1) Zdv (fun _ _ => rfl)) ZdZ (Zd3 _)))))
    (ZdB (ZdO Zgo))
    ZdS)
   (Zdw (Zez (PW.pt (Zjh (Zf0 (ZfZ (ZdM G_whole (hr.mono (by decide)) rfl T.m_whole T.k_whole T.b_whole .nil ZdR (Zds (ZdF ZdG (cv 1) Zdv (fun _ _ => rfl)) Zdu)))) (Zh7 (Zf0 (ZfZ (ZdM G_whole (hr.mono (by decide)) rfl T.m_whole T.k_whole T.b_whole .nil ZdR (Zds (ZdF ZdG (cv 1) Zdv (fun _ _ => rfl)) Zdu)))))))
    (ZdB (ZdO Zgo))
    ZdS)
   (ZdB (Zez (PW.pt (Zkz (Zjg (ZoC (ZdF ZdG (cv 1) Zdv (fun _ _ => rfl)))) (Zim (Zf0 (ZfZ (ZdM G_pair (hr.mono (by decide)) rfl T.m_pair T.k_pair T.b_pair .nil ZdR (Zds (ZdF ZdG (cv 1) Zdv (fun _ _ => rfl)) Zdu)))))))
    (ZdB (ZdO Zgo))
    ZdS))))))
  (ZdB (ZdO Zgo)))), ?_⟩
 refine ⟨_, _, _, _, true, rfl, fun _ r => r, .lst er, rfl, _, rfl, ZfA ?_⟩
 refine ⟨r, rfl, ⟨_, SqL.of er⟩, Zeo (xs := rv) (fun i σ H2 => ∃ (o : Option V), σ = [some (.ref r), o] /\ H2 = H) ⟨none, rfl, rfl⟩ (fun i σ H2 _ ⟨_, _, e⟩ => by rw [e]; exact SqL.of er) ?_ ?_⟩
 ·rintro i v σ H2 hv ⟨o, rfl, rfl⟩
  have hl := hR.length
  rw [Zar] at hl
  have hi := (Zaj.mp hv).1
  obtain ⟨ρ, hρ⟩ : ∃ ρ, R[i]? = some ρ := ⟨_, ZaT (by omega)⟩
  obtain ⟨t, wv, h1, e, hw⟩ := Zij hR hρ
  rw [hv] at h1
  cases h1
  refine ⟨_, _, _, _, true, rfl, fun _ r => r, .tup e, rfl, _, rfl, ZfA ⟨t, _, rfl, .inr (SqT.of e), ?_⟩⟩
  dsimp only [tC, cEq, onB]
  rw [show (xor true (decide (((([V.str (wd ρ.w), V.int ρ.a, V.int ρ.b, wv] : List V).length : Nat) : Int) = 4))) = false from rfl]
  refine ZfA ⟨_, e, ZdC (Zdy (j := 0) rfl) ⟨_, _, _, _, true, rfl, fun _ r => r, .str _, rfl, _, rfl, ZfA ?_⟩⟩
  obtain ⟨w', a, b, y⟩ := ρ
  dsimp only at e hw
  refine ⟨_, e, ZdC (Zdy (j := 0) rfl) ?_⟩
  dsimp only [tC, cEq, onB]
  cases w' with
  | true =>
   rw [show (xor true (decide (wd true = ("goes" : Str)))) = false by decide +kernel]
   refine ZfA (ZfA ⟨_, e, ZdC (Zdy (j := 1) rfl) ⟨a, rfl, _, rfl, ZfA ⟨_, e, ZdC (Zdy (j := 2) rfl) ⟨b, rfl, _, rfl, ZfA ⟨_, e, ZdC (Zdy (j := 3) rfl) ?_⟩⟩⟩⟩⟩)
   cases y with
   | none => cases hw; exact ⟨false, by rw [decide_eq_true rfl]; rfl, ZfA (ZfA ⟨_, rfl, rfl⟩)⟩
   | some p =>
    obtain ⟨tw, xs, rfl, ew, hs⟩ := ZfO hw
    obtain rfl := Zpr hs
    exact ⟨true, by rw [decide_eq_false (fun h => nomatch h)]; rfl, ZgJ ⟨_, e, ZdC (Zdy (j := 3) rfl) ⟨tw, _, _, rfl, ew, _, rfl, ZfA ⟨_, rfl, rfl⟩⟩⟩⟩
  | false =>
   rw [show (xor true (decide (wd false = ("goes" : Str)))) = true by decide +kernel]
   refine ZgJ ⟨_, e, ZdC (Zdy (j := 0) rfl) ?_⟩
   dsimp only [tC, cEq, onB]
   rw [show (xor true (decide (wd false = ("here" : Str)))) = false by decide +kernel]
   refine ZfA ⟨_, e, ZdC (Zdy (j := 1) rfl) ⟨a, rfl, _, rfl, ZfA ⟨_, e, ZdC (Zdy (j := 2) rfl) ⟨b, rfl, _, rfl, ZfA ⟨_, e, ZdC (Zdy (j := 3) rfl) ?_⟩⟩⟩⟩⟩
   cases y with
   | none => cases hw; exact ⟨false, by rw [decide_eq_true rfl]; rfl, ZfA (ZfA ⟨_, rfl, rfl⟩)⟩
   | some p =>
    obtain ⟨tw, xs, rfl, ew, hs⟩ := ZfO hw
    obtain rfl := Zpr hs
    exact ⟨true, by rw [decide_eq_false (fun h => nomatch h)]; rfl, ZgJ ⟨_, e, ZdC (Zdy (j := 3) rfl) ⟨tw, _, _, rfl, ew, _, rfl, ZfA ⟨_, rfl, rfl⟩⟩⟩⟩
 ·rintro σ H2 ⟨o, rfl, rfl⟩
  exact q
end
noncomputable def _root_.BO.Internal.Us.pl : Us -> Int
 | .num _ p _ => p
 | .call _ p _ _ _ => p
 | .take _ p _ _ => p
 | .case _ p _ _ => p
 | .row _ p _ _ => p
noncomputable def _root_.BO.Internal.Us.sl : Us -> Int
 | .num _ _ s => s
 | .call _ _ s _ _ => s
 | .take _ _ s _ => s
 | .case _ _ s _ => s
 | .row _ _ s _ => s
noncomputable def Zje (R : List Rw) : List Rw := R.filter fun ρ => !ρ.w
theorem ZrL : (xor false (decide (wd true = ("here" : Str)))) = false := by decide +kernel
theorem ZqX : (xor false (decide (wd false = ("here" : Str)))) = true := by decide +kernel
noncomputable def isH (H : Hp) (v : V) : Bool := match v with
 | .ref t => match H t with
  | some (.tup (.str s :: _)) => decide (s = ("here" : Str))
  | _ => false
 | _ => false
theorem Zj0 {H : Hp} {v : V} {ρ : Rw} (h : Im H v ρ.d) : (∃ t wv, v = .ref t /\ H t = some (.tup [.str (wd ρ.w), .int ρ.a, .int ρ.b, wv])) /\ isH H v = !ρ.w := by
 obtain ⟨t, wv, h1, e0, _⟩ := Zij (R := [ρ]) (i := 0) (.cons h .nil) rfl
 cases h1
 refine ⟨⟨t, wv, rfl, e0⟩, ?_⟩
 unfold isH
 dsimp only
 rw [e0]
 dsimp only
 cases ρ.w <;> decide +kernel
theorem Zm9 {H : Hp} : ∀ {rv : List V} {R : List Rw}, Ims H rv (R.map Rw.d) -> Ims H (rv.filter (isH H)) ((Zje R).map Rw.d)
 | _, [], .nil => .nil
 | _, ρ :: R, .cons h hs => by
  have ih := Zm9 hs
  have e := (Zj0 h).2
  unfold Zje at ih ⊢
  rw [ZbB, ZbB, e]
  split
  ·exact .cons h ih
  ·exact ih
section
variable {P : Program} {w : World} {K : PySem.W.Frag} {mg : Str -> Option Value} {base : Heap}
theorem ZqO (T : Txt K mg) {H : Hp} {v : V} {u : Us} (h : UsAt (cs T) H v u) : ∃ x C dx fs, v = .ref x /\ H x = some (.ins C dx fs) /\ Cls K C /\ (ZdP K C "place" /\ fs.lookup ("place" : Str) = some (.int u.pl)) /\ ZdP K C "slot" /\ fs.lookup ("slot" : Str) = some (.int u.sl) := by
 cases u with
 | num a p s => obtain ⟨x, dx, rfl, e⟩ := h; exact ⟨x, _, dx, _, rfl, e, T.cl_NumUse, ⟨T.n_NumUse_place, by kernel_rfl⟩, T.n_NumUse_slot, by kernel_rfl⟩
 | call a p s y z => obtain ⟨x, dx, rfl, e⟩ := h; exact ⟨x, _, dx, _, rfl, e, T.cl_CallUse, ⟨T.n_CallUse_place, by kernel_rfl⟩, T.n_CallUse_slot, by kernel_rfl⟩
 | take a p s l => obtain ⟨x, dx, f, rfl, e, _⟩ := h; exact ⟨x, _, dx, _, rfl, e, T.cl_TakeUse, ⟨T.n_TakeUse_place, by kernel_rfl⟩, T.n_TakeUse_slot, by kernel_rfl⟩
 | case a p s l => obtain ⟨x, dx, f, rfl, e, _⟩ := h; exact ⟨x, _, dx, _, rfl, e, T.cl_CaseUse, ⟨T.n_CaseUse_place, by kernel_rfl⟩, T.n_CaseUse_slot, by kernel_rfl⟩
 | row a p s y => obtain ⟨x, dx, rfl, e⟩ := h; exact ⟨x, _, dx, _, rfl, e, T.cl_RowUse, ⟨T.n_RowUse_place, by kernel_rfl⟩, T.n_RowUse_slot, by kernel_rfl⟩
def Zj1 (L : Addr) : Sp := fun vs H Q _ => ∃ (lg dl r bd : Addr) (rv : List V) (R : List Rw), vs = [.ref lg] /\ H lg = some (.ins L dl (fL r bd)) /\ H r = some (.lst rv) /\ Ims H rv (R.map Rw.d) /\ R.length <= 8192 /\
 ∀ (l : Addr) (xs : List V) (H' : Hp), ZdN H H' -> H l = none -> H' l = some (.lst xs) -> Ims H' xs ((Zje R).map Rw.d) -> Q (.ref l) H'
theorem Zhf (T : Txt K mg) : Zfi P w K mg base CX0 1 T.a_here_rows T.fd_here_rows ["log"] (Zj1 T.a_Log) := by
 refine T.F_here_rows.ok ZjN (fun vs H Q E h => ?_) (fun cdv A outer s H vs Q E hr h => ?_)
 ·obtain ⟨lg, dl, r, bd, rv, R, rfl, _⟩ := h
  rfl
 obtain ⟨lg, dl, r, bd, rv, R, rfl, el, er, hR, hRl, q⟩ := h
 refine ⟨_, (ZdB (ZdO (Zjw rfl (ZrW (x := "row") rfl (by decide +kernel) (by decide +kernel) rfl rfl) (Zen (ZdI T.cl_Log T.n_Log_rows (cv 0))) (fun _ _ _ _ _ => (ZoU (ZdQ Zft (ZdF ZdG (cv 0) Zdv (fun _ _ => rfl)) ZdZ (Zd3 _)))) (fun _ _ _ _ _ => (cv 0))))), ?_⟩
 have sl : sizeLine = 16777216 := sizeLine_eq
 have lrv := hR.length
 rw [Zar] at lrv
 refine ⟨_, ⟨_, _, el, ZfP⟩, r, rfl, ⟨_, SqL.of er⟩, fun D hD => ?_⟩
 refine Zrg (xs := rv) (isH H) id hD (by omega) rfl (fun k H2 S2 hk => ZkL er S2 hk) (fun k H2 v H3 S2 hy => ⟨hy.1, hy.2 _ (SqL.of (S2 _ _ er))⟩) (fun H2 S2 => ZkM er S2) (fun k v H2 R2 hv S2 hr2 => ?_) (fun k v H2 R2 hv hp S2 hr2 => hr2) fun H2 S2 e => q _ _ _ S2 hD e ?_
 ·obtain ⟨d, e1, e2⟩ := ZhP hR hv
  rw [ZaA] at e1
  obtain ⟨ρ, _, rfl⟩ := Zch.mp e1
  obtain ⟨⟨t, wv, rfl, et⟩, eh⟩ := Zj0 e2
  rw [eh] at hr2
  refine ⟨_, S2 _ _ et, ZdC (Zdy (j := 0) rfl) ?_⟩
  dsimp only [tC, cEq, onB]
  cases z : ρ.w with
  | true =>
   rw [z] at hr2
   rw [ZrL]
   exact hr2
  | false =>
   rw [z] at hr2
   rw [ZqX]
   exact hr2
 ·rw [List.map_id]
  exact (Zm9 hR).mono (ZdN.tk S2)
def ZlJ (c : Cs) : Sp := fun vs H Q _ => ∃ (b bx p0 p1 p2 p3 t : Addr) (r0 wv : V) (mv uv : List V) (ms : List Mk3) (us : List Us) (wrd : Str) (a bb : Int) (u : Nat) (mk : Mk3) (uu : Us), vs = [.ref b, .ref t, .int (u : Int)] /\ H b = some (.ins c.B bx (fB p0 p1 p2 p3 r0)) /\ H p1 = some (.lst mv) /\ Zgp (M3 c H) mv ms /\ H p2 = some (.lst uv) /\ Zgp (UsAt c H) uv us /\
 H t = some (.tup [.str wrd, .int a, .int bb, wv]) /\ 0 <= a /\ ms[a.toNat]? = some mk /\ us[u]? = some uu /\ ∀ (t' : Addr), H t' = none -> Q (.ref t') (upd H t' (.tup [.int mk.p, .int uu.pl, .int uu.sl]))
theorem Zik (T : Txt K mg) : Zfi P w K mg base CX0 1 T.a_meeting T.fd_meeting ["board", "row", "u"] (ZlJ (cs T)) := by
 refine T.F_meeting.ok Zih (fun vs H Q E h => ?_) (fun cdv A outer s H vs Q E hr h => ?_)
 ·obtain ⟨b, bx, p0, p1, p2, p3, t, r0, wv, mv, uv, ms, us, wrd, a, bb, u, mk, uu, rfl, _⟩ := h
  rfl
 obtain ⟨b, bx, p0, p1, p2, p3, t, r0, wv, mv, uv, ms, us, wrd, a, bb, u, mk, uu, rfl, eb, e1, hM, e2, hU, et, ha, hmk, huu, q⟩ := h
 refine ⟨_, (Zdw (Zd1 (i := 3) Zih.nd rfl (.inl rfl) (ZdF ZdK (ZdI T.cl_Board T.n_Board_uses (cv 0)) (cv 2) (fun _ _ => rfl)))
  (ZdB (ZdO (Zel (Zds (Zex (ZdF ZdK (ZdI T.cl_Board T.n_Board_makes (cv 0)) (ZdF ZdG (cv 1) Zdv (fun _ _ => rfl)) (fun _ _ => rfl)) rfl) (Zds (Zex (cv 3) rfl) (Zds (Zex (cv 3) rfl) Zdu))))))), ?_⟩
 have lm := hM.length
 have lu := hU.length
 obtain ⟨xv, hxv⟩ : ∃ x, uv[u]? = some x := ⟨_, ZaT (by have := (Zaj.mp huu).1; omega)⟩
 obtain ⟨uu', huu', hux⟩ := hU.get hxv
 cases huu.symm.trans huu'
 obtain ⟨zv, hzv⟩ : ∃ x, mv[a.toNat]? = some x := ⟨_, ZaT (by have := (Zaj.mp hmk).1; omega)⟩
 obtain ⟨mk', hmk', hmx⟩ := hM.get hzv
 cases hmk.symm.trans hmk'
 obtain ⟨xu, C, dxu, fs, rfl, exu, cl, ⟨np, lp⟩, ns, ls⟩ := ZqO T hux
 obtain ⟨xm, dm, f, rfl, exm, _⟩ := hmx
 have hat : atI mv a = some (.ref xm) := by rw [show a = ((a.toNat : Nat) : Int) by omega]; exact Zdy hzv
 refine ⟨_, ⟨_, _, eb, Zgc _ _ _ _ _⟩, _, e2, ZdC (Zdy hxv) ?_⟩
 dsimp only [Ze9]
 refine ⟨_, ⟨_, _, eb, (ZeJ (by decide +kernel)).trans ZfP⟩, _, et, ZdC (Zdy (j := 1) rfl) ⟨_, e1, ZdC hat ?_⟩⟩
 have ep : (mkg mk.f mk.a mk.p).p = mk.p := by
  obtain ⟨mf, ma, mp⟩ := mk
  cases mf <;> rfl
 rw [ep] at exm
 exact ⟨xm, _, dm, _, _, rfl, exm, T.cl_Make, T.n_Make_place, by kernel_rfl, xu, C, dxu, fs, _, rfl, exu, cl, np, lp, xu, C, dxu, fs, _, rfl, exu, cl, ns, ls, (by show 3 <= sizeLine; decide), fun t' h => q t' h⟩
end
noncomputable def mkP (ms : List Mk3) (a : Int) : Int := ((ms[a.toNat]?).map Mk3.p).getD 0
noncomputable def mt (ms : List Mk3) (us : List Us) (a u : Int) : List Int := [mkP ms a, ((us[u.toNat]?).map Us.pl).getD 0, ((us[u.toNat]?).map Us.sl).getD 0]
noncomputable def ks0 (ms : List Mk3) (us : List Us) (R : List Rw) : List (List Int) := (Zje R).flatMap fun ρ => (ixn (atU us) ρ.b us.length).map fun u => mt ms us ρ.a u
noncomputable def ks1 (ms : List Mk3) (us : List Us) (R : List Rw) (B : List (Int × Int)) : List (List Int) := B.map fun x => mt ms us (((R[x.1.toNat]?).map Rw.a).getD 0) x.2
noncomputable def ks2 (ms : List Mk3) (pts : List Int) (R : List Rw) : List (List Int) := (Zje R).map fun ρ => [pts.getD ρ.b.toNat 0, mkP ms ρ.a]
def Few (ks : List (List Int)) : Prop := ∀ l : List (List Int), l.Nodup -> (∀ k ∈ l, k ∈ ks) -> l.length + 1 <= 4914
theorem Zna {ks : List (List Int)} {n m : Nat} (f : Nat -> Nat -> List Int) (h : ∀ k ∈ ks, ∃ i j, i < n /\ j < m /\ k = f i j) (hb : n * m <= 4900) : Few ks := fun l nd hl => by
 have h1 := SX.Internal.len_sub l ((Zaa n).flatMap fun i => (Zaa m).map fun j => f i j) nd fun k hk => by
  obtain ⟨i, j, hi, hj, e⟩ := h k (hl k hk)
  exact ZbC.mpr ⟨i, Zac.mpr hi, ZaW.mpr ⟨j, Zac.mpr hj, e.symm⟩⟩
 have h2 : ∀ n : Nat, ((Zaa n).flatMap fun i => (Zaa m).map fun j => f i j).length = n * m := fun n => by
  induction n with
  | zero => simp
  | succ n ih => rw [Za2, ZbD, ZaC, ih]; simp [Nat.succ_mul]
 rw [h2] at h1
 omega
theorem Znb {us : List Us} {p : Int} {n : Nat} {x : Int} (h : x ∈ ixn (atU us) p n) : ∃ j : Nat, x = (j : Int) /\ j < n := by
 obtain ⟨j, rfl, h3, _⟩ := Zke h
 exact ⟨j, rfl, h3⟩
theorem Zi7 {N : Int} {M : Nat} {R : List Rw} (hok : ∀ ρ ∈ R, ρ.ok N M) {ρ : Rw} (h : ρ ∈ Zje R) : ρ ∈ R /\ ρ.w = false /\ 0 <= ρ.a /\ ρ.a < (M : Int) /\ 0 <= ρ.b /\ ρ.b < N := by
 obtain ⟨h1, h2⟩ := Zab.mp h
 have h3 : ρ.w = false := by simpa using h2
 obtain ⟨k1, k2, k3, k4⟩ := hok ρ h1
 rw [h3] at k2
 exact ⟨h1, h3, k1, k2, k3, k4⟩
def Zow (H : Hp) (ks : List (List Int)) (Q : VK) : Prop := ∀ (l : Addr) (ps : List (Addr × List Int)) (H' : Hp), ZdN H H' -> H l = none -> H' l = some (.lst (ps.map fun p => V.ref p.1)) -> ZfL H' ps -> (ps.map Prod.snd).Nodup -> (ps.map Prod.snd).Pairwise leL -> (∀ k, k ∈ ps.map Prod.snd ↔ k ∈ ks) -> Q (.ref l) H'
theorem ZgZ {H H' : Hp} {ps : List (Addr × List Int)} (h : ZfL H ps) (s : ZdN H H') : ZfL H' ps := fun p hp => s _ _ (h p hp)
theorem Znc {H H' : Hp} {ps : List (Addr × List Int)} (h : ZfL H ps) (s : TK H H') : ZfL H' ps := fun p hp => s _ _ (h p hp)
theorem Zi8 {K : PySem.W.Frag} {w : World} {H H1 : Hp} {D : Addr} {ps : List (Addr × List Int)} {ks : List (List Int)} {Q : VK} (S : ZdN H H1) (eD : H1 D = some (.lst (ps.map fun p => V.ref p.1))) (hp : ZfL H1 ps) (hk : ps.map Prod.snd = ks) (h1 : ∀ k ∈ ks, 1 <= k.length) (hb : Few ks) (q : Zow H ks Q) :
  ∃ (a : Addr) (ps : List (Addr × List Int)), [V.ref D] = [.ref a] /\ SqL K H1 a (ps.map fun p => V.ref p.1) /\ ZfL H1 ps /\ (∀ l : List (List Int), l.Nodup -> (∀ k ∈ l, k ∈ ps.map Prod.snd) -> l.length + 1 <= 4914) /\
   ∀ (r : Addr) (ps' : List (Addr × List Int)), H1 r = none -> (∀ p ∈ ps', p ∈ ps) -> (ps'.map Prod.snd).Nodup -> (∀ k, k ∈ ps'.map Prod.snd ↔ k ∈ ps.map Prod.snd) ->
    ∃ (a : Addr) (ps : List (Addr × List Int)), [V.ref r] = [.ref a] /\ (upd H1 r (.ext (ZgR w r (ps'.map Prod.fst)))) a = some (.ext (ZgR w a (ps.map Prod.fst))) /\ ZfL (upd H1 r (.ext (ZgR w r (ps'.map Prod.fst)))) ps /\ (∀ p ∈ ps, 1 <= p.2.length) /\ ps.length <= sizeLine /\
     ∀ (l : Addr) (ps'' : List (Addr × List Int)), (upd H1 r (.ext (ZgR w r (ps'.map Prod.fst)))) l = none -> ps''.Perm ps -> (ps''.map Prod.snd).Pairwise leL -> Q (.ref l) (upd (upd H1 r (.ext (ZgR w r (ps'.map Prod.fst)))) l (.lst (ps''.map fun p => V.ref p.1))) := by
 have sl : sizeLine = 16777216 := sizeLine_eq
 refine ⟨D, ps, rfl, SqL.of eD, hp, fun l nd hl => hb l nd fun k hk' => by rw [<- hk]; exact hl k hk', fun r ps' hr hs nd mem => ⟨r, ps', rfl, Zdt, ?_, fun p hp' => h1 _ (by rw [<- hk]; exact ZbA (hs p hp')), ?_, fun l ps'' hl pm pw => ?_⟩⟩
 ·exact fun p hp' => Zdz hr _ _ _ (hp p (hs p hp'))
 ·have := hb _ nd fun k hk' => by rw [<- hk]; exact (mem k).mp hk'
  rw [Zar] at this
  omega
 ·have s1 := Zdz hr (.ext (ZgR w r (ps'.map Prod.fst)))
  have s2 := Zdz hl (.lst (ps''.map fun p => V.ref p.1))
  refine q l ps'' _ (S.trans (s1.trans s2)) ((S.trans s1).free hl) Zdt (fun p hp' => s2 _ _ (s1 _ _ (hp p (hs p (pm.mem_iff.mp hp'))))) ((pm.map Prod.snd).nodup_iff.mpr nd) pw fun k => ?_
  rw [(pm.map Prod.snd).mem_iff, mem, hk]
def Kf (f : Addr) (H H' : Hp) : Prop := ∀ a o, H a = some o -> a ≠ f -> H' a = some o
theorem Kf.of {f : Addr} {H H' : Hp} (h : ZdN H H') : Kf f H H' := fun a o e _ => h a o e
theorem Kf.trans {f : Addr} {H1 H2 H3 : Hp} (h : Kf f H1 H2) (g : Kf f H2 H3) : Kf f H1 H3 := fun a o e n => g a o (h a o e n) n
theorem Kf.put {f : Addr} {H1 H2 : Hp} (h : Kf f H1 H2) (o : HO) : Kf f H1 (upd H2 f o) := fun a u e n => by rw [ZdA n]; exact h a u e n
theorem Kf.same {f : Addr} {H0 H1 H2 : Hp} (s : ZdN H0 H1) (h : Kf f H1 H2) (hf : H0 f = none) : ZdN H0 H2 := fun a o e => h a o (s a o e) fun z => by rw [z, hf] at e; cases e
noncomputable def kk0 (ms : List Mk3) (us : List Us) (R : List Rw) (i : Nat) : List (List Int) := ((Zje R).take i).flatMap fun ρ => (ixn (atU us) ρ.b us.length).map fun u => mt ms us ρ.a u
theorem ZpA (ms : List Mk3) (us : List Us) (R : List Rw) : ∀ i, (kk0 ms us R i).length <= us.length * i := fun i => by
 unfold kk0
 have : ∀ l : List Rw, (l.flatMap fun ρ => (ixn (atU us) ρ.b us.length).map fun u => mt ms us ρ.a u).length <= us.length * l.length := fun l => by
  induction l with
  | nil => exact ZbL _
  | cons ρ l ih =>
   rw [List.flatMap_cons, ZaC, Zar, Zao, Nat.mul_succ]
   have := ZhB (A := atU us) (p := ρ.b) (n := us.length)
   omega
 refine ZbH (this _) (ZbR (ZbK _) ?_)
 rw [Zax]
 omega
theorem Zn0 (ms : List Mk3) (us : List Us) {R : List Rw} {i : Nat} {ρ : Rw} (h : (Zje R)[i]? = some ρ) : kk0 ms us R (i + 1) = kk0 ms us R i ++ (ixn (atU us) ρ.b us.length).map fun u => mt ms us ρ.a u := by
 unfold kk0
 rw [Zbj, h, ZbD]
 simp
theorem Zn1 {ms : List Mk3} {us : List Us} {a : Int} {j : Nat} {mk : Mk3} {uu : Us} (h1 : ms[a.toNat]? = some mk) (h2 : us[j]? = some uu) : mt ms us a (j : Int) = [mk.p, uu.pl, uu.sl] := by
 unfold mt mkP
 rw [h1, Zdh, h2]
 rfl
section
variable {P : Program} {w : World} {K : PySem.W.Frag} {mg : Str -> Option Value} {base : Heap}
structure Bl (c : Cs) (L : Addr) (H : Hp) (b lg : Addr) (N : Int) (pts : List Int) (ms : List Mk3) (us : List Us) (R : List Rw) (B : List (Int × Int)) : Prop where
 bd : ∃ bx p0 p1 p2 p3 r0 mv uv, H b = some (.ins c.B bx (fB p0 p1 p2 p3 r0)) /\ H p0 = some (.lst (pts.map V.int)) /\ H p1 = some (.lst mv) /\ Zgp (M3 c H) mv ms /\ H p2 = some (.lst uv) /\ Zgp (UsAt c H) uv us
 lg : ∃ dl r bdd rv bv, H lg = some (.ins L dl (fL r bdd)) /\ H r = some (.lst rv) /\ Ims H rv (R.map Rw.d) /\ H bdd = some (.lst bv) /\ Ims H bv (B.map flD)
 ok : ∀ ρ ∈ R, ρ.ok N ms.length
 rl : R.length <= 8192
 pl : (pts.length : Int) = N
 n40 : pts.length <= 40
 ml : ms.length <= 61
 ul : us.length <= 64
 bok : ∀ x ∈ B, ∃ (n u : Nat) (ρ : Rw), x = ((n : Int), (u : Int)) /\ R[n]? = some ρ /\ ρ.w = false /\ u < us.length
 bl : B.length <= 600000
theorem Bl.same {c : Cs} {L : Addr} {H H' : Hp} {b lg : Addr} {N : Int} {pts : List Int} {ms : List Mk3} {us : List Us} {R : List Rw} {B : List (Int × Int)} (h : Bl c L H b lg N pts ms us R B) (s : ZdN H H') : Bl c L H' b lg N pts ms us R B := by
 obtain ⟨⟨bx, p0, p1, p2, p3, r0, mv, uv, h1, h2, h3, h4, h5, h6⟩, ⟨dl, r, bdd, rv, bv, g1, g2, g3, g4, g5⟩, k1, k2, k3, k4, k5, k6, k7, k8⟩ := h
 exact ⟨⟨bx, p0, p1, p2, p3, r0, mv, uv, s _ _ h1, s _ _ h2, s _ _ h3, h4.imp fun _ _ h => (show M3 _ H' _ _ from Zic.mono (ZdN.fk s) h), s _ _ h5, h6.imp fun _ _ h => h.mono (ZdN.fk s)⟩, ⟨dl, r, bdd, rv, bv, s _ _ g1, s _ _ g2, g3.mono (ZdN.tk s), s _ _ g4, g5.mono (ZdN.tk s)⟩, k1, k2, k3, k4, k5, k6, k7, k8⟩
theorem Znd {ms : List Mk3} {us : List Us} {R : List Rw} : ∀ k ∈ ks0 ms us R, 1 <= k.length := fun k hk => by
 obtain ⟨ρ, _, hk⟩ := ZbC.mp hk
 obtain ⟨u, _, rfl⟩ := ZaW.mp hk
 exact Zcd _ _
theorem Bl.few0 {c : Cs} {L : Addr} {H : Hp} {b lg : Addr} {N : Int} {pts : List Int} {ms : List Mk3} {us : List Us} {R : List Rw} {B : List (Int × Int)} (Z : Bl c L H b lg N pts ms us R B) : Few (ks0 ms us R) := by
 refine Zna (n := ms.length) (m := us.length) (fun i j => mt ms us (i : Int) (j : Int)) (fun k hk => ?_) (ZbH (ZbR Z.ml Z.ul) (by decide))
 obtain ⟨ρ, hρ, hk⟩ := ZbC.mp hk
 obtain ⟨u, hu, rfl⟩ := ZaW.mp hk
 obtain ⟨j, rfl, hj⟩ := Znb hu
 obtain ⟨_, _, ka, ka', _⟩ := Zi7 Z.ok hρ
 exact ⟨ρ.a.toNat, j, by omega, hj, by rw [show ((ρ.a.toNat : Nat) : Int) = ρ.a by omega]⟩
theorem Bl.few1 {c : Cs} {L : Addr} {H : Hp} {b lg : Addr} {N : Int} {pts : List Int} {ms : List Mk3} {us : List Us} {R : List Rw} {B : List (Int × Int)} (Z : Bl c L H b lg N pts ms us R B) : Few (ks1 ms us R B) := by
 refine Zna (n := ms.length) (m := us.length) (fun i j => mt ms us (i : Int) (j : Int)) (fun k hk => ?_) (ZbH (ZbR Z.ml Z.ul) (by decide))
 obtain ⟨x, hx, rfl⟩ := ZaW.mp hk
 obtain ⟨n, u, ρ, rfl, hρ, hw, hu⟩ := Z.bok x hx
 obtain ⟨k1, k2, _, _⟩ := Z.ok ρ (ZaB hρ)
 rw [hw] at k2
 have k2' : ρ.a < (ms.length : Int) := k2
 dsimp only
 rw [Zdh, hρ]
 exact ⟨ρ.a.toNat, u, by omega, hu, by rw [show ((ρ.a.toNat : Nat) : Int) = ρ.a by omega]; rfl⟩
theorem Bl.few2 {c : Cs} {L : Addr} {H : Hp} {b lg : Addr} {N : Int} {pts : List Int} {ms : List Mk3} {us : List Us} {R : List Rw} {B : List (Int × Int)} (Z : Bl c L H b lg N pts ms us R B) : Few (ks2 ms pts R) := by
 refine Zna (n := pts.length) (m := ms.length) (fun i j => [pts.getD i 0, mkP ms (j : Int)]) (fun k hk => ?_) (ZbH (ZbR Z.n40 Z.ml) (by decide))
 obtain ⟨ρ, hρ, rfl⟩ := ZaW.mp hk
 obtain ⟨_, _, ka, ka', kb, kb'⟩ := Zi7 Z.ok hρ
 have hpl := Z.pl
 exact ⟨ρ.b.toNat, ρ.a.toNat, by omega, by omega, by rw [show ((ρ.a.toNat : Nat) : Int) = ρ.a by omega]⟩
def Zks (c : Cs) (L : Addr) : Sp := fun vs H Q _ => ∃ (b lg : Addr) (N : Int) (pts : List Int) (ms : List Mk3) (us : List Us) (R : List Rw) (B : List (Int × Int)), vs = [.ref b, .ref lg] /\ Bl c L H b lg N pts ms us R B /\ Zow H (ks0 ms us R) Q
theorem Zkt (T : Txt K mg) : Zfi P w K mg base CX0 4 T.a_meetings T.fd_meetings ["board", "log"] (Zks (cs T) T.a_Log) := by
 have G_uses_by_point := Zf2 (P := P) (w := w) (base := base) T
 have G_here_rows := Zhf (P := P) (w := w) (base := base) T
 have G_meeting := Zik (P := P) (w := w) (base := base) T
 refine T.F_meetings.ok ZfG (fun vs H Q E h => ?_) (fun cdv A outer s H vs Q E hr h => ?_)
 ·obtain ⟨b, lg, N, pts, ms, us, R, B, rfl, _⟩ := h
  rfl
 have hu := Zlp hr
 obtain ⟨b, lg, N, pts, ms, us, R, B, rfl, Z, q⟩ := h
 refine ⟨_, (Zdw (Zd1 (i := 2) ZfG.nd rfl (.inl rfl) (ZdM G_uses_by_point (hr.mono (by decide)) rfl T.m_uses_by_point T.k_uses_by_point T.b_uses_by_point .nil ZdR (Zds (cv 0) Zdu)))
  (Zdw (Zd1 (i := 3) ZfG.nd rfl (.inl rfl) (Zem Zdu))
  (Zdw (Ze3 PassesOwn.never rfl (Zen (ZdM G_here_rows (hr.mono (by decide)) rfl T.m_here_rows T.k_here_rows T.b_here_rows .nil ZdR (Zds (cv 1) Zdu))) (Zeb (i := 4) ZfG.nd rfl (.inl rfl))
   (ZdB (Ze3 PassesOwn.never rfl (Zen (Zhn hu (cv 2) (ZdF ZdG (cv 4) Zdv (fun _ _ => rfl)) (Zem Zdu) ⟨rfl, rfl, rfl, rfl⟩)) (Zeb (i := 5) ZfG.nd rfl (.inl rfl))
    (ZdB (ZdT (ZfK (ZgB ZcU ZcV ZcW Zea (PE.mono (cv 3)) (Zds (PE.mono (ZdM G_meeting (hr.mono (by decide)) rfl T.m_meeting T.k_meeting T.b_meeting .nil ZdR (Zds (cv 0) (Zds (cv 4) (Zds (cv 5) Zdu))))) Zdu))))))))
  (ZdB (ZdO (Zd0 (Zf9 rfl) rfl T.z_sorted Zf8 (Zds (Zfj (ZhH hr) rfl T.z_set ZmB (Zds (cv 3) Zdu)) Zdu))))))), ?_⟩
 have sl : sizeLine = 16777216 := sizeLine_eq
 obtain ⟨bx, p0, p1, p2, p3, r0, mv, uv, h1, h2, h3, h4, h5, h6⟩ := Z.bd
 obtain ⟨dl, r, bdd, rv, bv, g1, g2, g3, g4, g5⟩ := Z.lg
 have hul := Z.ul
 refine ⟨b, bx, p0, p1, p2, p3, r0, uv, us, rfl, h1, h5, h6, by omega, fun d Lu H1 S1 hd hL W => ?_⟩
 dsimp only [Ze9]
 refine ⟨(by show 0 <= sizeLine; decide), fun f hf => ?_⟩
 have s2 := Zdz hf (.lst [])
 have ef : (upd H1 f (.lst [])) f = some (.lst []) := Zdt
 have W2 : DL (upd H1 f (.lst [])) d Lu (ixv us us.length) us.length := W.same fun a o e _ => s2 _ _ e
 dsimp only [Ze9]
 generalize upd H1 f (.lst []) = H2 at s2 ef W2 ⊢
 have S2 := S1.trans s2
 refine ⟨lg, dl, r, bdd, rv, R, rfl, S2 _ _ g1, S2 _ _ g2, g3.mono (ZdN.tk S2), Z.rl, fun l xs H3 S3 hl el hx => ?_⟩
 have S3' := S2.trans S3
 have nf : ∀ {a : Addr} {o : HO}, H1 a = some o -> a ≠ f := fun e => ZdD e hf
 have ef3 := S3 _ _ ef
 have hHf : H f = none := S1.free hf
 have nlf : l ≠ f := fun z => by rw [z, ef] at hl; cases hl
 have W3 : DL H3 d Lu (ixv us us.length) us.length := W2.same fun a o e _ => S3 _ _ e
 have ed1 : ∃ kvs, H1 d = some (.dK kvs) := by obtain ⟨kvs, e, _⟩ := W; exact ⟨kvs, e⟩
 have dnf : d ≠ f := by obtain ⟨kvs, e⟩ := ed1; exact nf e
 have lnf : ∀ a ∈ Lu, a ≠ f := fun a ha => by obtain ⟨_, o, e⟩ := hL a ha; exact nf e
 have lx := hx.length
 rw [Zar] at lx
 have hrl : (Zje R).length <= 8192 := ZbH (ZaN _ _) Z.rl
 refine ⟨l, rfl, ⟨_, SqL.of el⟩, Zeo (xs := xs) (fun i σ H4 => ∃ (o4 o5 : Option V) (ps : List (Addr × List Int)), σ = [some (.ref b), some (.ref lg), some (.ref d), some (.ref f), o4, o5] /\ Kf f H3 H4 /\ H4 f = some (.lst (ps.map fun p => V.ref p.1)) /\ ZfL H4 ps /\ ps.map Prod.snd = kk0 ms us R i)
  ⟨none, none, [], rfl, fun _ _ e _ => e, ef3, fun p hp => (by cases hp), rfl⟩ (fun i σ H4 _ ⟨_, _, _, _, F, _⟩ => SqL.of (F _ _ el nlf)) ?_ ?_⟩
 ·rintro i v σ H4 hv ⟨o4, o5, ps, rfl, F4, ef4, hp4, hk4⟩
  obtain ⟨dd, e1, e2⟩ := ZhP hx hv
  rw [ZaA] at e1
  obtain ⟨ρ, hρ, rfl⟩ := Zch.mp e1
  obtain ⟨⟨t, wv, rfl, et⟩, _⟩ := Zj0 e2
  obtain ⟨_, _, ka, ka', _, _⟩ := Zi7 Z.ok (ZaB hρ)
  have hi : i < (Zje R).length := (Zaj.mp hρ).1
  have ntf : t ≠ f := ZdY et ef3 fun z => nomatch z
  have W4 : DL H4 d Lu (ixv us us.length) us.length := W3.same fun a o e h => F4 a o e (h.elim (fun z => z ▸ dnf) fun m => lnf a m)
  refine ⟨d, rfl, .inl (by obtain ⟨kvs, e, _⟩ := W4; exact ⟨kvs, .inl e⟩), _, F4 _ _ et ntf, ZdC (Zdy (j := 2) rfl) ⟨(by show 0 <= sizeLine; decide), fun zz hz => ?_⟩⟩
  obtain ⟨kvs, l2, ek, eg, hl2, own⟩ := W4.get ρ.b hz
  have s5 := Zdz hz (.lst [])
  have nl2 : l2 ≠ f := fun h => by
   rcases own with m | m
   ·exact lnf l2 m h
   ·rw [h, ef4] at m; cases m
  have F5 : Kf f H3 (upd H4 zz (.lst [])) := F4.trans (.of s5)
  have ef5 := s5 _ _ ef4
  have hp5 : ZfL (upd H4 zz (.lst [])) ps := ZgZ hp4 s5
  refine ⟨_, Zh9.k (k := Sum.inl ρ.b) ek, l2, eg, ⟨_, SqL.of hl2⟩, ?_⟩
  generalize upd H4 zz (.lst []) = H5 at F5 ef5 hp5 hl2 ⊢
  have mo : ∃ mk, ms[ρ.a.toNat]? = some mk := ⟨_, ZaT (by omega)⟩
  obtain ⟨mk, hmk⟩ := mo
  refine Zeo (xs := ixv us us.length ρ.b) (fun j σ H6 => ∃ (o5 : Option V) (ps : List (Addr × List Int)), σ = [some (.ref b), some (.ref lg), some (.ref d), some (.ref f), some (.ref t), o5] /\ Kf f H5 H6 /\ H6 f = some (.lst (ps.map fun p => V.ref p.1)) /\ ZfL H6 ps /\ ps.map Prod.snd = kk0 ms us R i ++ ((ixn (atU us) ρ.b us.length).take j).map fun u => mt ms us ρ.a u)
   ⟨o5, ps, rfl, fun _ _ e _ => e, ef5, hp5, by simpa using hk4⟩ (fun j σ H6 _ ⟨_, _, _, F, _⟩ => SqL.of (F _ _ hl2 nl2)) ?_ ?_
  ·rintro j v σ H6 hv2 ⟨o5, ps, rfl, F6, ef6, hp6, hk6⟩
   unfold ixv at hv2
   rw [ZaA] at hv2
   obtain ⟨u', hu', rfl⟩ := Zch.mp hv2
   obtain ⟨u, rfl, hul2⟩ := Znb (ZaB hu')
   obtain ⟨uu, huu⟩ : ∃ uu, us[u]? = some uu := ⟨_, ZaT hul2⟩
   have S6 : ZdN H H6 := (F5.trans F6).same S3' hHf
   have hj : j < us.length := ZbE (Zaj.mp hu').1 ZhB
   have hlen := congrArg Zaw hk6
   rw [Zar, ZaC, Zar, Zax] at hlen
   have hkl := ZpA ms us R i
   have hb1 : us.length * i <= 64 * 8192 := ZbR hul (by omega)
   refine ⟨⟨_, ef6⟩, b, bx, p0, p1, p2, p3, t, r0, wv, mv, uv, ms, us, _, ρ.a, ρ.b, u, mk, uu, rfl, S6 _ _ h1, S6 _ _ h3, h4.imp fun _ _ h => (show M3 _ H6 _ _ from Zic.mono (ZdN.fk S6) h), S6 _ _ h5, h6.imp fun _ _ h => h.mono (ZdN.fk S6), F6 _ _ (F5 _ _ et ntf) ntf, ka, hmk, huu, fun t' ht' => ?_⟩
   have s7 := Zdz ht' (.tup [.int mk.p, .int uu.pl, .int uu.sl])
   have e7 : (upd H6 t' (.tup [.int mk.p, .int uu.pl, .int uu.sl])) t' = some (.tup [.int mk.p, .int uu.pl, .int uu.sl]) := Zdt
   have ef7 := s7 _ _ ef6
   have hp7 := ZgZ hp6 s7
   have F7 : Kf f H5 (upd H6 t' (.tup [.int mk.p, .int uu.pl, .int uu.sl])) := F6.trans (.of s7)
   generalize upd H6 t' (.tup [.int mk.p, .int uu.pl, .int uu.sl]) = H7 at e7 ef7 hp7 F7 ⊢
   refine ⟨_, ef7, by rw [Zar]; omega, _, ps ++ [(t', [mk.p, uu.pl, uu.sl])], rfl, F7.put _, ?_, fun p hp => ?_, ?_⟩
   ·rw [Zdt, ZaO]
    rfl
   ·rw [ZdA (fun z => ?_)]
    ·rcases Zah.mp hp with hp | hp
     ·exact hp7 p hp
     ·rw [ZaS.mp hp]
      exact e7
    ·rcases Zah.mp hp with hp | hp
     ·exact absurd z (ZdY (hp7 p hp) ef7 fun z => nomatch z)
     ·rw [ZaS.mp hp] at z
      exact absurd z (ZdY e7 ef7 fun z => nomatch z)
   ·rw [ZaO, hk6, Zbj, hu', ZaO, Za7]
    congr 2
    show [[mk.p, uu.pl, uu.sl]] = [mt ms us ρ.a (u : Int)]
    rw [Zn1 hmk huu]
  ·rintro σ H6 ⟨o5, ps, rfl, F6, ef6, hp6, hk6⟩
   refine ⟨_, _, ps, rfl, F5.trans F6, ef6, hp6, ?_⟩
   rw [hk6, Zn0 ms us hρ]
   unfold ixv
   rw [Zar, ZaP]
 ·rintro σ H4 ⟨o4, o5, ps, rfl, F4, ef4, hp4, hk4⟩
  have e : kk0 ms us R xs.length = ks0 ms us R := by
   rw [lx]
   unfold kk0 ks0
   rw [ZaP]
  rw [e] at hk4
  exact Zi8 (F4.same S3' hHf) ef4 hp4 hk4 Znd Z.few0 q
end
section
variable {P : Program} {w : World} {K : PySem.W.Frag} {mg : Str -> Option Value} {base : Heap}
def ZhQ (c : Cs) (L : Addr) : Sp := fun vs H Q _ => ∃ (b lg : Addr) (N : Int) (pts : List Int) (ms : List Mk3) (us : List Us) (R : List Rw) (B : List (Int × Int)), vs = [.ref b, .ref lg] /\ Bl c L H b lg N pts ms us R B /\ Zow H (ks1 ms us R B) Q
theorem ZhR (T : Txt K mg) : Zfi P w K mg base CX0 4 T.a_bad_meetings T.fd_bad_meetings ["board", "log"] (ZhQ (cs T) T.a_Log) := by
 have G_meeting := Zik (P := P) (w := w) (base := base) T
 refine T.F_bad_meetings.ok ZhI (fun vs H Q E h => ?_) (fun cdv A outer s H vs Q E hr h => ?_)
 ·obtain ⟨b, lg, N, pts, ms, us, R, B, rfl, _⟩ := h
  rfl
 obtain ⟨b, lg, N, pts, ms, us, R, B, rfl, Z, q⟩ := h
 refine ⟨_, (ZdB (ZdO (Zd0 (Zf9 rfl) rfl T.z_sorted Zf8 (Zds (Zfj (ZhH hr) rfl T.z_set ZmB (Zds (Zjw rfl (Zod (x := "bad") ["log", "board"] [("log", 1, s.heap.objs.size + 2), ("board", 0, s.heap.objs.size + 1)] rfl rfl (by decide +kernel) (by decide +kernel) rfl (by decide +kernel) rfl rfl (by intro p hp; simp only [Zag, ZaV, or_false] at hp; rcases hp with rfl | rfl <;> exact ⟨rfl, rfl, rfl, rfl⟩)) (Zen (ZdI T.cl_Log T.n_Log_bads (cv 1))) (fun _ _ _ _ _ => ZfS) (fun _ _ _ _ _ => (ZdM G_meeting (hr.mono (by decide)) rfl T.m_meeting T.k_meeting T.b_meeting .nil ZdR (Zds (cv 2) (Zds (ZdF ZdK (ZdI T.cl_Log T.n_Log_rows (cv 1)) (ZdF ZdG (cv 0) Zdv (fun _ _ => rfl)) (fun _ _ => rfl)) (Zds (ZdF ZdG (cv 0) Zdv (fun _ _ => rfl)) Zdu)))))) Zdu)) Zdu)))), ?_⟩
 have sl : sizeLine = 16777216 := sizeLine_eq
 obtain ⟨bx, p0, p1, p2, p3, r0, mv, uv, h1, h2, h3, h4, h5, h6⟩ := Z.bd
 obtain ⟨dl, r, bdd, rv, bv, g1, g2, g3, g4, g5⟩ := Z.lg
 have lb := g5.length
 have lr := g3.length
 rw [Zar] at lb lr
 have hbl := Z.bl
 refine ⟨_, ⟨_, _, g1, (ZeJ (by decide +kernel)).trans ZfP⟩, bdd, rfl, ⟨_, SqL.of g4⟩, fun D hD => ?_⟩
 refine Zhd bv.length (by omega) (fun xs Hc => ∃ ps : List (Addr × List Int), xs = ps.map (fun p => V.ref p.1) /\ ZfL Hc ps /\ ps.map Prod.snd = ks1 ms us R (B.take xs.length)) (fun xs _ _ ⟨ps, e1, e2, e3⟩ tk => ⟨ps, e1, Znc e2 tk, e3⟩) hD rfl (fun k H2 s2 hk => ZkL g4 s2 hk) (fun H2 s2 => ZkM g4 s2) ⟨[], rfl, fun p hp => (by cases hp), rfl⟩ ?_ ?_
 ·rintro k H4 v H5 xs Zk S4 hk ⟨rfl, hv⟩ ⟨ps, rfl, hp, hkk⟩ hl z
  obtain ⟨x, tx, hx, rfl, ex⟩ := Zii (g5.mono (ZdN.tk S4)) (hv _ (SqL.of (S4 _ _ g4)))
  obtain ⟨n, u, ρ, rfl, hρ, hw, hu⟩ := Z.bok x (ZaB hx)
  obtain ⟨k1, k2, _, _⟩ := Z.ok ρ (ZaB hρ)
  rw [hw] at k2
  have k2' : ρ.a < (ms.length : Int) := k2
  obtain ⟨t, wv, h1', e0, _⟩ := Zij (g3.mono (ZdN.tk S4)) hρ
  obtain ⟨mk, hmk⟩ : ∃ mk, ms[ρ.a.toNat]? = some mk := ⟨_, ZaT (by omega)⟩
  obtain ⟨uu, huu⟩ : ∃ uu, us[u]? = some uu := ⟨_, ZaT hu⟩
  refine ⟨_, ⟨_, _, S4 _ _ g1, ZfP⟩, _, ex, ZdC (Zdy (j := 0) rfl) ⟨_, S4 _ _ g2, ZdC (Zdy h1') ⟨_, ex, ZdC (Zdy (j := 1) rfl) ⟨b, bx, p0, p1, p2, p3, t, r0, wv, mv, uv, ms, us, _, ρ.a, ρ.b, u, mk, uu, rfl, S4 _ _ h1, S4 _ _ h3, h4.imp fun _ _ h => (show M3 _ H5 _ _ from Zic.mono (ZdN.fk S4) h), S4 _ _ h5, h6.imp fun _ _ h => h.mono (ZdN.fk S4), e0, k1, hmk, huu, fun t' ht' => ?_⟩⟩⟩⟩
  have s7 := Zdz ht' (.tup [.int mk.p, .int uu.pl, .int uu.sl])
  refine z _ _ s7 ⟨ps ++ [(t', [mk.p, uu.pl, uu.sl])], by rw [ZaO]; rfl, fun p hp' => ?_, ?_⟩
  ·rcases Zah.mp hp' with hp' | hp'
   ·exact s7 _ _ (hp p hp')
   ·rw [ZaS.mp hp']
    exact Zdt
  ·rw [ZaC, ZaL, hl, ZaO, hkk, hl, Zbj, hx]
   unfold ks1
   rw [ZaO]
   congr 1
   show [[mk.p, uu.pl, uu.sl]] = [mt ms us (((R[((n : Nat) : Int).toNat]?).map Rw.a).getD 0) (u : Int)]
   rw [Zdh, hρ, <- Zn1 hmk huu]
   rfl
 ·rintro H4 xs S4 ⟨ps, rfl, hp, hkk⟩ hl e
  rw [hl, lb, ZaP] at hkk
  exact Zi8 S4 e hp hkk (fun k hk => by obtain ⟨x, _, rfl⟩ := ZaW.mp hk; exact Zcd _ _) Z.few1 q
def Zku (c : Cs) (L : Addr) : Sp := fun vs H Q _ => ∃ (b lg : Addr) (N : Int) (pts : List Int) (ms : List Mk3) (us : List Us) (R : List Rw) (B : List (Int × Int)), vs = [.ref b, .ref lg] /\ Bl c L H b lg N pts ms us R B /\ Zow H (ks2 ms pts R) Q
theorem Zkv (T : Txt K mg) : Zfi P w K mg base CX0 4 T.a_arrivals T.fd_arrivals ["board", "log"] (Zku (cs T) T.a_Log) := by
 have G_here_rows := Zhf (P := P) (w := w) (base := base) T
 refine T.F_arrivals.ok Zkj (fun vs H Q E h => ?_) (fun cdv A outer s H vs Q E hr h => ?_)
 ·obtain ⟨b, lg, N, pts, ms, us, R, B, rfl, _⟩ := h
  rfl
 obtain ⟨b, lg, N, pts, ms, us, R, B, rfl, Z, q⟩ := h
 refine ⟨_, (ZdB (ZdO (Zd0 (Zf9 rfl) rfl T.z_sorted Zf8 (Zds (Zfj (ZhH hr) rfl T.z_set ZmB (Zds (Zjw rfl (Zod (x := "row") ["board"] [("board", 0, s.heap.objs.size + 1)] rfl rfl (by decide +kernel) (by decide +kernel) rfl (by decide +kernel) rfl rfl (by intro p hp; simp only [Zag, ZaV, or_false] at hp; rcases hp with rfl <;> exact ⟨rfl, rfl, rfl, rfl⟩)) (Zen (ZdM G_here_rows (hr.mono (by decide)) rfl T.m_here_rows T.k_here_rows T.b_here_rows .nil ZdR (Zds (cv 1) Zdu))) (fun _ _ _ _ _ => ZfS) (fun _ _ _ _ _ => (Zel (Zds (ZdF ZdK (ZdI T.cl_Board T.n_Board_points (cv 1)) (ZdF ZdG (cv 0) Zdv (fun _ _ => rfl)) (fun _ _ => rfl)) (Zds (ZdI T.cl_Make T.n_Make_place (ZdF ZdK (ZdI T.cl_Board T.n_Board_makes (cv 1)) (ZdF ZdG (cv 0) Zdv (fun _ _ => rfl)) (fun _ _ => rfl))) Zdu))))) Zdu)) Zdu)))), ?_⟩
 have sl : sizeLine = 16777216 := sizeLine_eq
 obtain ⟨bx, p0, p1, p2, p3, r0, mv, uv, h1, h2, h3, h4, h5, h6⟩ := Z.bd
 obtain ⟨dl, r, bdd, rv, bv, g1, g2, g3, g4, g5⟩ := Z.lg
 refine ⟨lg, dl, r, bdd, rv, R, rfl, g1, g2, g3, Z.rl, fun l xr H1 S1 hl el hx => ⟨l, rfl, ⟨_, SqL.of el⟩, fun D hD => ?_⟩⟩
 have lx := hx.length
 rw [Zar] at lx
 have hrl : (Zje R).length <= 8192 := ZbH (ZaN _ _) Z.rl
 have hpl := Z.pl
 refine Zhd xr.length (by omega) (fun xs Hc => ∃ ps : List (Addr × List Int), xs = ps.map (fun p => V.ref p.1) /\ ZfL Hc ps /\ ps.map Prod.snd = ((Zje R).take xs.length).map fun ρ => [pts.getD ρ.b.toNat 0, mkP ms ρ.a]) (fun xs _ _ ⟨ps, e1, e2, e3⟩ tk => ⟨ps, e1, Znc e2 tk, e3⟩) hD rfl (fun k H2 s2 hk => ZkL el s2 hk) (fun H2 s2 => ZkM el s2) ⟨[], rfl, fun p hp => (by cases hp), rfl⟩ ?_ ?_
 ·rintro k H4 v H5 xs Zk S4 hk ⟨rfl, hv⟩ ⟨ps, rfl, hp, hkk⟩ hl' z
  have hv := hv _ (SqL.of (S4 _ _ el))
  obtain ⟨dd, e1, e2⟩ := ZhP (hx.mono (ZdN.tk S4)) hv
  rw [ZaA] at e1
  obtain ⟨ρ, hρ, rfl⟩ := Zch.mp e1
  obtain ⟨⟨t, wv, rfl, et⟩, _⟩ := Zj0 e2
  obtain ⟨_, _, ka, ka', kb, kb'⟩ := Zi7 Z.ok (ZaB hρ)
  obtain ⟨mk, hmk⟩ : ∃ mk, ms[ρ.a.toNat]? = some mk := ⟨_, ZaT (by omega)⟩
  have lm := h4.length
  obtain ⟨zv, hzv⟩ : ∃ x, mv[ρ.a.toNat]? = some x := ⟨_, ZaT (by omega)⟩
  obtain ⟨mk', hmk', hmx⟩ := h4.get hzv
  cases hmk.symm.trans hmk'
  have S5 := S1.trans S4
  obtain ⟨xm, dm, f, rfl, exm, _⟩ := (show M3 _ H5 _ _ from Zic.mono (ZdN.fk S5) hmx)
  have hat : atI mv ρ.a = some (.ref xm) := by rw [show ρ.a = ((ρ.a.toNat : Nat) : Int) by omega]; exact Zdy hzv
  have hpt : atI (pts.map V.int) ρ.b = some (.int (pts.getD ρ.b.toNat 0)) := by
   rw [show ρ.b = ((ρ.b.toNat : Nat) : Int) by omega]
   refine Zdy ?_
   rw [ZaA, Zdh, ZaY, ZaT (by omega)]
   rfl
  have ep : (mkg mk.f mk.a mk.p).p = mk.p := by
   obtain ⟨mf, ma, mp⟩ := mk
   cases mf <;> rfl
  rw [ep] at exm
  refine ⟨_, ⟨_, _, S5 _ _ h1, ZfP⟩, _, et, ZdC (Zdy (j := 2) rfl) ⟨_, S5 _ _ h2, ZdC hpt ⟨_, ⟨_, _, S5 _ _ h1, (ZeJ (by decide +kernel)).trans ZfP⟩, _, et, ZdC (Zdy (j := 1) rfl) ⟨_, S5 _ _ h3, ZdC hat ⟨.int mk.p, ⟨_, _, exm, by kernel_rfl⟩, (by show 2 <= sizeLine; decide), fun t' ht' => ?_⟩⟩⟩⟩⟩
  have s7 := Zdz ht' (.tup [.int (pts.getD ρ.b.toNat 0), .int mk.p])
  refine z _ _ s7 ⟨ps ++ [(t', [pts.getD ρ.b.toNat 0, mk.p])], by rw [ZaO]; rfl, fun p hp' => ?_, ?_⟩
  ·rcases Zah.mp hp' with hp' | hp'
   ·exact s7 _ _ (hp p hp')
   ·rw [ZaS.mp hp']
    exact Zdt
  ·rw [ZaC, ZaL, hl', ZaO, hkk, hl', Zbj, hρ, ZaO]
   congr 1
   show [[pts.getD ρ.b.toNat 0, mk.p]] = [[pts.getD ρ.b.toNat 0, mkP ms ρ.a]]
   unfold mkP
   rw [hmk]
   rfl
 ·rintro H4 xs S4 ⟨ps, rfl, hp, hkk⟩ hl' e
  rw [hl', lx, ZaP] at hkk
  exact Zi8 (S1.trans S4) e hp hkk (fun k hk => by obtain ⟨x, _, rfl⟩ := ZaW.mp hk; exact Zcd _ _) Z.few2 q
end
section
variable {P : Program} {w : World} {K : PySem.W.Frag} {mg : Str -> Option Value} {base : Heap}
def Zh5 : Sp := fun vs H Q _ => ∃ (l : Addr) (n : Nat) (ps : List (Addr × List Int)), vs = [.ref l, .int (n : Int)] /\ H l = some (.lst (ps.map fun p => V.ref p.1)) /\ ZfL H ps /\ (∀ p ∈ ps, p.2.length = n) /\ n <= 3 /\ ∀ H', ZdN H H' -> Q (.bl true) H'
theorem Zh6 (T : Txt K mg) : Zfi P w K mg base CX0 3 T.a_tuples T.fd_tuples ["_law_found", "_law_size"] Zh5 := by
 have G_whole := ZfY (P := P) (w := w) (base := base) T
 refine T.F_tuples.ok Zgw (fun vs H Q E h => ?_) (fun cdv A outer s H vs Q E hr h => ?_)
 ·obtain ⟨l, n, ps, rfl, _⟩ := h
  rfl
 obtain ⟨l, n, ps, rfl, el, hp, hn, hn3, q⟩ := h
 refine ⟨_, (Zdw (Zez (Zf0 (ZfZ (Zd0 Zfy rfl T.z_isinstance Zee (Zds (cv 0) (Zds (ZgM rfl T.z_list Zhy) Zdu)))))
   (ZdB (ZdO Zgo))
   ZdS)
  (Zdw (Ze3 PassesOwn.never rfl (Zen (cv 0)) (Zeb (i := 2) Zgw.nd rfl (.inl rfl))
   (ZdB (Zez (PW.pt (Zjh (Zf0 (ZfZ (Zd0 Zfy rfl T.z_isinstance Zee (Zds (cv 2) (Zds (ZgM rfl T.z_tuple Zho) Zdu))))) (Zjh (ZdQ ZnC (Zd0 Zfh rfl T.z_len Zhx (Zds (cv 2) Zdu)) (cv 1) (Zd3 _)) (Zh7 (Zf0 (ZfZ (Zd0 (ZnA rfl) rfl T.z_all Zp9 (Zds (Zjw rfl (ZrW (x := "_law_x") rfl (by decide +kernel) (by decide +kernel) rfl rfl) (Zn3 (cv 2)) (fun _ _ _ _ _ => ZfS) (fun _ _ _ _ _ => (ZdM G_whole (hr.mono (by decide)) rfl T.m_whole T.k_whole T.b_whole .nil ZdR (Zds (cv 0) Zdu)))) Zdu))))))))
    (ZdB (ZdO Zgo))
    ZdS)))
  (ZdB (ZdO Zgo)))), ?_⟩
 have sl : sizeLine = 16777216 := sizeLine_eq
 refine ⟨_, _, _, _, true, rfl, fun _ r => r, .lst el, rfl, _, rfl, ZfA ?_⟩
 refine ⟨l, rfl, ⟨_, SqL.of el⟩, Zeo (xs := ps.map fun p => V.ref p.1) (fun i σ H2 => ∃ (o : Option V), σ = [some (.ref l), some (.int (n : Int)), o] /\ ZdN H H2) ⟨none, rfl, ZdN.refl _⟩ (fun i σ H2 _ ⟨_, _, S⟩ => SqL.of (S _ _ el)) ?_ ?_⟩
 ·rintro i v σ H2 hv ⟨o, rfl, S2⟩
  rw [ZaA] at hv
  obtain ⟨p, hpi, rfl⟩ := Zch.mp hv
  have ep := S2 _ _ (hp p (ZaB hpi))
  have hl := hn p (ZaB hpi)
  refine ⟨_, _, _, _, true, rfl, fun _ r => r, .tup ep, rfl, _, rfl, ZfA ⟨p.1, _, rfl, .inr (SqT.of ep), ?_⟩⟩
  show if (true ^^ decide ((((p.2.map V.int).length : Nat) : Int) = ((n : Nat) : Int))) = true then _ else _
  rw [Zar, hl, decide_eq_true rfl]
  refine ZfA ⟨p.1, rfl, ⟨_, SqT.of ep⟩, fun D hD => ?_⟩
  refine Zhd (p.2.map V.int).length (by rw [Zar]; omega) (fun xs _ => xs = (Zav xs.length true).map V.bl) (fun xs _ _ h _ => h) hD rfl (fun k H3 s3 hk => Zqh ep s3 hk) (fun H3 s3 => Zqi ep s3) rfl ?_ ?_
  ·rintro k H4 v H5 xs Zk S4 hk ⟨rfl, hv⟩ hx hl' z
   have hv := hv _ (SqT.of (S4 _ _ ep))
   rw [ZaA] at hv
   obtain ⟨m, hm, rfl⟩ := Zch.mp hv
   refine ⟨m, rfl, z _ _ (ZdN.refl _) ?_⟩
   rw [ZaC, ZaL, List.replicate_succ', ZaO, <- hx]
   rfl
  ·rintro H4 xs S4 hx hl' e
   refine ⟨D, Zav xs.length true, rfl, SqL.of (by rw [<- hx]; exact e), _, rfl, ?_⟩
   rw [show (Zav xs.length true).all id = true by simp]
   exact ZfA ⟨_, rfl, S2.trans S4⟩
 ·rintro σ H2 ⟨o, rfl, S2⟩
  exact q _ S2
end
section
variable {P : Program} {w : World} {K : PySem.W.Frag} {mg : Str -> Option Value} {base : Heap}
noncomputable def ksW (ms : List Mk3) (us : List Us) (pts : List Int) (R : List Rw) (B : List (Int × Int)) (wh : Int) : List (List Int) := if wh = 0 then ks0 ms us R else if wh = 1 then ks1 ms us R B else ks2 ms pts R
def Dk (H : Hp) (d : Addr) (M : Nat) (S : List Int -> Prop) : Prop := ∃ (kvs : List (List Key × V)) (ls : List (List Int)), H d = some (.dT kvs) /\ kvs.map Prod.fst = ls.map (fun k => k.map Sum.inl) /\ kvs.length <= M /\ ∀ k, k ∈ ls ↔ S k
theorem Dk.nil {H : Hp} {d : Addr} {M : Nat} (e : H d = some (.dT [])) : Dk H d M fun k => k ∈ ([] : List (List Int)) := ⟨[], [], e, rfl, ZbL _, fun k => Iff.rfl⟩
theorem Zne : ∀ {k k' : List Int}, k.map (Sum.inl : Int -> Key) = k'.map Sum.inl -> k = k'
 | [], [], _ => rfl
 | [], _ :: _, h => by cases h
 | _ :: _, [], h => by cases h
 | a :: k, b :: k', h => by
  rw [Zaq, Zaq] at h
  injection h with h1 h2
  injection h1 with h1
  rw [h1, Zne h2]
theorem Dk.put {H H2 : Hp} {d t : Addr} {M : Nat} {S : List Int -> Prop} (k : List Int) (v : V) (D : Dk H2 d M S) (ht : H2 t = none) (hM : M < sizeLine) (S2 : ZdN H H2) (hd : H d = none) :
  ∃ H', Znt (upd H2 t (.tup (k.map V.int))) d (.ref t) v H' /\ ZdN H H' /\ Dk H' d (M + 1) fun k' => S k' \/ k' = k := by
 obtain ⟨kvs, ls, e, hk, hl, hm⟩ := D
 have s3 := Zdz ht (.tup (k.map V.int))
 refine ⟨_, Znt.t (k := k.map Sum.inl) (s3 _ _ e) (by rw [Zdt, Zby]; rfl) (by omega), ZfV (S2.trans s3) hd _, ZfM kvs (k.map Sum.inl) v, if k ∈ ls then ls else ls ++ [k], Zdt, ?_, ZbH (Zfa _ _ _) (by omega), fun k' => ?_⟩
 ·unfold ZfM
  by_cases h : k ∈ ls
  ·have hin : (kvs.any fun kv => decide (kv.1 = k.map Sum.inl)) = true := by
    have : k.map Sum.inl ∈ kvs.map Prod.fst := by rw [hk]; exact ZbA h
    obtain ⟨kv, h1, h2⟩ := ZaW.mp this
    exact List.any_eq_true.mpr ⟨kv, h1, by simpa using h2⟩
   rw [if_pos hin, if_pos h, Zby, <- hk]
   refine Zbz fun kv _ => ?_
   show (if kv.1 = _ then (kv.1, v) else kv).1 = kv.1
   split <;> rfl
  ·have hin : ¬(kvs.any fun kv => decide (kv.1 = k.map Sum.inl)) = true := fun z => h (by
    obtain ⟨kv, h1, h2⟩ := List.any_eq_true.mp z
    have h3 : kv.1 ∈ kvs.map Prod.fst := ZbA h1
    rw [hk] at h3
    obtain ⟨k', h4, h5⟩ := ZaW.mp h3
    have h6 : k'.map Sum.inl = k.map Sum.inl := h5.trans (by simpa using h2)
    rw [<- Zne h6]
    exact h4)
   rw [if_neg hin, if_neg h, ZaO, ZaO, hk]
   rfl
 ·split
  ·rename_i h
   rw [hm]
   exact ⟨.inl, fun z => z.elim id fun e => e ▸ (hm k).mp h⟩
  ·rw [Zah, ZaS, hm]
theorem Dk.iff {H : Hp} {d : Addr} {M M' : Nat} {S S' : List Int -> Prop} (D : Dk H d M S) (h : ∀ k, S k ↔ S' k) (hM : M <= M') : Dk H d M' S' := by
 obtain ⟨kvs, ls, e, hk, hl, hm⟩ := D
 exact ⟨kvs, ls, e, hk, ZbH hl hM, fun k => (hm k).trans (h k)⟩
theorem Znf {H H2 : Hp} {d : Addr} {M : Nat} {ks : List (List Int)} {Q : VK} (D : Dk H2 d M fun k => k ∈ ks) (S : ZdN H H2) (h1 : ∀ k ∈ ks, 1 <= k.length) (q : Zow H ks Q) :
  ∃ (d' : Addr) (kvs : List (List Key × V)) (ks : List (List Int)), [V.ref d] = [.ref d'] /\ H2 d' = some (.dT kvs) /\ kvs.map Prod.fst = ks.map (fun k => k.map Sum.inl) /\ (∀ k ∈ ks, 1 <= k.length) /\
   ∀ (l : Addr) (ps' : List (Addr × List Int)), H2 l = none -> ZfL H2 ps' -> ks.Nodup -> (ps'.map Prod.snd).Perm ks -> (ps'.map Prod.snd).Pairwise leL -> Q (.ref l) (upd H2 l (.lst (ps'.map fun p => V.ref p.1))) := by
 obtain ⟨kvs, ls, e, hk, _, hm⟩ := D
 refine ⟨d, kvs, ls, rfl, e, hk, fun k hk' => h1 k ((hm k).mp hk'), fun l ps' hl tp nd pm pw => ?_⟩
 have s2 := Zdz hl (.lst (ps'.map fun p => V.ref p.1))
 exact q l ps' _ (S.trans s2) (S.free hl) Zdt (ZgZ tp s2) (pm.nodup_iff.mpr nd) pw fun k => (pm.mem_iff).trans (hm k)
theorem Zox {H : Hp} {v : V} {u : Us} (h : Im H v u.d) : ∃ t s r, v = .ref t /\ H t = some (.tup (.str s :: .int u.at :: .int u.pl :: .int u.sl :: r)) := by
 cases u with
 | num a p s => obtain ⟨t, xs, rfl, e, _⟩ := Zgy (r := []) (show Im H v (.tup (hdD "num" a p s ++ [])) from h); exact ⟨t, _, _, rfl, e⟩
 | call a p s y z => obtain ⟨t, xs, rfl, e, _⟩ := Zgy h; exact ⟨t, _, _, rfl, e⟩
 | take a p s l => obtain ⟨t, xs, rfl, e, _⟩ := Zgy h; exact ⟨t, _, _, rfl, e⟩
 | case a p s l => obtain ⟨t, xs, rfl, e, _⟩ := Zgy h; exact ⟨t, _, _, rfl, e⟩
 | row a p s y => obtain ⟨t, xs, rfl, e, _⟩ := Zgy h; exact ⟨t, _, _, rfl, e⟩
theorem ZpB {ms : List Mk3} {us : List Us} {R : List Rw} {B : List (Int × Int)} : ∀ k ∈ ks1 ms us R B, 1 <= k.length := fun k hk => by
 obtain ⟨x, _, rfl⟩ := ZaW.mp hk
 exact Zcd _ _
theorem ZpC {ms : List Mk3} {pts : List Int} {R : List Rw} : ∀ k ∈ ks2 ms pts R, 1 <= k.length := fun k hk => by
 obtain ⟨x, _, rfl⟩ := ZaW.mp hk
 exact Zcd _ _
def Zkw (L : Addr) : Sp := fun vs H Q _ => ∃ (c : Cs) (th q0 q1 q2 q3 b lg : Addr) (N wh : Int) (pts : List Int) (ms : List Mk3) (us : List Us) (fs : List (Int × Int)) (R : List Rw) (B : List (Int × Int)), vs = [.ref th, .ref lg, .int wh] /\ Th H th q0 q1 q2 q3 pts ms us fs /\ Bl c L H b lg N pts ms us R B /\ 0 <= wh /\ wh <= 2 /\ Zow H (ksW ms us pts R B wh) Q
theorem Zkx (T : Txt K mg) : Zfi P w K mg base CX0 4 T.a_due T.fd_due ["_law_things_here", "_law_log", "_law_which"] (Zkw T.a_Log) := by
 refine T.F_due.ok Zfg (fun vs H Q E h => ?_) (fun cdv A outer s H vs Q E hr h => ?_)
 ·obtain ⟨c, th, q0, q1, q2, q3, b, lg, N, wh, pts, ms, us, fs, R, B, rfl, _⟩ := h
  rfl
 have hu := Zlp hr
 obtain ⟨c, th, q0, q1, q2, q3, b, lg, N, wh, pts, ms, us, fs, R, B, rfl, hT, Z, hw0, hw2, q⟩ := h
 refine ⟨_, (Zdw (Zd1 (i := 3) Zfg.nd rfl (.inl rfl) ZkH)
  (Zdw (Zez (ZdQ Zft (cv 2) Zdv (Zd3 _))
   (Zdw (Ze3 PassesOwn.never rfl (Zen (ZdI T.cl_Log T.n_Log_bads (cv 1))) (ZlS rfl (Zgk (Zeb (i := 4) Zfg.nd rfl (.inl rfl)) (Zgk (Zeb (i := 5) Zfg.nd rfl (.inl rfl)) Zj6)))
    (Zdw (Zd1 (i := 6) Zfg.nd rfl (.inl rfl) (ZdF ZdK (ZdF ZdK (cv 0) Zdv (fun _ _ => rfl)) (cv 5) (fun _ _ => rfl)))
    (ZdB (Zip hu (cv 3) (Zel (Zds (ZdF ZdG (ZdF ZdK (ZdF ZdK (cv 0) Zdv (fun _ _ => rfl)) (ZdF ZdG (ZdF ZdK (ZdI T.cl_Log T.n_Log_rows (cv 1)) (cv 4) (fun _ _ => rfl)) Zdv (fun _ _ => rfl)) (fun _ _ => rfl)) Zdv (fun _ _ => rfl)) (Zds (ZdF ZdG (cv 6) Zdv (fun _ _ => rfl)) (Zds (ZdF ZdG (cv 6) Zdv (fun _ _ => rfl)) Zdu)))) Zgo rfl))))
   (ZdB (ZdO (Zd0 (ZgS rfl) rfl T.z_sorted Zf8 (Zds (cv 3) Zdu)))))
   ZdS)
  (Zdw (Ze3 PassesOwn.never rfl (Zen (ZdI T.cl_Log T.n_Log_rows (cv 1))) (Zeb (i := 7) Zfg.nd rfl (.inl rfl))
   (Zdw (Zez (PW.pt (Zkz (ZdQ Zft (ZdF ZdG (cv 7) Zdv (fun _ _ => rfl)) ZdZ (Zd3 _)) (Zim (ZdQ Zft (cv 2) Zdv (Zd3 _)))))
    (ZdB (Zip hu (cv 3) (Zel (Zds (ZdF ZdK (ZdF ZdK (cv 0) Zdv (fun _ _ => rfl)) (ZdF ZdG (cv 7) Zdv (fun _ _ => rfl)) (fun _ _ => rfl)) (Zds (ZdF ZdG (ZdF ZdK (ZdF ZdK (cv 0) Zdv (fun _ _ => rfl)) (ZdF ZdG (cv 7) Zdv (fun _ _ => rfl)) (fun _ _ => rfl)) Zdv (fun _ _ => rfl)) Zdu))) Zgo rfl))
    ZdS)
   (ZdB (Zez (PW.pt (Zkz (ZdQ Zft (ZdF ZdG (cv 7) Zdv (fun _ _ => rfl)) ZdZ (Zd3 _)) (Zim (ZdQ Zft (cv 2) Zdv (Zd3 _)))))
    (ZdB (Ze3 PassesOwn.never rfl (Zen (ZdF ZdK (cv 0) Zdv (fun _ _ => rfl))) (Zeb (i := 6) Zfg.nd rfl (.inl rfl))
     (ZdB (Zez (ZdQ Zft (ZdF ZdG (cv 6) Zdv (fun _ _ => rfl)) (ZdF ZdG (cv 7) Zdv (fun _ _ => rfl)) (Zd3 _))
      (ZdB (Zip hu (cv 3) (Zel (Zds (ZdF ZdG (ZdF ZdK (ZdF ZdK (cv 0) Zdv (fun _ _ => rfl)) (ZdF ZdG (cv 7) Zdv (fun _ _ => rfl)) (fun _ _ => rfl)) Zdv (fun _ _ => rfl)) (Zds (ZdF ZdG (cv 6) Zdv (fun _ _ => rfl)) (Zds (ZdF ZdG (cv 6) Zdv (fun _ _ => rfl)) Zdu)))) Zgo rfl))
      ZdS))))
    ZdS))))
  (ZdB (ZdO (Zd0 (ZgS rfl) rfl T.z_sorted Zf8 (Zds (cv 3) Zdu))))))), ?_⟩
 have sl : sizeLine = 16777216 := sizeLine_eq
 obtain ⟨dl, r, bdd, rv, bv, g1, g2, g3, g4, g5⟩ := Z.lg
 obtain ⟨et, e0, ⟨mv, em, im⟩, ⟨uv, eu, iu⟩, _⟩ := hT
 have lb := g5.length
 rw [Zar] at lb
 have hbl := Z.bl
 have lu := iu.length
 have lm := im.length
 rw [Zar] at lu lm
 intro d hd
 have s1 := Zdz hd (.dT [])
 have e1 : (upd H d (.dT [])) d = some (.dT []) := Zdt
 dsimp only [Ze9]
 generalize upd H d (.dT []) = H1 at s1 e1 ⊢
 show if (false ^^ decide (wh = 1)) = true then _ else _
 by_cases w1 : wh = 1
 ·rw [decide_eq_true w1]
  refine ZgJ ⟨_, ⟨_, _, s1 _ _ g1, (ZeJ (by decide +kernel)).trans ZfP⟩, bdd, rfl, ⟨_, SqL.of (s1 _ _ g4)⟩, Zeo (xs := bv) (fun i σ H2 => ∃ (o4 o5 o6 : Option V), σ = [some (.ref th), some (.ref lg), some (.int wh), some (.ref d), o4, o5, o6, none] /\ ZdN H H2 /\ Dk H2 d i fun k => k ∈ ks1 ms us R (B.take i))
   ⟨none, none, none, rfl, s1, Dk.nil e1⟩ (fun i σ H2 _ ⟨_, _, _, _, S, _⟩ => SqL.of (S _ _ g4)) ?_ ?_⟩
  ·rintro i v σ H2 hv ⟨o4, o5, o6, rfl, S2, D2⟩
   obtain ⟨x, tx, hx, rfl, ex⟩ := Zii (g5.mono (ZdN.tk S2)) hv
   obtain ⟨n, u, ρ, rfl, hρ, hw, hu'⟩ := Z.bok x (ZaB hx)
   refine ⟨tx, _, rfl, SqT.of ex, rfl, _, _, rfl, _, _, rfl, rfl, ?_⟩
   obtain ⟨vu, hvu⟩ : ∃ v, uv[u]? = some v := ⟨_, ZaT (by omega)⟩
   refine ⟨_, S2 _ _ et, ZdC (Zdy (j := 2) rfl) ⟨_, S2 _ _ eu, ZdC (Zdy hvu) ?_⟩⟩
   dsimp only [Ze9]
   obtain ⟨uu, huu, ivu⟩ := Zla iu hvu
   obtain ⟨tu, su, ru, rfl, etu⟩ := Zox (ivu.mono (ZdN.tk S2))
   obtain ⟨k1, k2, _, _⟩ := Z.ok ρ (ZaB hρ)
   rw [hw] at k2
   have k2' : ρ.a < (ms.length : Int) := k2
   obtain ⟨t, wv, h1', e0', _⟩ := Zij (g3.mono (ZdN.tk S2)) hρ
   obtain ⟨vm, hvm⟩ : ∃ v, mv[ρ.a.toNat]? = some v := ⟨_, ZaT (by omega)⟩
   obtain ⟨mk, tm, f, hmk, rfl, etm, _⟩ := Zk9 im hvm
   have hat : atI mv ρ.a = some (.ref tm) := by rw [show ρ.a = ((ρ.a.toNat : Nat) : Int) by omega]; exact Zdy hvm
   have hi := (Zaj.mp hx).1
   refine ⟨_, S2 _ _ et, ZdC (Zdy (j := 1) rfl) ⟨_, ⟨_, _, S2 _ _ g1, ZfP⟩, _, S2 _ _ g2, ZdC (Zdy h1') ⟨_, e0', ZdC (Zdy (j := 1) rfl) ⟨_, S2 _ _ em, ZdC hat ⟨_, S2 _ _ etm, ZdC (Zdy (j := 3) rfl) ⟨_, etu, ZdC (Zdy (j := 2) rfl) ⟨_, etu, ZdC (Zdy (j := 3) rfl) ⟨(by show 3 <= sizeLine; decide), fun t' ht' => ?_⟩⟩⟩⟩⟩⟩⟩⟩
   obtain ⟨H', hput, S', D'⟩ := D2.put [mk.p, uu.pl, uu.sl] (.bl true) ht' (by omega) S2 hd
   refine ⟨d, H', rfl, hput, _, _, _, rfl, S', D'.iff (fun k => ?_) (ZbK _)⟩
   rw [Zbj, hx]
   unfold ks1
   rw [ZaO, Zah]
   refine or_congr Iff.rfl ?_
   show k = _ ↔ k ∈ [mt ms us (((R[((n : Nat) : Int).toNat]?).map Rw.a).getD 0) (u : Int)]
   rw [Zdh, hρ, <- Zn1 hmk huu, ZaS]
   exact Iff.rfl
  ·rintro σ H2 ⟨o4, o5, o6, rfl, S2, D2⟩
   rw [lb, ZaP] at D2
   have q1 : Zow H (ks1 ms us R B) Q := by rw [ksW, if_neg (by omega), if_pos w1] at q; exact q
   exact Znf D2 S2 ZpB q1
 ·rw [decide_eq_false w1]
  refine ZfA ?_
  dsimp only [Zf3]
  have hrl := Z.rl
  have hul := Z.ul
  have lr := g3.length
  rw [Zar] at lr
  have hpl := Z.pl
  have hw02 : wh = 0 \/ wh = 2 := by omega
  refine ⟨_, ⟨_, _, s1 _ _ g1, ZfP⟩, r, rfl, ⟨_, SqL.of (s1 _ _ g2)⟩, Zeo (xs := rv) (fun i σ H2 => ∃ (o6 o7 : Option V), σ = [some (.ref th), some (.ref lg), some (.int wh), some (.ref d), none, none, o6, o7] /\ ZdN H H2 /\ Dk H2 d (65 * i) fun k => k ∈ ksW ms us pts (R.take i) B wh)
   ⟨none, none, rfl, s1, ?_⟩ (fun i σ H2 _ ⟨_, _, _, S, _⟩ => SqL.of (S _ _ g2)) ?_ ?_⟩
  ·refine (Dk.nil (M := 65 * 0) e1).iff (fun k => ?_) (ZbK _)
   rw [ksW, if_neg w1]
   split <;> exact Iff.rfl
  ·rintro i v σ H2 hv ⟨o6, o7, rfl, S2, D2⟩
   obtain ⟨dd, x1, x2⟩ := ZhP g3 hv
   rw [ZaA] at x1
   obtain ⟨ρ, hρ, rfl⟩ := Zch.mp x1
   obtain ⟨⟨t, wv, rfl, etr⟩, _⟩ := Zj0 x2
   have hi := (Zaj.mp hρ).1
   have er2 := S2 _ _ etr
   have tk : R.take (i + 1) = R.take i ++ [ρ] := by rw [Zbj, hρ]; rfl
   dsimp only [Ze9]
   refine ⟨_, er2, ZdC (Zdy (j := 0) rfl) ?_⟩
   dsimp only [tC, cEq, onB]
   cases hw : ρ.w with
   | true =>
    rw [ZrL]
    refine ZfA (ZfA ?_)
    dsimp only [Zf3]
    refine ⟨_, er2, ZdC (Zdy (j := 0) rfl) ?_⟩
    dsimp only [tC, cEq, onB]
    rw [hw, ZrL]
    refine ZfA (ZfA ⟨_, _, rfl, S2, D2.iff (fun k => ?_) (by omega)⟩)
    have hh : Zje (R.take (i + 1)) = Zje (R.take i) := by
     rw [tk]
     unfold Zje
     rw [Za3, ZbB, hw]
     simp
    rw [ksW, ksW, if_neg w1, if_neg w1, ks0, ks0, ks2, ks2, hh]
   | false =>
    obtain ⟨k1, k2, k3, k4⟩ := Z.ok ρ (ZaB hρ)
    rw [hw] at k2
    have k2' : ρ.a < (ms.length : Int) := k2
    have hh : Zje (R.take (i + 1)) = Zje (R.take i) ++ [ρ] := by
     rw [tk]
     unfold Zje
     rw [Za3, ZbB, hw]
     simp
    obtain ⟨vm, hvm⟩ : ∃ v, mv[ρ.a.toNat]? = some v := ⟨_, ZaT (by omega)⟩
    obtain ⟨mk, tm, f, hmk, rfl, etm, _⟩ := Zk9 im hvm
    have hat : atI mv ρ.a = some (.ref tm) := by rw [show ρ.a = ((ρ.a.toNat : Nat) : Int) by omega]; exact Zdy hvm
    rw [ZqX]
    refine ZgJ ?_
    show if (false ^^ decide (wh = 2)) = true then _ else _
    rcases hw02 with z | z
    ·rw [decide_eq_false (by omega)]
     refine ZfA ?_
     dsimp only [Zf3]
     refine ⟨_, er2, ZdC (Zdy (j := 0) rfl) ?_⟩
     dsimp only [tC, cEq, onB]
     rw [hw, ZqX]
     refine ZgJ ?_
     show if (false ^^ decide (wh = 0)) = true then _ else _
     rw [decide_eq_true z]
     refine ZgJ ⟨_, S2 _ _ et, ZdC (Zdy (j := 2) rfl) ⟨q2, rfl, ⟨_, SqL.of (S2 _ _ eu)⟩, Zeo (xs := uv) (fun j σ H3 => ∃ (o6 : Option V), σ = [some (.ref th), some (.ref lg), some (.int wh), some (.ref d), none, none, o6, some (.ref t)] /\ ZdN H H3 /\ Dk H3 d (65 * i + j) fun k => k ∈ ks0 ms us (R.take i) \/ k ∈ (ixn (atU us) ρ.b j).map fun u => mt ms us ρ.a u)
      ⟨_, rfl, S2, D2.iff (fun k => ?_) (ZbK _)⟩ (fun j σ H3 _ ⟨_, _, S, _⟩ => SqL.of (S _ _ eu)) ?_ ?_⟩⟩
     ·rw [ksW, if_pos z]
      exact ⟨.inl, fun h => h.elim id fun h => by cases h⟩
     ·rintro j v σ H3 hv3 ⟨o6, rfl, S3, D3⟩
      obtain ⟨uu, huu, ivu⟩ := Zla iu hv3
      have hj := (Zaj.mp huu).1
      obtain ⟨tu, su, ru, rfl, etu⟩ := Zox (ivu.mono (ZdN.tk S3))
      have er3 := S3 _ _ etr
      have eat : atU us j = some uu.at := by rw [atU, huu]; rfl
      dsimp only [Ze9]
      refine ⟨_, etu, ZdC (Zdy (j := 1) rfl) ⟨_, er3, ZdC (Zdy (j := 2) rfl) ?_⟩⟩
      dsimp only [cEq, onB]
      by_cases y : uu.at = ρ.b
      ·rw [decide_eq_true y]
       refine ZgJ ⟨_, S3 _ _ et, ZdC (Zdy (j := 1) rfl) ⟨_, er3, ZdC (Zdy (j := 1) rfl) ⟨_, S3 _ _ em, ZdC hat ⟨_, S3 _ _ etm, ZdC (Zdy (j := 3) rfl) ⟨_, etu, ZdC (Zdy (j := 2) rfl) ⟨_, etu, ZdC (Zdy (j := 3) rfl) ⟨(by show 3 <= sizeLine; decide), fun t' ht' => ?_⟩⟩⟩⟩⟩⟩⟩
       obtain ⟨H', hput, S', D'⟩ := D3.put [mk.p, uu.pl, uu.sl] (.bl true) ht' (by omega) S3 hd
       refine ⟨d, H', rfl, hput, _, rfl, S', D'.iff (fun k => ?_) (by omega)⟩
       rw [ZiC, eat, if_pos (by rw [y]), ZaO, Zah, <- Zn1 hmk huu, or_assoc]
       refine or_congr Iff.rfl (or_congr Iff.rfl ?_)
       exact ZaS.symm
      ·rw [decide_eq_false y]
       refine ZfA ⟨_, rfl, S3, D3.iff (fun k => ?_) (by omega)⟩
       rw [ZiC, eat, if_neg (fun h => y (Zce.inj h)), Zas]
     ·rintro σ H3 ⟨o6, rfl, S3, D3⟩
      refine ⟨_, _, rfl, S3, D3.iff (fun k => ?_) (by omega)⟩
      rw [lu, ksW, if_pos z, ks0, ks0, hh, ZbD, Zah]
      refine or_congr Iff.rfl ?_
      rw [List.flatMap_cons, List.flatMap_nil, Zas]
    ·rw [decide_eq_true z]
     have hpt : atI (pts.map V.int) ρ.b = some (.int (pts.getD ρ.b.toNat 0)) := by
      rw [show ρ.b = ((ρ.b.toNat : Nat) : Int) by omega]
      refine Zdy ?_
      rw [ZaA, Zdh, ZaY, ZaT (by omega)]
      rfl
     refine ZgJ ⟨_, S2 _ _ et, ZdC (Zdy (j := 0) rfl) ⟨_, er2, ZdC (Zdy (j := 2) rfl) ⟨_, S2 _ _ e0, ZdC hpt ⟨_, S2 _ _ et, ZdC (Zdy (j := 1) rfl) ⟨_, er2, ZdC (Zdy (j := 1) rfl) ⟨_, S2 _ _ em, ZdC hat ⟨_, S2 _ _ etm, ZdC (Zdy (j := 3) rfl) ⟨(by show 2 <= sizeLine; decide), fun t' ht' => ?_⟩⟩⟩⟩⟩⟩⟩⟩
     obtain ⟨H', hput, S', D'⟩ := D2.put [pts.getD ρ.b.toNat 0, mk.p] (.bl true) ht' (by omega) S2 hd
     refine ⟨d, H', rfl, hput, ?_⟩
     dsimp only [Zf3]
     refine ⟨_, S' _ _ etr, ZdC (Zdy (j := 0) rfl) ?_⟩
     dsimp only [tC, cEq, onB]
     rw [hw, ZqX]
     refine ZgJ ?_
     show if (false ^^ decide (wh = 0)) = true then _ else _
     rw [decide_eq_false (by omega)]
     refine ZfA ⟨_, _, rfl, S', D'.iff (fun k => ?_) (by omega)⟩
     rw [ksW, ksW, if_neg (by omega), if_neg w1, if_neg (by omega), if_neg w1, ks2, ks2, hh, ZaO, Zah]
     refine or_congr Iff.rfl ?_
     rw [Zaq, ZaH, ZaS, mkP, hmk]
     exact Iff.rfl
  ·rintro σ H2 ⟨o6, o7, rfl, S2, D2⟩
   rw [lr, ZaP] at D2
   refine Znf D2 S2 (fun k hk => ?_) q
   rw [ksW, if_neg w1] at hk
   split at hk
   ·exact Znd k hk
   ·exact ZpC k hk
end
section
variable {P : Program} {w : World} {K : PySem.W.Frag} {mg : Str -> Option Value} {base : Heap}
def Zi9 (c : Cs) (L : Addr) : Sp := fun vs H Q _ => ∃ (b lg : Addr) (N wh : Int) (pts : List Int) (ms : List Mk3) (us : List Us) (R : List Rw) (B : List (Int × Int)), vs = [.ref b, .ref lg, .int wh] /\ Bl c L H b lg N pts ms us R B /\ Zow H (ksW ms us pts R B wh) Q
theorem Zja (T : Txt K mg) : Zfi P w K mg base CX0 6 T.a_asked T.fd_asked ["_law_board_here", "_law_log", "_law_which"] (Zi9 (cs T) T.a_Log) := by
 have G_meetings := Zkt (P := P) (w := w) (base := base) T
 have G_bad_meetings := ZhR (P := P) (w := w) (base := base) T
 have G_arrivals := Zkv (P := P) (w := w) (base := base) T
 refine T.F_asked.ok ZiK (fun vs H Q E h => ?_) (fun cdv A outer s H vs Q E hr h => ?_)
 ·obtain ⟨b, lg, N, wh, pts, ms, us, R, B, rfl, _⟩ := h
  rfl
 obtain ⟨b, lg, N, wh, pts, ms, us, R, B, rfl, Z, q⟩ := h
 refine ⟨_, (Zdw (Zez (ZdQ Zft (cv 2) Zdv (Zd3 _))
   (ZdB (ZdO (ZdM G_meetings (hr.mono (by decide)) rfl T.m_meetings T.k_meetings T.b_meetings .nil ZdR (Zds (cv 0) (Zds (cv 1) Zdu)))))
   ZdS)
  (Zdw (Zez (ZdQ Zft (cv 2) Zdv (Zd3 _))
   (ZdB (ZdO (ZdM G_bad_meetings (hr.mono (by decide)) rfl T.m_bad_meetings T.k_bad_meetings T.b_bad_meetings .nil ZdR (Zds (cv 0) (Zds (cv 1) Zdu)))))
   ZdS)
  (ZdB (ZdO (ZdM G_arrivals (hr.mono (by decide)) rfl T.m_arrivals T.k_arrivals T.b_arrivals .nil ZdR (Zds (cv 0) (Zds (cv 1) Zdu))))))), ?_⟩
 rw [ksW] at q
 show if (false ^^ decide (wh = 0)) = true then _ else _
 by_cases w0 : wh = 0
 ·rw [decide_eq_true w0]
  rw [if_pos w0] at q
  exact ZgJ ⟨b, lg, N, pts, ms, us, R, B, rfl, Z, q⟩
 ·rw [decide_eq_false w0]
  rw [if_neg w0] at q
  refine ZfA ?_
  show if (false ^^ decide (wh = 1)) = true then _ else _
  by_cases w1 : wh = 1
  ·rw [decide_eq_true w1]
   rw [if_pos w1] at q
   exact ZgJ ⟨b, lg, N, pts, ms, us, R, B, rfl, Z, q⟩
  ·rw [decide_eq_false w1]
   rw [if_neg w1] at q
   exact ZfA ⟨b, lg, N, pts, ms, us, R, B, rfl, Z, q⟩
end
theorem ZqP {A : Nat -> Option Int} {q : Int -> Bool} {p k : Int} {n : Nat} {x : Int × Int} (h : x ∈ bdn A q p k n) : ∃ j : Nat, j < n /\ x = (k, (j : Int)) := by
 unfold bdn at h
 obtain ⟨i, hi, rfl⟩ := ZaW.mp h
 obtain ⟨j, rfl, h3, _⟩ := Zke (Zab.mp hi).1
 exact ⟨j, h3, rfl⟩
theorem Zoy {us : List Us} {ms : List Mk3} {R : List Rw} : ∀ {n : Nat} {x : Int × Int}, x ∈ ZjB (ZlG us ms) R n -> ∃ (n u : Nat) (ρ : Rw), x = ((n : Int), (u : Int)) /\ R[n]? = some ρ /\ ρ.w = false /\ u < us.length
 | 0, x, h => by cases h
 | n + 1, x, h => by
  rw [ZjB] at h
  rcases Zah.mp h with h | h
  ·exact Zoy h
  ·cases hρ : R[n]? with
   | none => rw [hρ] at h; cases h
   | some ρ =>
    rw [hρ] at h
    have h : x ∈ ZlG us ms ρ n := h
    unfold ZlG at h
    cases hw : ρ.w with
    | true => rw [hw] at h; cases h
    | false =>
     rw [hw] at h
     obtain ⟨j, hj, rfl⟩ := ZqP h
     exact ⟨n, j, ρ, rfl, hρ, hw, hj⟩
noncomputable def tD (k : List Int) : Dt := .tup (k.map fun n => .flat (.int n))
section
variable {P : Program} {w : World} {K : PySem.W.Frag} {mg : Str -> Option Value} {base : Heap}
theorem ZpD {ms : List Mk3} {us : List Us} {pts : List Int} {R : List Rw} {B : List (Int × Int)} {wh : Int} (hw0 : 0 <= wh) (hw2 : wh <= 2) : ∀ k ∈ ksW ms us pts R B wh, k.length = if wh = 2 then 2 else 3 := fun k hk => by
 unfold ksW at hk
 by_cases h0 : wh = 0
 ·rw [if_pos h0] at hk
  rw [if_neg (by omega)]
  obtain ⟨ρ, _, hk⟩ := ZbC.mp hk
  obtain ⟨u, _, rfl⟩ := ZaW.mp hk
  rfl
 ·rw [if_neg h0] at hk
  by_cases h1 : wh = 1
  ·rw [if_pos h1] at hk
   rw [if_neg (by omega)]
   obtain ⟨x, _, rfl⟩ := ZaW.mp hk
   rfl
  ·rw [if_neg h1] at hk
   obtain ⟨x, _, rfl⟩ := ZaW.mp hk
   rw [if_pos (by omega)]
   rfl
theorem Bl.fewW {c : Cs} {L : Addr} {H : Hp} {b lg : Addr} {N wh : Int} {pts : List Int} {ms : List Mk3} {us : List Us} {R : List Rw} {B : List (Int × Int)} (Z : Bl c L H b lg N pts ms us R B) (hw0 : 0 <= wh) (hw2 : wh <= 2) : Few (ksW ms us pts R B wh) := by
 unfold ksW
 split
 ·exact Z.few0
 ·split
  ·exact Z.few1
  ·exact Z.few2
theorem ZrM {d : Dt} (h : eqD d d = true) : (if true = true then !eqD d d else eqD d d) = false := by rw [h]; rfl
theorem Zlb {H : Hp} : ∀ k : List Int, Ims H (k.map V.int) (k.map fun n => .flat (.int n))
 | [] => .nil
 | n :: k => .cons (.flat rfl) (Zlb k)
theorem Zjb {H : Hp} : ∀ {ps : List (Addr × List Int)}, ZfL H ps -> Ims H (ps.map fun p => V.ref p.1) ((ps.map Prod.snd).map tD)
 | [], _ => .nil
 | p :: ps, h => .cons (.tup (h p Zae) (Zlb _)) (Zjb fun q hq => h q (Zaf _ hq))
theorem Zng : ∀ k : List Int, Ziv (k.map fun n => .flat (.int n)) (k.map fun n => .flat (.int n)) = true /\ ZgN (k.map fun n => .flat (.int n)) (k.map fun n => .flat (.int n)) = true
 | [] => ⟨by rw [ZaH, Ziv], by rw [ZaH, ZgN]; all_goals simp⟩
 | n :: k => by
  obtain ⟨h1, h2⟩ := Zng k
  exact ⟨by rw [Zaq, Ziv, h1]; simp [eqD, eqV], by rw [Zaq, ZgN, h2]; simp [Zg3]⟩
theorem Znh : ∀ l : List (List Int), Ziv (l.map tD) (l.map tD) = true /\ ZgN (l.map tD) (l.map tD) = true
 | [] => ⟨by rw [ZaH, Ziv], by rw [ZaH, ZgN]; all_goals simp⟩
 | k :: l => by
  obtain ⟨h1, h2⟩ := Znh l
  obtain ⟨h3, h4⟩ := Zng k
  exact ⟨by rw [Zaq, Ziv, h1, tD, eqD, h3]; rfl, by rw [Zaq, ZgN, h2, tD, Zg3, h4]; simp⟩
theorem ZqQ (l : List (List Int)) : Zjd (.lst (l.map tD)) <= 100 := by
 have : ZgO (l.map tD) <= 1 := ZhA fun k _ => by
  show ZgO (k.map fun n => .flat (.int n)) + 1 <= 1
  have : ZgO (k.map fun n => Dt.flat (.int n)) <= 0 := ZhA fun n _ => ZbK 0
  omega
 show ZgO (l.map tD) + 1 <= 100
 omega
theorem ZpE (T : Txt K mg) {a : Addr} {fd : FuncData} (F : Fun K "law" "law" ZiH a fd) : Zfi P w K mg base CX0 40 a fd ["_law_script"] (Zk2 K) := by
 have G_things := Zh2 (P := P) (w := w) (base := base) T
 have G_board := Zi4 (P := P) (w := w) (base := base) T
 have G_shaped := Zh4 (P := P) (w := w) (base := base) T
 have G_asked := Zja (P := P) (w := w) (base := base) T
 have G_tuples := Zh6 (P := P) (w := w) (base := base) T
 have G_due := Zkx (P := P) (w := w) (base := base) T
 have G_settled := ZlI (P := P) (w := w) (base := base) T
 have G_Log___init__ := Zgd (P := P) (w := w) (base := base) T
 refine F.ok Zhe (fun vs H Q E h => ?_) (fun cdv A outer s H vs Q E hr h => ?_)
 ·obtain ⟨a, ns, rfl, _⟩ := h
  rfl
 obtain ⟨ad, ns, rfl, hsq, hlen, q⟩ := h
 refine ⟨_, (Zdw (Zd1 (i := 1) Zhe.nd rfl (.inl rfl) (ZdM G_things (hr.mono (by decide)) rfl T.m_things T.k_things T.b_things .nil ZdR (Zds (cv 0) Zdu)))
  (Zdw (Zd1 (i := 2) Zhe.nd rfl (.inl rfl) (ZdM G_board (hr.mono (by decide)) rfl T.m_board T.k_board T.b_board .nil ZdR (Zds (cv 1) Zdu)))
  (Zdw (Zd1 (i := 3) Zhe.nd rfl (.inl rfl) (ZdM G_settled (hr.mono (by decide)) rfl T.m_settled T.k_settled T.b_settled .nil ZdR (Zds (cv 2) Zdu)))
  (Zdw (Zez (PW.pt (Zjh (Zf0 (ZfZ (ZdM G_shaped (hr.mono (by decide)) rfl T.m_shaped T.k_shaped T.b_shaped .nil ZdR (Zds (ZdI T.cl_Log T.n_Log_rows (cv 3)) Zdu)))) (Zh7 (Zf0 (ZfZ (Zd0 Zfy rfl T.z_isinstance Zee (Zds (ZdI T.cl_Log T.n_Log_bads (cv 3)) (Zds (ZgM rfl T.z_list Zhy) Zdu))))))))
   (ZdB (ZdO Zgo))
   ZdS)
  (Zdw (Zd1 (i := 4) Zhe.nd rfl (.inl rfl) (Zep ZfH (Zd0 (Zhz rfl) rfl T.z_sum Zmc (Zds (Zgl Zit (cv 0) (Zf5 Zdv) Zir) Zdu)) Zdv))
  (Zdw (Ze3 PassesOwn.never rfl (Zf4 rfl T.z_range (Zds Zdv Zdu)) (Zeb (i := 5) Zhe.nd rfl (.inl rfl))
   (Zdw (Zd1 (i := 6) Zhe.nd rfl (.inl rfl) (Zep ZfH (Zep ZgP (cv 4) (Zep Zjz (cv 5) (Zep ZgP Zdv (Zep ZfH (Zd0 Zfh rfl T.z_len Zhx (Zds (cv 0) Zdu)) Zdv)))) Zdv))
   (Zdw (Zd1 (i := 7) Zhe.nd rfl (.inl rfl) (ZdM G_asked (hr.mono (by decide)) rfl T.m_asked T.k_asked T.b_asked .nil ZdR (Zds (cv 2) (Zds (ZdF ZdK (Zem (Zds (cv 3) (Zds (ZfR T.mk_Log G_Log___init__ (hr.mono (by decide)) rfl T.m_Log T.b_Log___init__ .nil ZdR (Zds (Zfj Zhc rfl T.z_list Zhy (Zds (ZdI T.cl_Log T.n_Log_rows (cv 3)) Zdu)) (Zds (Zfj Zhc rfl T.z_list Zhy (Zds (ZdI T.cl_Log T.n_Log_bads (cv 3)) Zdu)) Zdu))) Zdu))) (Zep Ziy (cv 5) Zdv) (fun _ _ => rfl)) (Zds (cv 6) Zdu)))))
   (Zdw (Zez (PW.pt (Zjh (Zf0 (ZfZ (ZdM G_tuples (hr.mono (by decide)) rfl T.m_tuples T.k_tuples T.b_tuples .nil ZdR (Zds (cv 7) (Zds (Zep Zqj Zdv (Zfj ZlZ rfl T.z_int Zn8 (Zds (ZlY Zft (cv 6) Zdv (Zd3 _)) Zdu))) Zdu))))) (Zh7 (ZdQ (Zqc hr) (cv 7) (ZdM G_due (hr.mono (by decide)) rfl T.m_due T.k_due T.b_due .nil ZdR (Zds (cv 1) (Zds (cv 3) (Zds (cv 6) Zdu)))) (Zd3 _)))))
    (ZdB (ZdO Zgo))
    ZdS)
   (ZdB (ZdT (ZfK (ZgB ZcU ZcV ZcW Zea (PE.mono (cv 7)) (Zds (PE.mono Zgs) Zdu)))))))))
  (ZdB (ZdO Zgo)))))))), ?_⟩
 have sl : sizeLine = 16777216 := sizeLine_eq
 refine ⟨ad, ns, rfl, hsq, hlen, fun th q0 q1 q2 q3 N pts ms us fs H1 S1 hT dat uo lp hpl hN40 hM61 => ?_⟩
 refine ⟨th, q0, q1, q2, q3, pts, ms, us, fs, rfl, hT, fun m hm => (dat.mo m hm).1, uo, lp, dat.lm, dat.lu, dat.lf, fun b bx p0 p1 p2 p3 mv uv fv H2 S2 eb ep0 e1 hM e2 hU e3 hF => ?_⟩
 refine ⟨b, bx, p0, p1, p2, p3, N, mv, uv, fv, ms, us, fs, rfl, eb, e1, hM, e2, hU, e3, hF, dat, fun lg dl r bd H3 rv bv R S3 el er hR ebd hB hok hRl => ?_⟩
 have hT3 := (hT.same S2).same S3
 have lrv := hR.length
 have lbv := hB.length
 rw [Zar] at lrv lbv
 have hlu := dat.lu
 have hdl := Zko (us := us) (ms := ms) (R := R) R.length
 have hb1 : us.length * R.length <= 64 * 8192 := ZbR hlu hRl
 have Z : Bl (cs T) T.a_Log H3 b lg N pts ms us R (ZjB (ZlG us ms) R R.length) := ⟨⟨bx, p0, p1, p2, p3, _, mv, uv, S3 _ _ eb, S3 _ _ ep0, S3 _ _ e1, hM.imp fun _ _ h => (show M3 _ H3 _ _ from Zic.mono (ZdN.fk S3) h), S3 _ _ e2, hU.imp fun _ _ h => h.mono (ZdN.fk S3)⟩, ⟨dl, r, bd, rv, bv, el, er, hR, ebd, hB⟩, hok, hRl, hpl, by omega, hM61, hlu, fun x hx => Zoy hx, by omega⟩
 have S13 : ZdN H H3 := S1.trans (S2.trans S3)
 dsimp only [Ze9]
 refine ⟨_, ⟨_, _, el, ZfP⟩, r, rv, R, rfl, er, hR, _, rfl, ZfA ⟨_, ⟨_, _, el, (ZeJ (by decide +kernel)).trans ZfP⟩, _, _, _, _, true, rfl, fun _ r => r, .lst ebd, rfl, _, rfl, ZfA ?_⟩⟩
 obtain ⟨ts, et, _⟩ := Zhr ns (some 2) none
 refine ⟨_, rfl, ad, _, rfl, S13.seq hsq, fun c1 hc1 => ⟨c1, ts, rfl, SqL.of (by rw [Zdt, et]), fun n0 => ?_⟩⟩
 have s4 := Zdz hc1 (.lst (ZlL (ns.map V.int) (some 2) none))
 generalize upd H3 c1 (.lst (ZlL (ns.map V.int) (some 2) none)) = H4 at s4 ⊢
 refine ⟨(by show (0 : Int) < 3; decide), ?_⟩
 dsimp only [Ze9]
 have m0 := Zdi n0 (show (3 : Int) ≠ 0 by decide)
 have m1 := Zdj n0 (show (0 : Int) < 3 by decide)
 generalize n0 % 3 = st at m0 m1 ⊢
 refine ⟨6, rfl, by decide, by decide, Zji (fun i σ H5 => ∃ (o5 o6 o7 : Option V), σ = [some (.ref ad), some (.ref th), some (.ref b), some (.ref lg), some (.int st), o5, o6, o7] /\ ZdN H4 H5) ⟨none, none, none, rfl, ZdN.refl _⟩ ?_ ?_⟩
 ·rintro i σ H5 hi ⟨o5, o6, o7, rfl, S5⟩
  dsimp only [Ze9]
  have SA := S13.trans (s4.trans S5)
  refine ⟨ad, _, rfl, .inl (SA.seq hsq), (by show (0 : Int) < 2; decide), .inl ⟨by omega, by omega⟩, (by show (0 : Int) < 3; decide), ?_⟩
  dsimp only [Ze9]
  obtain ⟨wh, hwh⟩ : ∃ wh, wh = (st + (0 + (i : Int)) * (1 + (((ns.map V.int).length : Nat) : Int) % 2)) % 3 := ⟨_, rfl⟩
  rw [<- hwh]
  have w0 : 0 <= wh := by rw [hwh]; exact Zdi _ (by decide)
  have w2 : wh <= 2 := by have := Zdj (st + (0 + (i : Int)) * (1 + (((ns.map V.int).length : Nat) : Int) % 2)) (show (0 : Int) < 3 by decide); omega
  clear hwh
  have S35 := s4.trans S5
  have el5 := S35 _ _ el
  refine ⟨_, ⟨_, _, el5, ZfP⟩, r, _, rfl, .inl (SqL.of (S35 _ _ er)), fun rc hrc => ?_⟩
  have s6 := Zdz hrc (.lst rv)
  have erc : (upd H5 rc (.lst rv)) rc = some (.lst rv) := Zdt
  generalize upd H5 rc (.lst rv) = H6 at s6 erc ⊢
  have S36 := S35.trans s6
  refine ⟨_, ⟨_, _, S36 _ _ el, (ZeJ (by decide +kernel)).trans ZfP⟩, bd, _, rfl, .inl (SqL.of (S36 _ _ ebd)), fun bc hbc => ?_⟩
  have s7 := Zdz hbc (.lst bv)
  have ebc : (upd H6 bc (.lst bv)) bc = some (.lst bv) := Zdt
  have erc7 := s7 _ _ erc
  generalize upd H6 bc (.lst bv) = H7 at s7 ebc erc7 ⊢
  have S37 := S36.trans s7
  refine fun lg2 dl2 hl2 hdl2 _ => ⟨lg2, dl2, rc, bc, rfl, Zdt, rfl, ?_⟩
  rw [Zes]
  have s8 : ZdN H7 (upd (upd H7 dl2 (.own lg2)) lg2 (.ins T.a_Log dl2 (fL rc bc))) := Zey hl2 hdl2
  have el2 : (upd (upd H7 dl2 (.own lg2)) lg2 (.ins T.a_Log dl2 (fL rc bc))) lg2 = some (.ins T.a_Log dl2 (fL rc bc)) := Zdt
  have erc8 := s8 _ _ erc7
  have ebc8 := s8 _ _ ebc
  generalize upd (upd H7 dl2 (.own lg2)) lg2 (.ins T.a_Log dl2 (fL rc bc)) = H8 at s8 el2 erc8 ebc8 ⊢
  have S38 := S37.trans s8
  refine ⟨(by show 2 <= sizeLine; decide), fun ll hll => ?_⟩
  have s9 := Zdz hll (.lst [.ref lg, .ref lg2])
  have ell : (upd H8 ll (.lst [.ref lg, .ref lg2])) ll = some (.lst [.ref lg, .ref lg2]) := Zdt
  have el29 := s9 _ _ el2
  have erc9 := s9 _ _ erc8
  have ebc9 := s9 _ _ ebc8
  generalize upd H8 ll (.lst [.ref lg, .ref lg2]) = H9 at s9 ell el29 erc9 ebc9 ⊢
  have S39 := S38.trans s9
  have Z9 := Z.same S39
  obtain ⟨lx, hlx, Zx⟩ : ∃ lx, atI [V.ref lg, V.ref lg2] ((0 + (i : Int)) / 3) = some (.ref lx) /\ Bl (cs T) T.a_Log H9 b lx N pts ms us R (ZjB (ZlG us ms) R R.length) := by
   by_cases h3 : i < 3
   ·refine ⟨lg, ?_, Z9⟩
    rw [show (0 + (i : Int)) / 3 = ((0 : Nat) : Int) by omega]
    exact Zdy rfl
   ·refine ⟨lg2, ?_, ⟨Z9.bd, ⟨dl2, rc, bc, rv, bv, el29, erc9, hR.mono (ZdN.tk S39), ebc9, hB.mono (ZdN.tk S39)⟩, Z9.ok, Z9.rl, Z9.pl, Z9.n40, Z9.ml, Z9.ul, Z9.bok, Z9.bl⟩⟩
    rw [show (0 + (i : Int)) / 3 = ((1 : Nat) : Int) by omega]
    exact Zdy rfl
  refine ⟨(by show (0 : Int) < 3 /\ (3 : Int) < 1073741824; decide), _, ell, ZdC hlx ?_⟩
  refine ⟨b, lx, N, wh, pts, ms, us, R, _, rfl, Zx, fun l ps Ha Sa hl ela tp nd pw mem => ?_⟩
  dsimp only [Ze9]
  have S3a := S39.trans Sa
  have en : ((3 : Int) - if (false ^^ decide (wh = 2)) = true then 1 else 0) = (((if wh = 2 then 2 else 3 : Nat)) : Int) := by
   by_cases h : wh = 2
   ·rw [decide_eq_true h, if_pos h]; rfl
   ·rw [decide_eq_false h, if_neg h]; rfl
  refine .inr ⟨_, rfl, ?_⟩
  refine ⟨l, (if wh = 2 then 2 else 3), ps, congrArg (fun n => [V.ref l, V.int n]) en, ela, tp, fun p hp => ZpD w0 w2 _ ((mem _).mp (ZbA hp)), by split <;> decide, fun Hb Sb => ⟨_, rfl, ZfA ?_⟩⟩
  have S3b := S3a.trans Sb
  refine ⟨cs T, th, q0, q1, q2, q3, b, lg, N, wh, pts, ms, us, fs, R, _, rfl, hT3.same S3b, Z.same S3b, w0, w2, fun l2 ps2 Hc Sc hlc elc tp2 nd2 pw2 mem2 => ?_⟩
  have ek : ps.map Prod.snd = ps2.map Prod.snd := Zpj pw pw2 ((Zbw nd nd2).mpr fun k => (mem k).trans (mem2 k).symm)
  have elb := Sc _ _ (Sb _ _ ela)
  obtain ⟨t1, t2⟩ := Znh (ps.map Prod.snd)
  refine ⟨l, l2, .lst ((ps.map Prod.snd).map tD), .lst ((ps.map Prod.snd).map tD), rfl, rfl, .lst (SqL.of elb) (Zi5 (Zjb (ZgZ tp (Sb.trans Sc)))), .lst (SqL.of elc) (Zi5 (by rw [ek]; exact Zjb tp2)), (by rw [Zg3, if_pos rfl]; exact t2), ZqQ _, ?_⟩
  rw [ZrM (by rw [eqD]; exact t1)]
  dsimp only [onB]
  rw [if_neg ZcX]
  try dsimp only [Zf3]
  have hlps := Z.fewW w0 w2 _ nd fun k hk => (mem k).mp hk
  rw [Zar] at hlps
  have S49 := S5.trans (((s6.trans s7).trans s8).trans s9)
  exact ⟨⟨_, elb⟩, _, elb, by rw [Zar]; omega, _, _, _, rfl, ZfV (S49.trans (Sa.trans (Sb.trans Sc))) (S49.free hl) _⟩
 ·rintro σ H5 ⟨o5, o6, o7, rfl, S5⟩
  exact q _
end
end K36.Internal
namespace PySem.W.Fast
def tw16480590678103926464:=0
def tw5623040499701258441:=0
def tw15093889048541620988:=0
def tw13083354372333748813:=0
def tw2771010698922949294:=0
def tw3694083005625120484:=0
def tw16985787632340339588:=0
def tw14569573744954086159:=0
def tw17415503942722795872:=0
def tw6609962258402797098:=0
def tw1174918273942519563:=0
def tw12777292337177358844:=0
def tw1566360529505705277:=0
def tw17984539832603126642:=0
def tw13692529778352172448:=0
def tw11928973057357412945:=0
def tw3525452033085805993:=0
def tw17716754215879623181:=0
def tw10944723419353512137:=0
def tw15413157371276178984:=0
def tw10206054998698182113:=0
def tw7672810865495959448:=0
def tw5584699017181583550:=0
def tw10855134934886136521:=0
def tw855493541072842703:=0
def tw6440383061817748366:=0
def tw10957656403130123073:=0
def tw7502326664842240759:=0
def tw15737921523195331481:=0
def tw3043019291995973353:=0
def tw4537669739496527767:=0
def tw15525013211220893401:=0
def tw3629470632761735324:=0
def tw16254554281756610133:=0
def tw12686405516256223724:=0
def tw14206737809703998071:=0
def tw7903817386349903081:=0
def tw4686439206301290019:=0
def tw11563413880839242066:=0
def tw10104938806106117578:=0
def tw9883957841174440547:=0
def tw1577912884448762244:=0
def tw6447424228062918254:=0
def tw3657093963993251234:=0
def tw15903857301733995707:=0
def tw17022883144195140234:=0
def tw12901970404399112010:=0
def tw12070637587302925622:=0
def tw4190874440836907036:=0
def tw11625853622707227465:=0
def tw9887352210196953258:=0
def tw9911825415526702812:=0
def tw6913299237722339917:=0
def tw10304097873380965719:=0
def tw6672652091531854441:=0
def tw13722281335072505580:=0
def tw7165886038024637600:=0
def tw16248574509662878895:=0
def tw111184519313069738:=0
def tw17735379842052336526:=0
def tw5487314656807144055:=0
def tw15268980956228871233:=0
def tw8659104805528079964:=0
def tw10136908356104198596:=0
def tw9367852857660874551:=0
def tw13737576619958847264:=0
def tw254847675811670089:=0
def tw1202603774376520809:=0
def tw13046885885046108349:=0
def tw16081018958454718094:=0
def tw16748274199493480469:=0
def tw11846756763207621829:=0
def tw12618456264009234400:=0
def tw3392460873531394044:=0
def tw18323838034474514001:=0
def tw8374852612407390768:=0
def tw12214893279270290708:=0
def tw10242174436175048686:=0
def tw4935664614638394684:=0
def tw261054820520820718:=0
def tw5613389172369906578:=0
def tw2899761968668377434:=0
def tw8826541021422232854:=0
def tw9101807775679153867:=0
def tw15001715585227359323:=0
def tw2936847709674498806:=0
def tw10576744610243223406:=0
def tw15576824788125796694:=0
def tw17200903191080061876:=0
def tw12293693171080508253:=0
def tw11714562823501695621:=0
def tw5796090038674697718:=0
def tw14508711044912543935:=0
def tw2997318939460926927:=0
def tw7751746783493382802:=0
def tw11185513253529666997:=0
def tw18404878617016437342:=0
def tw4075802793153076384:=0
def tw17532059936765131959:=0
def tw13314072635575657729:=0
def tw7075991077185368116:=0
def tw4398226492950578629:=0
def tw16841080093953945796:=0
def tw7589757101002958540:=0
def tw6385909910612180293:=0
def tw15444228995615370017:=0
def tw18093331027992205635:=0
def tw12209625874373805620:=0
def tw7048527623704320782:=0
def tw13609512234650349983:=0
def tw6743394176044607661:=0
def tw13957265498188700285:=0
def tw7836041092016322325:=0
def tw637406248438282847:=0
def tw3086483737818408587:=0
def tw6089512471965403116:=0
def tw258041140344221190:=0
def tw17580398071067332135:=0
def tw11635842245661935657:=0
def tw6723806905811469794:=0
def tw9864638143050969206:=0
def tw13604487411512108807:=0
def tw18042700726413628222:=0
def tw3851834330511315450:=0
def tw2786275871891688791:=0
def tw4403094273874618104:=0
def tw3964775303097647070:=0
def tw1199918232177646399:=0
def tw9881096659308907449:=0
def tw16872411834360431009:=0
def tw3404015061035213157:=0
def tw11411917354295038885:=0
def tw3572703513653354467:=0
def tw11262606923373934941:=0
def tw3834183740580157439:=0
def tw7448510391101868395:=0
def tw16784068765159470400:=0
def tw11606442472154252365:=0
def tw10984848047260763726:=0
def tw11728286233633652025:=0
def tw7756877958712869664:=0
def tw17155771003615345666:=0
def tw16515220223294247173:=0
def tw171397831349253502:=0
def tw15942936310474971271:=0
def tw11307438936049306006:=0
def tw10642645173590797643:=0
def tw14901469366484932389:=0
def tw14977382925893482442:=0
def tw10052272153951621638:=0
def tw3633124295014657322:=0
def tw13153650261288411090:=0
def tw1121319728972218445:=0
def tw8394360936717125826:=0
def tw4277382681178292572:=0
def tw12450321191484374941:=0
def tw9187504036650432929:=0
def tw10625850481258345148:=0
def tw17505635826300940057:=0
def tw9591053823116423755:=0
def tw1359220596796121816:=0
def tw6750342275992917766:=0
def tw14678056711276105254:=0
def tw1142153457114111305:=0
def tw903750795936487385:=0
def tw17513738018125918090:=0
def tw3486662175788206247:=0
def tw8356813525251516854:=0
def tw14313435133476275668:=0
def tw12097615253054243200:=0
def tw14384143669753978935:=0
def tw17376972232175125284:=0
def tw14603581787020897716:=0
def tw7625901612401383062:=0
def tw1644812267622863664:=0
def tw481678488846520474:=0
def tw8766311578547340980:=0
end PySem.W.Fast
namespace K36.Internal
open PySem L2.Internal
theorem all_mk {l : PySem.W.OpenLaw} {w : World} {K : PySem.W.Frag} {h : Heap} {mg : Str -> Option Value} {fa fL : Addr} (X : K.In h) (G : h.Ns mainGlobals mg) (hfa : mg "law" = some (.ref fa))
  {f1 f2 f3 f4 f5 f6 f7 f8 f9 f10 f11 f12 f13 f14 f15 f16 f17 f18 f19 f20 f21 C22 f23 C24 f25 C26 f27 C28 f29 f30 C31 f32 f33 C34 f35 f36 C37 f38 f39 C40 f41 f42 f43 f44 f45 C46 f47 C48 f49 f50 f51 f52 f53 f54 f55 : Addr} {od1 an1 od2 an2 od3 an3 od4 an4 od5 an5 od6 an6 od7 an7 od8 an8 od9 an9 od10 an10 od11 an11 od12 an12 od13 an13 od14 an14 od15 an15 od16 an16 od17 an17 od18 an18 od19 an19 od20 an20 od21 an21 od23 an23 od25 an25 od27 an27 od29 an29 od30 an30 od32 an32 od33 an33 od35 an35 od36 an36 od38 an38 od39 an39 od41 an41 od42 an42 od43 an43 od44 an44 od45 an45 od47 an47 od49 an49 od50 an50 od51 an51 od52 an52 od53 an53 od54 an54 od55 an55 odL anL : Option Addr} {sl1 sl2 sl3 sl4 sl5 sl6 sl7 sl8 sl9 sl10 sl11 sl12 sl13 sl14 sl15 sl16 sl17 sl18 sl19 sl20 sl21 sl23 sl25 sl27 sl29 sl30 sl32 sl33 sl35 sl36 sl38 sl39 sl41 sl42 sl43 sl44 sl45 sl47 sl49 sl50 sl51 sl52 sl53 sl54 sl55 slL : Array (Option Value)} {oc1 kV1 dc1 pm1 cd1 ct1 oc2 kV2 dc2 pm2 cd2 ct2 oc3 kV3 dc3 pm3 cd3 ct3 oc4 kV4 dc4 pm4 cd4 ct4 oc5 kV5 dc5 pm5 cd5 ct5 oc6 kV6 dc6 pm6 cd6 ct6 oc7 kV7 dc7 pm7 cd7 ct7 oc8 kV8 dc8 pm8 cd8 ct8 oc9 kV9 dc9 pm9 cd9 ct9 oc10 kV10 dc10 pm10 cd10 ct10 oc11 kV11 dc11 pm11 cd11 ct11 oc12 kV12 dc12 pm12 cd12 ct12 oc13 kV13 dc13 pm13 cd13 ct13 oc14 kV14 dc14 pm14 cd14 ct14 oc15 kV15 dc15 pm15 cd15 ct15 oc16 kV16 dc16 pm16 cd16 ct16 oc17 kV17 dc17 pm17 cd17 ct17 oc18 kV18 dc18 pm18 cd18 ct18 oc19 kV19 dc19 pm19 cd19 ct19 oc20 kV20 dc20 pm20 cd20 ct20 oc21 kV21 dc21 pm21 cd21 ct21 oc23 kV23 dc23 pm23 cd23 ct23 oc25 kV25 dc25 pm25 cd25 ct25 oc27 kV27 dc27 pm27 cd27 ct27 oc29 kV29 dc29 pm29 cd29 ct29 oc30 kV30 dc30 pm30 cd30 ct30 oc32 kV32 dc32 pm32 cd32 ct32 oc33 kV33 dc33 pm33 cd33 ct33 oc35 kV35 dc35 pm35 cd35 ct35 oc36 kV36 dc36 pm36 cd36 ct36 oc38 kV38 dc38 pm38 cd38 ct38 oc39 kV39 dc39 pm39 cd39 ct39 oc41 kV41 dc41 pm41 cd41 ct41 oc42 kV42 dc42 pm42 cd42 ct42 oc43 kV43 dc43 pm43 cd43 ct43 oc44 kV44 dc44 pm44 cd44 ct44 oc45 kV45 dc45 pm45 cd45 ct45 oc47 kV47 dc47 pm47 cd47 ct47 oc49 kV49 dc49 pm49 cd49 ct49 oc50 kV50 dc50 pm50 cd50 ct50 oc51 kV51 dc51 pm51 cd51 ct51 oc52 kV52 dc52 pm52 cd52 ct52 oc53 kV53 dc53 pm53 cd53 ct53 oc54 kV54 dc54 pm54 cd54 ct54 oc55 kV55 dc55 pm55 cd55 ct55 ocL kVL dcL pmL cdL ctL : Value}
  (a1 : ZcJ K mainGlobals "uses_by_point" = some (some (.ref f1)))
  (l1 : K.lookup f1 = some ⟨oc1, od1, .func (ZcH "uses_by_point" "uses_by_point" (ZdJ Zeh) (ZdH Zeh) (Zdx Zeh) .none kV1 dc1 pm1 an1 cd1 ct1), sl1⟩)
  (c1 : ZcI K cd1 "uses_by_point" = true)
  (k1 : Zcx K (.ref f1) = true)
  (a2 : ZcJ K mainGlobals "meetings" = some (some (.ref f2)))
  (l2 : K.lookup f2 = some ⟨oc2, od2, .func (ZcH "meetings" "meetings" (ZdJ Zfl) (ZdH Zfl) (Zdx Zfl) .none kV2 dc2 pm2 an2 cd2 ct2), sl2⟩)
  (c2 : ZcI K cd2 "meetings" = true)
  (k2 : Zcx K (.ref f2) = true)
  (a3 : ZcJ K mainGlobals "bad_meetings" = some (some (.ref f3)))
  (l3 : K.lookup f3 = some ⟨oc3, od3, .func (ZcH "bad_meetings" "bad_meetings" (ZdJ Zet) (ZdH Zet) (Zdx Zet) .none kV3 dc3 pm3 an3 cd3 ct3), sl3⟩)
  (c3 : ZcI K cd3 "bad_meetings" = true)
  (k3 : Zcx K (.ref f3) = true)
  (a4 : ZcJ K mainGlobals "arrivals" = some (some (.ref f4)))
  (l4 : K.lookup f4 = some ⟨oc4, od4, .func (ZcH "arrivals" "arrivals" (ZdJ Zfm) (ZdH Zfm) (Zdx Zfm) .none kV4 dc4 pm4 an4 cd4 ct4), sl4⟩)
  (c4 : ZcI K cd4 "arrivals" = true)
  (k4 : Zcx K (.ref f4) = true)
  (a5 : ZcJ K mainGlobals "here_rows" = some (some (.ref f5)))
  (l5 : K.lookup f5 = some ⟨oc5, od5, .func (ZcH "here_rows" "here_rows" (ZdJ Zfb) (ZdH Zfb) (Zdx Zfb) .none kV5 dc5 pm5 an5 cd5 ct5), sl5⟩)
  (c5 : ZcI K cd5 "here_rows" = true)
  (k5 : Zcx K (.ref f5) = true)
  (a6 : ZcJ K mainGlobals "meeting" = some (some (.ref f6)))
  (l6 : K.lookup f6 = some ⟨oc6, od6, .func (ZcH "meeting" "meeting" (ZdJ ZfE) (ZdH ZfE) (Zdx ZfE) .none kV6 dc6 pm6 an6 cd6 ct6), sl6⟩)
  (c6 : ZcI K cd6 "meeting" = true)
  (k6 : Zcx K (.ref f6) = true)
  (a7 : ZcJ K mainGlobals "settled" = some (some (.ref f7)))
  (l7 : K.lookup f7 = some ⟨oc7, od7, .func (ZcH "settled" "settled" (ZdJ ZfF) (ZdH ZfF) (Zdx ZfF) .none kV7 dc7 pm7 an7 cd7 ct7), sl7⟩)
  (c7 : ZcI K cd7 "settled" = true)
  (k7 : Zcx K (.ref f7) = true)
  (a8 : ZcJ K mainGlobals "_law_pick" = some (some (.ref f8)))
  (l8 : K.lookup f8 = some ⟨oc8, od8, .func (ZcH "_law_pick" "_law_pick" (ZdJ Zfc) (ZdH Zfc) (Zdx Zfc) .none kV8 dc8 pm8 an8 cd8 ct8), sl8⟩)
  (c8 : ZcI K cd8 "_law_pick" = true)
  (k8 : Zcx K (.ref f8) = true)
  (a9 : ZcJ K mainGlobals "_law_words" = some (some (.ref f9)))
  (l9 : K.lookup f9 = some ⟨oc9, od9, .func (ZcH "_law_words" "_law_words" (ZdJ ZeN) (ZdH ZeN) (Zdx ZeN) .none kV9 dc9 pm9 an9 cd9 ct9), sl9⟩)
  (c9 : ZcI K cd9 "_law_words" = true)
  (k9 : Zcx K (.ref f9) = true)
  (a10 : ZcJ K mainGlobals "_law_named" = some (some (.ref f10)))
  (l10 : K.lookup f10 = some ⟨oc10, od10, .func (ZcH "_law_named" "_law_named" (ZdJ ZeO) (ZdH ZeO) (Zdx ZeO) .none kV10 dc10 pm10 an10 cd10 ct10), sl10⟩)
  (c10 : ZcI K cd10 "_law_named" = true)
  (k10 : Zcx K (.ref f10) = true)
  (a11 : ZcJ K mainGlobals "_law_make" = some (some (.ref f11)))
  (l11 : K.lookup f11 = some ⟨oc11, od11, .func (ZcH "_law_make" "_law_make" (ZdJ Zfd) (ZdH Zfd) (Zdx Zfd) .none kV11 dc11 pm11 an11 cd11 ct11), sl11⟩)
  (c11 : ZcI K cd11 "_law_make" = true)
  (k11 : Zcx K (.ref f11) = true)
  (a12 : ZcJ K mainGlobals "_law_use" = some (some (.ref f12)))
  (l12 : K.lookup f12 = some ⟨oc12, od12, .func (ZcH "_law_use" "_law_use" (ZdJ Zfn) (ZdH Zfn) (Zdx Zfn) .none kV12 dc12 pm12 an12 cd12 ct12), sl12⟩)
  (c12 : ZcI K cd12 "_law_use" = true)
  (k12 : Zcx K (.ref f12) = true)
  (a13 : ZcJ K mainGlobals "_law_things" = some (some (.ref f13)))
  (l13 : K.lookup f13 = some ⟨oc13, od13, .func (ZcH "_law_things" "_law_things" (ZdJ ZeE) (ZdH ZeE) (Zdx ZeE) .none kV13 dc13 pm13 an13 cd13 ct13), sl13⟩)
  (c13 : ZcI K cd13 "_law_things" = true)
  (k13 : Zcx K (.ref f13) = true)
  (a14 : ZcJ K mainGlobals "_law_using" = some (some (.ref f14)))
  (l14 : K.lookup f14 = some ⟨oc14, od14, .func (ZcH "_law_using" "_law_using" (ZdJ ZeP) (ZdH ZeP) (Zdx ZeP) .none kV14 dc14 pm14 an14 cd14 ct14), sl14⟩)
  (c14 : ZcI K cd14 "_law_using" = true)
  (k14 : Zcx K (.ref f14) = true)
  (a15 : ZcJ K mainGlobals "_law_board" = some (some (.ref f15)))
  (l15 : K.lookup f15 = some ⟨oc15, od15, .func (ZcH "_law_board" "_law_board" (ZdJ ZeQ) (ZdH ZeQ) (Zdx ZeQ) .none kV15 dc15 pm15 an15 cd15 ct15), sl15⟩)
  (c15 : ZcI K cd15 "_law_board" = true)
  (k15 : Zcx K (.ref f15) = true)
  (a16 : ZcJ K mainGlobals "_law_whole" = some (some (.ref f16)))
  (l16 : K.lookup f16 = some ⟨oc16, od16, .func (ZcH "_law_whole" "_law_whole" (ZdJ ZeR) (ZdH ZeR) (Zdx ZeR) .none kV16 dc16 pm16 an16 cd16 ct16), sl16⟩)
  (c16 : ZcI K cd16 "_law_whole" = true)
  (k16 : Zcx K (.ref f16) = true)
  (a17 : ZcJ K mainGlobals "_law_pair" = some (some (.ref f17)))
  (l17 : K.lookup f17 = some ⟨oc17, od17, .func (ZcH "_law_pair" "_law_pair" (ZdJ Zfe) (ZdH Zfe) (Zdx Zfe) .none kV17 dc17 pm17 an17 cd17 ct17), sl17⟩)
  (c17 : ZcI K cd17 "_law_pair" = true)
  (k17 : Zcx K (.ref f17) = true)
  (a18 : ZcJ K mainGlobals "_law_shaped" = some (some (.ref f18)))
  (l18 : K.lookup f18 = some ⟨oc18, od18, .func (ZcH "_law_shaped" "_law_shaped" (ZdJ ZeF) (ZdH ZeF) (Zdx ZeF) .none kV18 dc18 pm18 an18 cd18 ct18), sl18⟩)
  (c18 : ZcI K cd18 "_law_shaped" = true)
  (k18 : Zcx K (.ref f18) = true)
  (a19 : ZcJ K mainGlobals "_law_tuples" = some (some (.ref f19)))
  (l19 : K.lookup f19 = some ⟨oc19, od19, .func (ZcH "_law_tuples" "_law_tuples" (ZdJ ZeG) (ZdH ZeG) (Zdx ZeG) .none kV19 dc19 pm19 an19 cd19 ct19), sl19⟩)
  (c19 : ZcI K cd19 "_law_tuples" = true)
  (k19 : Zcx K (.ref f19) = true)
  (a20 : ZcJ K mainGlobals "_law_due" = some (some (.ref f20)))
  (l20 : K.lookup f20 = some ⟨oc20, od20, .func (ZcH "_law_due" "_law_due" (ZdJ Zfo) (ZdH Zfo) (Zdx Zfo) .none kV20 dc20 pm20 an20 cd20 ct20), sl20⟩)
  (c20 : ZcI K cd20 "_law_due" = true)
  (k20 : Zcx K (.ref f20) = true)
  (a21 : ZcJ K mainGlobals "_law_asked" = some (some (.ref f21)))
  (l21 : K.lookup f21 = some ⟨oc21, od21, .func (ZcH "_law_asked" "_law_asked" (ZdJ ZeS) (ZdH ZeS) (Zdx ZeS) .none kV21 dc21 pm21 an21 cd21 ct21), sl21⟩)
  (c21 : ZcI K cd21 "_law_asked" = true)
  (k21 : Zcx K (.ref f21) = true)
  (a22 : ZcJ K mainGlobals "Make" = some (some (.ref C22)))
  (pg22 : Zco K C22 Str.empty = true)
  (hd22 : Zcp K C22 = true)
  (po22 : Zct K C22 = true)
  (sa22 : Zcq K (.ref C22) "__setattr__" = some (some (.builtin "object.__setattr__")))
  (t1_22 : Zcq K (.ref C22) "__class__" = some (some (.builtin "object.__class__")))
  (t2_22 : Zcy K (.builtin "object.__class__") "__get__" = some (some (.builtin "getset_descriptor.__get__")))
  (t3_22 : Zcz K (.builtin "object.__class__") = some true)
  (t4_22 : ZcA K C22 (.type "object") = some true)
  (n22_shape : Zcq K (.ref C22) "shape" = some none)
  (n22_parts : Zcq K (.ref C22) "parts" = some none)
  (n22_at : Zcq K (.ref C22) "at" = some none)
  (n22_place : Zcq K (.ref C22) "place" = some none)
  (i23 : Zcq K (.ref C22) "__init__" = some (some (.ref f23)))
  (j23 : Zcs K (.ref f23) = true)
  (l23 : K.lookup f23 = some ⟨oc23, od23, .func (ZcH "__init__" "Make.__init__" (ZdJ Zei) (ZdH Zei) (Zdx Zei) .none kV23 dc23 pm23 an23 cd23 ct23), sl23⟩)
  (c23 : ZcI K cd23 "Make.__init__" = true)
  (k23 : Zcx K (.ref f23) = true)
  (mk22 : Zcv K C22 = true)
  (kc22 : Zcx K (.ref C22) = true)
  (a24 : ZcJ K mainGlobals "Use" = some (some (.ref C24)))
  (pg24 : Zco K C24 Str.empty = true)
  (hd24 : Zcp K C24 = true)
  (po24 : Zct K C24 = true)
  (sa24 : Zcq K (.ref C24) "__setattr__" = some (some (.builtin "object.__setattr__")))
  (t1_24 : Zcq K (.ref C24) "__class__" = some (some (.builtin "object.__class__")))
  (t2_24 : Zcy K (.builtin "object.__class__") "__get__" = some (some (.builtin "getset_descriptor.__get__")))
  (t3_24 : Zcz K (.builtin "object.__class__") = some true)
  (t4_24 : ZcA K C24 (.type "object") = some true)
  (n24_at : Zcq K (.ref C24) "at" = some none)
  (n24_place : Zcq K (.ref C24) "place" = some none)
  (n24_slot : Zcq K (.ref C24) "slot" = some none)
  (i25 : Zcq K (.ref C24) "__init__" = some (some (.ref f25)))
  (j25 : Zcs K (.ref f25) = true)
  (l25 : K.lookup f25 = some ⟨oc25, od25, .func (ZcH "__init__" "Use.__init__" (ZdJ Zeu) (ZdH Zeu) (Zdx Zeu) .none kV25 dc25 pm25 an25 cd25 ct25), sl25⟩)
  (c25 : ZcI K cd25 "Use.__init__" = true)
  (k25 : Zcx K (.ref f25) = true)
  (cg25 : Zcy K (.ref C24) "__getattribute__" = some (some (.builtin "type.__getattribute__")))
  (cr25 : PySem.W.readsIn K C24 (.type "type") = true)
  (cf25 : PySem.W.findCls K (.ref C24) (.type "type") "__init__" = some (.val (.ref f25)))
  (mk24 : Zcv K C24 = true)
  (kc24 : Zcx K (.ref C24) = true)
  (a26 : ZcJ K mainGlobals "NumUse" = some (some (.ref C26)))
  (pg26 : Zco K C26 Str.empty = true)
  (hd26 : Zcp K C26 = true)
  (po26 : Zct K C26 = true)
  (sa26 : Zcq K (.ref C26) "__setattr__" = some (some (.builtin "object.__setattr__")))
  (t1_26 : Zcq K (.ref C26) "__class__" = some (some (.builtin "object.__class__")))
  (t2_26 : Zcy K (.builtin "object.__class__") "__get__" = some (some (.builtin "getset_descriptor.__get__")))
  (t3_26 : Zcz K (.builtin "object.__class__") = some true)
  (t4_26 : ZcA K C26 (.type "object") = some true)
  (n26_at : Zcq K (.ref C26) "at" = some none)
  (n26_place : Zcq K (.ref C26) "place" = some none)
  (n26_slot : Zcq K (.ref C26) "slot" = some none)
  (i27 : Zcq K (.ref C26) "met" = some (some (.ref f27)))
  (j27 : Zcs K (.ref f27) = true)
  (l27 : K.lookup f27 = some ⟨oc27, od27, .func (ZcH "met" "NumUse.met" (ZdJ ZeT) (ZdH ZeT) (Zdx ZeT) .none kV27 dc27 pm27 an27 cd27 ct27), sl27⟩)
  (c27 : ZcI K cd27 "NumUse.met" = true)
  (k27 : Zcx K (.ref f27) = true)
  (mk26 : Zcv K C26 = true)
  (kc26 : Zcx K (.ref C26) = true)
  (ii26 : Zcq K (.ref C26) "__init__" = some (some (.ref f25)))
  (a28 : ZcJ K mainGlobals "CallUse" = some (some (.ref C28)))
  (pg28 : Zco K C28 Str.empty = true)
  (hd28 : Zcp K C28 = true)
  (po28 : Zct K C28 = true)
  (sa28 : Zcq K (.ref C28) "__setattr__" = some (some (.builtin "object.__setattr__")))
  (t1_28 : Zcq K (.ref C28) "__class__" = some (some (.builtin "object.__class__")))
  (t2_28 : Zcy K (.builtin "object.__class__") "__get__" = some (some (.builtin "getset_descriptor.__get__")))
  (t3_28 : Zcz K (.builtin "object.__class__") = some true)
  (t4_28 : ZcA K C28 (.type "object") = some true)
  (n28_arg : Zcq K (.ref C28) "arg" = some none)
  (n28_out : Zcq K (.ref C28) "out" = some none)
  (n28_at : Zcq K (.ref C28) "at" = some none)
  (n28_place : Zcq K (.ref C28) "place" = some none)
  (n28_slot : Zcq K (.ref C28) "slot" = some none)
  (i29 : Zcq K (.ref C28) "__init__" = some (some (.ref f29)))
  (j29 : Zcs K (.ref f29) = true)
  (l29 : K.lookup f29 = some ⟨oc29, od29, .func (ZcH "__init__" "CallUse.__init__" (ZdJ Zd5) (ZdH Zd5) (Zdx Zd5) .none kV29 dc29 pm29 an29 cd29 ct29), sl29⟩)
  (c29 : ZcI K cd29 "CallUse.__init__" = true)
  (k29 : Zcx K (.ref f29) = true)
  (mk28 : Zcv K C28 = true)
  (kc28 : Zcx K (.ref C28) = true)
  (i30 : Zcq K (.ref C28) "met" = some (some (.ref f30)))
  (j30 : Zcs K (.ref f30) = true)
  (l30 : K.lookup f30 = some ⟨oc30, od30, .func (ZcH "met" "CallUse.met" (ZdJ ZeH) (ZdH ZeH) (Zdx ZeH) .none kV30 dc30 pm30 an30 cd30 ct30), sl30⟩)
  (c30 : ZcI K cd30 "CallUse.met" = true)
  (k30 : Zcx K (.ref f30) = true)
  (a31 : ZcJ K mainGlobals "TakeUse" = some (some (.ref C31)))
  (pg31 : Zco K C31 Str.empty = true)
  (hd31 : Zcp K C31 = true)
  (po31 : Zct K C31 = true)
  (sa31 : Zcq K (.ref C31) "__setattr__" = some (some (.builtin "object.__setattr__")))
  (t1_31 : Zcq K (.ref C31) "__class__" = some (some (.builtin "object.__class__")))
  (t2_31 : Zcy K (.builtin "object.__class__") "__get__" = some (some (.builtin "getset_descriptor.__get__")))
  (t3_31 : Zcz K (.builtin "object.__class__") = some true)
  (t4_31 : ZcA K C31 (.type "object") = some true)
  (n31_fields : Zcq K (.ref C31) "fields" = some none)
  (n31_at : Zcq K (.ref C31) "at" = some none)
  (n31_place : Zcq K (.ref C31) "place" = some none)
  (n31_slot : Zcq K (.ref C31) "slot" = some none)
  (i32 : Zcq K (.ref C31) "__init__" = some (some (.ref f32)))
  (j32 : Zcs K (.ref f32) = true)
  (l32 : K.lookup f32 = some ⟨oc32, od32, .func (ZcH "__init__" "TakeUse.__init__" (ZdJ Zd6) (ZdH Zd6) (Zdx Zd6) .none kV32 dc32 pm32 an32 cd32 ct32), sl32⟩)
  (c32 : ZcI K cd32 "TakeUse.__init__" = true)
  (k32 : Zcx K (.ref f32) = true)
  (mk31 : Zcv K C31 = true)
  (kc31 : Zcx K (.ref C31) = true)
  (i33 : Zcq K (.ref C31) "met" = some (some (.ref f33)))
  (j33 : Zcs K (.ref f33) = true)
  (l33 : K.lookup f33 = some ⟨oc33, od33, .func (ZcH "met" "TakeUse.met" (ZdJ Zeq) (ZdH Zeq) (Zdx Zeq) .none kV33 dc33 pm33 an33 cd33 ct33), sl33⟩)
  (c33 : ZcI K cd33 "TakeUse.met" = true)
  (k33 : Zcx K (.ref f33) = true)
  (a34 : ZcJ K mainGlobals "CaseUse" = some (some (.ref C34)))
  (pg34 : Zco K C34 Str.empty = true)
  (hd34 : Zcp K C34 = true)
  (po34 : Zct K C34 = true)
  (sa34 : Zcq K (.ref C34) "__setattr__" = some (some (.builtin "object.__setattr__")))
  (t1_34 : Zcq K (.ref C34) "__class__" = some (some (.builtin "object.__class__")))
  (t2_34 : Zcy K (.builtin "object.__class__") "__get__" = some (some (.builtin "getset_descriptor.__get__")))
  (t3_34 : Zcz K (.builtin "object.__class__") = some true)
  (t4_34 : ZcA K C34 (.type "object") = some true)
  (n34_arms : Zcq K (.ref C34) "arms" = some none)
  (n34_at : Zcq K (.ref C34) "at" = some none)
  (n34_place : Zcq K (.ref C34) "place" = some none)
  (n34_slot : Zcq K (.ref C34) "slot" = some none)
  (i35 : Zcq K (.ref C34) "__init__" = some (some (.ref f35)))
  (j35 : Zcs K (.ref f35) = true)
  (l35 : K.lookup f35 = some ⟨oc35, od35, .func (ZcH "__init__" "CaseUse.__init__" (ZdJ Zd7) (ZdH Zd7) (Zdx Zd7) .none kV35 dc35 pm35 an35 cd35 ct35), sl35⟩)
  (c35 : ZcI K cd35 "CaseUse.__init__" = true)
  (k35 : Zcx K (.ref f35) = true)
  (mk34 : Zcv K C34 = true)
  (kc34 : Zcx K (.ref C34) = true)
  (i36 : Zcq K (.ref C34) "met" = some (some (.ref f36)))
  (j36 : Zcs K (.ref f36) = true)
  (l36 : K.lookup f36 = some ⟨oc36, od36, .func (ZcH "met" "CaseUse.met" (ZdJ Zer) (ZdH Zer) (Zdx Zer) .none kV36 dc36 pm36 an36 cd36 ct36), sl36⟩)
  (c36 : ZcI K cd36 "CaseUse.met" = true)
  (k36 : Zcx K (.ref f36) = true)
  (a37 : ZcJ K mainGlobals "RowUse" = some (some (.ref C37)))
  (pg37 : Zco K C37 Str.empty = true)
  (hd37 : Zcp K C37 = true)
  (po37 : Zct K C37 = true)
  (sa37 : Zcq K (.ref C37) "__setattr__" = some (some (.builtin "object.__setattr__")))
  (t1_37 : Zcq K (.ref C37) "__class__" = some (some (.builtin "object.__class__")))
  (t2_37 : Zcy K (.builtin "object.__class__") "__get__" = some (some (.builtin "getset_descriptor.__get__")))
  (t3_37 : Zcz K (.builtin "object.__class__") = some true)
  (t4_37 : ZcA K C37 (.type "object") = some true)
  (n37_out : Zcq K (.ref C37) "out" = some none)
  (n37_at : Zcq K (.ref C37) "at" = some none)
  (n37_place : Zcq K (.ref C37) "place" = some none)
  (n37_slot : Zcq K (.ref C37) "slot" = some none)
  (i38 : Zcq K (.ref C37) "__init__" = some (some (.ref f38)))
  (j38 : Zcs K (.ref f38) = true)
  (l38 : K.lookup f38 = some ⟨oc38, od38, .func (ZcH "__init__" "RowUse.__init__" (ZdJ Zd9) (ZdH Zd9) (Zdx Zd9) .none kV38 dc38 pm38 an38 cd38 ct38), sl38⟩)
  (c38 : ZcI K cd38 "RowUse.__init__" = true)
  (k38 : Zcx K (.ref f38) = true)
  (mk37 : Zcv K C37 = true)
  (kc37 : Zcx K (.ref C37) = true)
  (i39 : Zcq K (.ref C37) "met" = some (some (.ref f39)))
  (j39 : Zcs K (.ref f39) = true)
  (l39 : K.lookup f39 = some ⟨oc39, od39, .func (ZcH "met" "RowUse.met" (ZdJ ZeU) (ZdH ZeU) (Zdx ZeU) .none kV39 dc39 pm39 an39 cd39 ct39), sl39⟩)
  (c39 : ZcI K cd39 "RowUse.met" = true)
  (k39 : Zcx K (.ref f39) = true)
  (a40 : ZcJ K mainGlobals "Board" = some (some (.ref C40)))
  (pg40 : Zco K C40 Str.empty = true)
  (hd40 : Zcp K C40 = true)
  (po40 : Zct K C40 = true)
  (sa40 : Zcq K (.ref C40) "__setattr__" = some (some (.builtin "object.__setattr__")))
  (t1_40 : Zcq K (.ref C40) "__class__" = some (some (.builtin "object.__class__")))
  (t2_40 : Zcy K (.builtin "object.__class__") "__get__" = some (some (.builtin "getset_descriptor.__get__")))
  (t3_40 : Zcz K (.builtin "object.__class__") = some true)
  (t4_40 : ZcA K C40 (.type "object") = some true)
  (n40_points : Zcq K (.ref C40) "points" = some none)
  (n40_makes : Zcq K (.ref C40) "makes" = some none)
  (n40_uses : Zcq K (.ref C40) "uses" = some none)
  (n40_flows : Zcq K (.ref C40) "flows" = some none)
  (n40_root : Zcq K (.ref C40) "root" = some none)
  (i41 : Zcq K (.ref C40) "__init__" = some (some (.ref f41)))
  (j41 : Zcs K (.ref f41) = true)
  (l41 : K.lookup f41 = some ⟨oc41, od41, .func (ZcH "__init__" "Board.__init__" (ZdJ Zec) (ZdH Zec) (Zdx Zec) .none kV41 dc41 pm41 an41 cd41 ct41), sl41⟩)
  (c41 : ZcI K cd41 "Board.__init__" = true)
  (k41 : Zcx K (.ref f41) = true)
  (mk40 : Zcv K C40 = true)
  (kc40 : Zcx K (.ref C40) = true)
  (i42 : Zcq K (.ref C40) "point" = some (some (.ref f42)))
  (j42 : Zcs K (.ref f42) = true)
  (l42 : K.lookup f42 = some ⟨oc42, od42, .func (ZcH "point" "Board.point" (ZdJ ZeI) (ZdH ZeI) (Zdx ZeI) .none kV42 dc42 pm42 an42 cd42 ct42), sl42⟩)
  (c42 : ZcI K cd42 "Board.point" = true)
  (k42 : Zcx K (.ref f42) = true)
  (i43 : Zcq K (.ref C40) "make" = some (some (.ref f43)))
  (j43 : Zcs K (.ref f43) = true)
  (l43 : K.lookup f43 = some ⟨oc43, od43, .func (ZcH "make" "Board.make" (ZdJ ZeV) (ZdH ZeV) (Zdx ZeV) .none kV43 dc43 pm43 an43 cd43 ct43), sl43⟩)
  (c43 : ZcI K cd43 "Board.make" = true)
  (k43 : Zcx K (.ref f43) = true)
  (i44 : Zcq K (.ref C40) "use" = some (some (.ref f44)))
  (j44 : Zcs K (.ref f44) = true)
  (l44 : K.lookup f44 = some ⟨oc44, od44, .func (ZcH "use" "Board.use" (ZdJ Zff) (ZdH Zff) (Zdx Zff) .none kV44 dc44 pm44 an44 cd44 ct44), sl44⟩)
  (c44 : ZcI K cd44 "Board.use" = true)
  (k44 : Zcx K (.ref f44) = true)
  (i45 : Zcq K (.ref C40) "flow" = some (some (.ref f45)))
  (j45 : Zcs K (.ref f45) = true)
  (l45 : K.lookup f45 = some ⟨oc45, od45, .func (ZcH "flow" "Board.flow" (ZdJ ZeW) (ZdH ZeW) (Zdx ZeW) .none kV45 dc45 pm45 an45 cd45 ct45), sl45⟩)
  (c45 : ZcI K cd45 "Board.flow" = true)
  (k45 : Zcx K (.ref f45) = true)
  (a46 : ZcJ K mainGlobals "Log" = some (some (.ref C46)))
  (pg46 : Zco K C46 Str.empty = true)
  (hd46 : Zcp K C46 = true)
  (po46 : Zct K C46 = true)
  (sa46 : Zcq K (.ref C46) "__setattr__" = some (some (.builtin "object.__setattr__")))
  (t1_46 : Zcq K (.ref C46) "__class__" = some (some (.builtin "object.__class__")))
  (t2_46 : Zcy K (.builtin "object.__class__") "__get__" = some (some (.builtin "getset_descriptor.__get__")))
  (t3_46 : Zcz K (.builtin "object.__class__") = some true)
  (t4_46 : ZcA K C46 (.type "object") = some true)
  (n46_rows : Zcq K (.ref C46) "rows" = some none)
  (n46_bads : Zcq K (.ref C46) "bads" = some none)
  (i47 : Zcq K (.ref C46) "__init__" = some (some (.ref f47)))
  (j47 : Zcs K (.ref f47) = true)
  (l47 : K.lookup f47 = some ⟨oc47, od47, .func (ZcH "__init__" "Log.__init__" (ZdJ Zev) (ZdH Zev) (Zdx Zev) .none kV47 dc47 pm47 an47 cd47 ct47), sl47⟩)
  (c47 : ZcI K cd47 "Log.__init__" = true)
  (k47 : Zcx K (.ref f47) = true)
  (mk46 : Zcv K C46 = true)
  (kc46 : Zcx K (.ref C46) = true)
  (a48 : ZcJ K mainGlobals "Settling" = some (some (.ref C48)))
  (pg48 : Zco K C48 Str.empty = true)
  (hd48 : Zcp K C48 = true)
  (po48 : Zct K C48 = true)
  (sa48 : Zcq K (.ref C48) "__setattr__" = some (some (.builtin "object.__setattr__")))
  (t1_48 : Zcq K (.ref C48) "__class__" = some (some (.builtin "object.__class__")))
  (t2_48 : Zcy K (.builtin "object.__class__") "__get__" = some (some (.builtin "getset_descriptor.__get__")))
  (t3_48 : Zcz K (.builtin "object.__class__") = some true)
  (t4_48 : ZcA K C48 (.type "object") = some true)
  (n48_board : Zcq K (.ref C48) "board" = some none)
  (n48_uses_at : Zcq K (.ref C48) "uses_at" = some none)
  (n48_rows : Zcq K (.ref C48) "rows" = some none)
  (n48_bads : Zcq K (.ref C48) "bads" = some none)
  (n48_known : Zcq K (.ref C48) "known" = some none)
  (n48_goes : Zcq K (.ref C48) "goes" = some none)
  (n48_heres : Zcq K (.ref C48) "heres" = some none)
  (i49 : Zcq K (.ref C48) "__init__" = some (some (.ref f49)))
  (j49 : Zcs K (.ref f49) = true)
  (l49 : K.lookup f49 = some ⟨oc49, od49, .func (ZcH "__init__" "Settling.__init__" (ZdJ Zd2) (ZdH Zd2) (Zdx Zd2) .none kV49 dc49 pm49 an49 cd49 ct49), sl49⟩)
  (c49 : ZcI K cd49 "Settling.__init__" = true)
  (k49 : Zcx K (.ref f49) = true)
  (mk48 : Zcv K C48 = true)
  (kc48 : Zcx K (.ref C48) = true)
  (i50 : Zcq K (.ref C48) "put" = some (some (.ref f50)))
  (j50 : Zcs K (.ref f50) = true)
  (l50 : K.lookup f50 = some ⟨oc50, od50, .func (ZcH "put" "Settling.put" (ZdJ Zew) (ZdH Zew) (Zdx Zew) .none kV50 dc50 pm50 an50 cd50 ct50), sl50⟩)
  (c50 : ZcI K cd50 "Settling.put" = true)
  (k50 : Zcx K (.ref f50) = true)
  (i51 : Zcq K (.ref C48) "work" = some (some (.ref f51)))
  (j51 : Zcs K (.ref f51) = true)
  (l51 : K.lookup f51 = some ⟨oc51, od51, .func (ZcH "work" "Settling.work" (ZdJ Zej) (ZdH Zej) (Zdx Zej) .none kV51 dc51 pm51 an51 cd51 ct51), sl51⟩)
  (c51 : ZcI K cd51 "Settling.work" = true)
  (k51 : Zcx K (.ref f51) = true)
  (i52 : Zcq K (.ref C48) "work_goes" = some (some (.ref f52)))
  (j52 : Zcs K (.ref f52) = true)
  (l52 : K.lookup f52 = some ⟨oc52, od52, .func (ZcH "work_goes" "Settling.work_goes" (ZdJ ZdU) (ZdH ZdU) (Zdx ZdU) .none kV52 dc52 pm52 an52 cd52 ct52), sl52⟩)
  (c52 : ZcI K cd52 "Settling.work_goes" = true)
  (k52 : Zcx K (.ref f52) = true)
  (i53 : Zcq K (.ref C48) "work_uses" = some (some (.ref f53)))
  (j53 : Zcs K (.ref f53) = true)
  (l53 : K.lookup f53 = some ⟨oc53, od53, .func (ZcH "work_uses" "Settling.work_uses" (ZdJ ZdV) (ZdH ZdV) (Zdx ZdV) .none kV53 dc53 pm53 an53 cd53 ct53), sl53⟩)
  (c53 : ZcI K cd53 "Settling.work_uses" = true)
  (k53 : Zcx K (.ref f53) = true)
  (i54 : Zcq K (.ref C48) "put_flows" = some (some (.ref f54)))
  (j54 : Zcs K (.ref f54) = true)
  (l54 : K.lookup f54 = some ⟨oc54, od54, .func (ZcH "put_flows" "Settling.put_flows" (ZdJ ZdW) (ZdH ZdW) (Zdx ZdW) .none kV54 dc54 pm54 an54 cd54 ct54), sl54⟩)
  (c54 : ZcI K cd54 "Settling.put_flows" = true)
  (k54 : Zcx K (.ref f54) = true)
  (i55 : Zcq K (.ref C48) "work_here" = some (some (.ref f55)))
  (j55 : Zcs K (.ref f55) = true)
  (l55 : K.lookup f55 = some ⟨oc55, od55, .func (ZcH "work_here" "Settling.work_here" (ZdJ ZdX) (ZdH ZdX) (Zdx ZdX) .none kV55 dc55 pm55 an55 cd55 ct55), sl55⟩)
  (c55 : ZcI K cd55 "Settling.work_here" = true)
  (k55 : Zcx K (.ref f55) = true)
  (z_all : ZcJ K mainGlobals "all" = some none)
  (z_bool : ZcJ K mainGlobals "bool" = some none)
  (z_dict : ZcJ K mainGlobals "dict" = some none)
  (z_enumerate : ZcJ K mainGlobals "enumerate" = some none)
  (z_int : ZcJ K mainGlobals "int" = some none)
  (z_isinstance : ZcJ K mainGlobals "isinstance" = some none)
  (z_len : ZcJ K mainGlobals "len" = some none)
  (z_list : ZcJ K mainGlobals "list" = some none)
  (z_range : ZcJ K mainGlobals "range" = some none)
  (z_set : ZcJ K mainGlobals "set" = some none)
  (z_sorted : ZcJ K mainGlobals "sorted" = some none)
  (z_str : ZcJ K mainGlobals "str" = some none)
  (z_sum : ZcJ K mainGlobals "sum" = some none)
  (z_tuple : ZcJ K mainGlobals "tuple" = some none)
  (aL : ZcJ K mainGlobals "law" = some (some (.ref fL))) (lL : K.lookup fL = some ⟨ocL, odL, .func (ZcH "law" "law" (ZdJ ZiH) (ZdH ZiH) (Zdx ZiH) .none kVL dcL pmL anL cdL ctL), slL⟩) (cL : ZcI K cdL "law" = true) (kL : Zcx K (.ref fL) = true) :
  ∃ fd : FuncData, (∀ (s : Shared) (v : Value), BindsTo s fd ⟨[v], []⟩ [("_law_script", v)]) /\ ∀ base : Heap, K.In base -> base.Ns mainGlobals mg -> Zfi l.prog w K mg base CX0 40 fa fd ["_law_script"] (Zk2 K) := by
 have e := hfa.symm.trans (ZcK X G aL)
 cases e
 have T : Txt K mg := ⟨f1, _, ZdE (st := Zeh) l1 c1 k1, (ZdE (st := Zeh) l1 c1 k1).binds (ps := ["board"]) (fun _ _ _ _ _ _ => lS (fun _ => l0 rfl)), ZcK X G a1, k1,
  f2, _, ZdE (st := Zfl) l2 c2 k2, (ZdE (st := Zfl) l2 c2 k2).binds (ps := ["board", "log"]) (fun _ _ _ _ _ _ => lS (fun _ => lS (fun _ => l0 rfl))), ZcK X G a2, k2,
  f3, _, ZdE (st := Zet) l3 c3 k3, (ZdE (st := Zet) l3 c3 k3).binds (ps := ["board", "log"]) (fun _ _ _ _ _ _ => lS (fun _ => lS (fun _ => l0 rfl))), ZcK X G a3, k3,
  f4, _, ZdE (st := Zfm) l4 c4 k4, (ZdE (st := Zfm) l4 c4 k4).binds (ps := ["board", "log"]) (fun _ _ _ _ _ _ => lS (fun _ => lS (fun _ => l0 rfl))), ZcK X G a4, k4,
  f5, _, ZdE (st := Zfb) l5 c5 k5, (ZdE (st := Zfb) l5 c5 k5).binds (ps := ["log"]) (fun _ _ _ _ _ _ => lS (fun _ => l0 rfl)), ZcK X G a5, k5,
  f6, _, ZdE (st := ZfE) l6 c6 k6, (ZdE (st := ZfE) l6 c6 k6).binds (ps := ["board", "row", "u"]) (fun _ _ _ _ _ _ => lS (fun _ => lS (fun _ => lS (fun _ => l0 rfl)))), ZcK X G a6, k6,
  f7, _, ZdE (st := ZfF) l7 c7 k7, (ZdE (st := ZfF) l7 c7 k7).binds (ps := ["board"]) (fun _ _ _ _ _ _ => lS (fun _ => l0 rfl)), ZcK X G a7, k7,
  f8, _, ZdE (st := Zfc) l8 c8 k8, (ZdE (st := Zfc) l8 c8 k8).binds (ps := ["_law_cell", "_law_turn", "_law_many"]) (fun _ _ _ _ _ _ => lS (fun _ => lS (fun _ => lS (fun _ => l0 rfl)))), ZcK X G a8, k8,
  f9, _, ZdE (st := ZeN) l9 c9 k9, (ZdE (st := ZeN) l9 c9 k9).binds (ps := ["_law_cell"]) (fun _ _ _ _ _ _ => lS (fun _ => l0 rfl)), ZcK X G a9, k9,
  f10, _, ZdE (st := ZeO) l10 c10 k10, (ZdE (st := ZeO) l10 c10 k10).binds (ps := ["_law_words_here", "_law_cell", "_law_spots"]) (fun _ _ _ _ _ _ => lS (fun _ => lS (fun _ => lS (fun _ => l0 rfl)))), ZcK X G a10, k10,
  f11, _, ZdE (st := Zfd) l11 c11 k11, (ZdE (st := Zfd) l11 c11 k11).binds (ps := ["_law_words_here", "_law_cell", "_law_many"]) (fun _ _ _ _ _ _ => lS (fun _ => lS (fun _ => lS (fun _ => l0 rfl)))), ZcK X G a11, k11,
  f12, _, ZdE (st := Zfn) l12 c12 k12, (ZdE (st := Zfn) l12 c12 k12).binds (ps := ["_law_words_here", "_law_cell", "_law_many"]) (fun _ _ _ _ _ _ => lS (fun _ => lS (fun _ => lS (fun _ => l0 rfl)))), ZcK X G a12, k12,
  f13, _, ZdE (st := ZeE) l13 c13 k13, (ZdE (st := ZeE) l13 c13 k13).binds (ps := ["_law_script"]) (fun _ _ _ _ _ _ => lS (fun _ => l0 rfl)), ZcK X G a13, k13,
  f14, _, ZdE (st := ZeP) l14 c14 k14, (ZdE (st := ZeP) l14 c14 k14).binds (ps := ["_law_told"]) (fun _ _ _ _ _ _ => lS (fun _ => l0 rfl)), ZcK X G a14, k14,
  f15, _, ZdE (st := ZeQ) l15 c15 k15, (ZdE (st := ZeQ) l15 c15 k15).binds (ps := ["_law_things_here"]) (fun _ _ _ _ _ _ => lS (fun _ => l0 rfl)), ZcK X G a15, k15,
  f16, _, ZdE (st := ZeR) l16 c16 k16, (ZdE (st := ZeR) l16 c16 k16).binds (ps := ["_law_x"]) (fun _ _ _ _ _ _ => lS (fun _ => l0 rfl)), ZcK X G a16, k16,
  f17, _, ZdE (st := Zfe) l17 c17 k17, (ZdE (st := Zfe) l17 c17 k17).binds (ps := ["_law_x"]) (fun _ _ _ _ _ _ => lS (fun _ => l0 rfl)), ZcK X G a17, k17,
  f18, _, ZdE (st := ZeF) l18 c18 k18, (ZdE (st := ZeF) l18 c18 k18).binds (ps := ["_law_rows"]) (fun _ _ _ _ _ _ => lS (fun _ => l0 rfl)), ZcK X G a18, k18,
  f19, _, ZdE (st := ZeG) l19 c19 k19, (ZdE (st := ZeG) l19 c19 k19).binds (ps := ["_law_found", "_law_size"]) (fun _ _ _ _ _ _ => lS (fun _ => lS (fun _ => l0 rfl))), ZcK X G a19, k19,
  f20, _, ZdE (st := Zfo) l20 c20 k20, (ZdE (st := Zfo) l20 c20 k20).binds (ps := ["_law_things_here", "_law_log", "_law_which"]) (fun _ _ _ _ _ _ => lS (fun _ => lS (fun _ => lS (fun _ => l0 rfl)))), ZcK X G a20, k20,
  f21, _, ZdE (st := ZeS) l21 c21 k21, (ZdE (st := ZeS) l21 c21 k21).binds (ps := ["_law_board_here", "_law_log", "_law_which"]) (fun _ _ _ _ _ _ => lS (fun _ => lS (fun _ => lS (fun _ => l0 rfl)))), ZcK X G a21, k21,
  C22, ZcK X G a22, ⟨pg22, hd22, po22, sa22⟩, fun _ _ _ _ e => .ins e ⟨pg22, hd22, po22, sa22⟩ t1_22 t2_22 t3_22 t4_22, n22_shape, n22_parts, n22_at, n22_place, f23, _, ZdE (st := Zei) l23 c23 k23, (ZdE (st := Zei) l23 c23 k23).binds (ps := ["self", "shape", "parts", "at", "place"]) (fun _ _ _ _ _ _ => lS (fun _ => lS (fun _ => lS (fun _ => lS (fun _ => lS (fun _ => l0 rfl)))))), ⟨mk22, i23, j23, kc22⟩,
  C24, ZcK X G a24, ⟨pg24, hd24, po24, sa24⟩, fun _ _ _ _ e => .ins e ⟨pg24, hd24, po24, sa24⟩ t1_24 t2_24 t3_24 t4_24, n24_at, n24_place, n24_slot, f25, _, ZdE (st := Zeu) l25 c25 k25, (ZdE (st := Zeu) l25 c25 k25).binds (ps := ["self", "at", "place", "slot"]) (fun _ _ _ _ _ _ => lS (fun _ => lS (fun _ => lS (fun _ => lS (fun _ => l0 rfl))))), ⟨cg25, ⟨_, cr25, cf25⟩, k25⟩, ⟨mk24, i25, j25, kc24⟩,
  C26, ZcK X G a26, ⟨pg26, hd26, po26, sa26⟩, fun _ _ _ _ e => .ins e ⟨pg26, hd26, po26, sa26⟩ t1_26 t2_26 t3_26 t4_26, n26_at, n26_place, n26_slot, f27, _, ZdE (st := ZeT) l27 c27 k27, (ZdE (st := ZeT) l27 c27 k27).binds (ps := ["self", "make"]) (fun _ _ _ _ _ _ => lS (fun _ => lS (fun _ => l0 rfl))), ⟨i27, j27, k27⟩, ⟨mk26, ii26, j25, kc26⟩,
  C28, ZcK X G a28, ⟨pg28, hd28, po28, sa28⟩, fun _ _ _ _ e => .ins e ⟨pg28, hd28, po28, sa28⟩ t1_28 t2_28 t3_28 t4_28, n28_arg, n28_out, n28_at, n28_place, n28_slot, f29, _, ZdE (st := Zd5) l29 c29 k29, (ZdE (st := Zd5) l29 c29 k29).binds (ps := ["self", "at", "place", "slot", "arg", "out"]) (fun _ _ _ _ _ _ => lS (fun _ => lS (fun _ => lS (fun _ => lS (fun _ => lS (fun _ => lS (fun _ => l0 rfl))))))), ⟨mk28, i29, j29, kc28⟩, f30, _, ZdE (st := ZeH) l30 c30 k30, (ZdE (st := ZeH) l30 c30 k30).binds (ps := ["self", "make"]) (fun _ _ _ _ _ _ => lS (fun _ => lS (fun _ => l0 rfl))), ⟨i30, j30, k30⟩,
  C31, ZcK X G a31, ⟨pg31, hd31, po31, sa31⟩, fun _ _ _ _ e => .ins e ⟨pg31, hd31, po31, sa31⟩ t1_31 t2_31 t3_31 t4_31, n31_fields, n31_at, n31_place, n31_slot, f32, _, ZdE (st := Zd6) l32 c32 k32, (ZdE (st := Zd6) l32 c32 k32).binds (ps := ["self", "at", "place", "slot", "fields"]) (fun _ _ _ _ _ _ => lS (fun _ => lS (fun _ => lS (fun _ => lS (fun _ => lS (fun _ => l0 rfl)))))), ⟨mk31, i32, j32, kc31⟩, f33, _, ZdE (st := Zeq) l33 c33 k33, (ZdE (st := Zeq) l33 c33 k33).binds (ps := ["self", "make"]) (fun _ _ _ _ _ _ => lS (fun _ => lS (fun _ => l0 rfl))), ⟨i33, j33, k33⟩,
  C34, ZcK X G a34, ⟨pg34, hd34, po34, sa34⟩, fun _ _ _ _ e => .ins e ⟨pg34, hd34, po34, sa34⟩ t1_34 t2_34 t3_34 t4_34, n34_arms, n34_at, n34_place, n34_slot, f35, _, ZdE (st := Zd7) l35 c35 k35, (ZdE (st := Zd7) l35 c35 k35).binds (ps := ["self", "at", "place", "slot", "arms"]) (fun _ _ _ _ _ _ => lS (fun _ => lS (fun _ => lS (fun _ => lS (fun _ => lS (fun _ => l0 rfl)))))), ⟨mk34, i35, j35, kc34⟩, f36, _, ZdE (st := Zer) l36 c36 k36, (ZdE (st := Zer) l36 c36 k36).binds (ps := ["self", "make"]) (fun _ _ _ _ _ _ => lS (fun _ => lS (fun _ => l0 rfl))), ⟨i36, j36, k36⟩,
  C37, ZcK X G a37, ⟨pg37, hd37, po37, sa37⟩, fun _ _ _ _ e => .ins e ⟨pg37, hd37, po37, sa37⟩ t1_37 t2_37 t3_37 t4_37, n37_out, n37_at, n37_place, n37_slot, f38, _, ZdE (st := Zd9) l38 c38 k38, (ZdE (st := Zd9) l38 c38 k38).binds (ps := ["self", "at", "place", "slot", "out"]) (fun _ _ _ _ _ _ => lS (fun _ => lS (fun _ => lS (fun _ => lS (fun _ => lS (fun _ => l0 rfl)))))), ⟨mk37, i38, j38, kc37⟩, f39, _, ZdE (st := ZeU) l39 c39 k39, (ZdE (st := ZeU) l39 c39 k39).binds (ps := ["self", "make"]) (fun _ _ _ _ _ _ => lS (fun _ => lS (fun _ => l0 rfl))), ⟨i39, j39, k39⟩,
  C40, ZcK X G a40, ⟨pg40, hd40, po40, sa40⟩, fun _ _ _ _ e => .ins e ⟨pg40, hd40, po40, sa40⟩ t1_40 t2_40 t3_40 t4_40, n40_points, n40_makes, n40_uses, n40_flows, n40_root, f41, _, ZdE (st := Zec) l41 c41 k41, (ZdE (st := Zec) l41 c41 k41).binds (ps := ["self"]) (fun _ _ _ _ _ _ => lS (fun _ => l0 rfl)), ⟨mk40, i41, j41, kc40⟩, f42, _, ZdE (st := ZeI) l42 c42 k42, (ZdE (st := ZeI) l42 c42 k42).binds (ps := ["self", "place"]) (fun _ _ _ _ _ _ => lS (fun _ => lS (fun _ => l0 rfl))), ⟨i42, j42, k42⟩, f43, _, ZdE (st := ZeV) l43 c43 k43, (ZdE (st := ZeV) l43 c43 k43).binds (ps := ["self", "shape", "parts", "at", "place"]) (fun _ _ _ _ _ _ => lS (fun _ => lS (fun _ => lS (fun _ => lS (fun _ => lS (fun _ => l0 rfl)))))), ⟨i43, j43, k43⟩, f44, _, ZdE (st := Zff) l44 c44 k44, (ZdE (st := Zff) l44 c44 k44).binds (ps := ["self", "one"]) (fun _ _ _ _ _ _ => lS (fun _ => lS (fun _ => l0 rfl))), ⟨i44, j44, k44⟩, f45, _, ZdE (st := ZeW) l45 c45 k45, (ZdE (st := ZeW) l45 c45 k45).binds (ps := ["self", "p", "q"]) (fun _ _ _ _ _ _ => lS (fun _ => lS (fun _ => lS (fun _ => l0 rfl)))), ⟨i45, j45, k45⟩,
  C46, ZcK X G a46, ⟨pg46, hd46, po46, sa46⟩, fun _ _ _ _ e => .ins e ⟨pg46, hd46, po46, sa46⟩ t1_46 t2_46 t3_46 t4_46, n46_rows, n46_bads, f47, _, ZdE (st := Zev) l47 c47 k47, (ZdE (st := Zev) l47 c47 k47).binds (ps := ["self", "rows", "bads"]) (fun _ _ _ _ _ _ => lS (fun _ => lS (fun _ => lS (fun _ => l0 rfl)))), ⟨mk46, i47, j47, kc46⟩,
  C48, ZcK X G a48, ⟨pg48, hd48, po48, sa48⟩, fun _ _ _ _ e => .ins e ⟨pg48, hd48, po48, sa48⟩ t1_48 t2_48 t3_48 t4_48, n48_board, n48_uses_at, n48_rows, n48_bads, n48_known, n48_goes, n48_heres, f49, _, ZdE (st := Zd2) l49 c49 k49, (ZdE (st := Zd2) l49 c49 k49).binds (ps := ["self", "board"]) (fun _ _ _ _ _ _ => lS (fun _ => lS (fun _ => l0 rfl))), ⟨mk48, i49, j49, kc48⟩, f50, _, ZdE (st := Zew) l50 c50 k50, (ZdE (st := Zew) l50 c50 k50).binds (ps := ["self", "word", "first", "second", "why"]) (fun _ _ _ _ _ _ => lS (fun _ => lS (fun _ => lS (fun _ => lS (fun _ => lS (fun _ => l0 rfl)))))), ⟨i50, j50, k50⟩, f51, _, ZdE (st := Zej) l51 c51 k51, (ZdE (st := Zej) l51 c51 k51).binds (ps := ["self", "number"]) (fun _ _ _ _ _ _ => lS (fun _ => lS (fun _ => l0 rfl))), ⟨i51, j51, k51⟩, f52, _, ZdE (st := ZdU) l52 c52 k52, (ZdE (st := ZdU) l52 c52 k52).binds (ps := ["self", "number", "p", "q"]) (fun _ _ _ _ _ _ => lS (fun _ => lS (fun _ => lS (fun _ => lS (fun _ => l0 rfl))))), ⟨i52, j52, k52⟩, f53, _, ZdE (st := ZdV) l53 c53 k53, (ZdE (st := ZdV) l53 c53 k53).binds (ps := ["self", "number", "m", "p"]) (fun _ _ _ _ _ _ => lS (fun _ => lS (fun _ => lS (fun _ => lS (fun _ => l0 rfl))))), ⟨i53, j53, k53⟩, f54, _, ZdE (st := ZdW) l54 c54 k54, (ZdE (st := ZdW) l54 c54 k54).binds (ps := ["self", "flows", "why"]) (fun _ _ _ _ _ _ => lS (fun _ => lS (fun _ => lS (fun _ => l0 rfl)))), ⟨i54, j54, k54⟩, f55, _, ZdE (st := ZdX) l55 c55 k55, (ZdE (st := ZdX) l55 c55 k55).binds (ps := ["self", "number", "m", "p"]) (fun _ _ _ _ _ _ => lS (fun _ => lS (fun _ => lS (fun _ => lS (fun _ => l0 rfl))))), ⟨i55, j55, k55⟩,
  ZcL X G z_all,
  ZcL X G z_bool,
  ZcL X G z_dict,
  ZcL X G z_enumerate,
  ZcL X G z_int,
  ZcL X G z_isinstance,
  ZcL X G z_len,
  ZcL X G z_list,
  ZcL X G z_range,
  ZcL X G z_set,
  ZcL X G z_sorted,
  ZcL X G z_str,
  ZcL X G z_sum,
  ZcL X G z_tuple⟩
 exact ⟨ZcH "law" "law" (ZdJ ZiH) (ZdH ZiH) (Zdx ZiH) .none kVL dcL pmL anL cdL ctL, fun s v => .of_eq rfl, fun base _ _ => ZpE T (ZdE (st := ZiH) lL cL kL)⟩
theorem walk {l : PySem.W.OpenLaw} {q : Program} {loose : List Str} {XP : (Str -> Option Value) -> Heap -> Prop} {YP : World -> Heap -> Prop} {d : DefRec} {K : Params -> PySem.W.Frag} (hn : l.most = some 63) (hdf : d.params.defaults = [])
  (hY : ∀ (w : World) (h : Heap), YP w h -> (K w.params).In h)
  (F : ∀ (w : World) (mg : Str -> Option Value) (fa : Addr) (h : Heap), (K w.params).In h -> h.Ns mainGlobals mg -> mg d.name = some (.ref fa) ->
   ∃ fd : FuncData, (∀ (s : Shared) (u : Value), BindsTo s fd ⟨[u], []⟩ [("_law_script", u)]) /\ ∀ base : Heap, (K w.params).In base -> base.Ns mainGlobals mg -> Zfi l.prog w (K w.params) mg base CX0 40 fa fd ["_law_script"] (Zk2 (K w.params))) :
  PySem.W.WalkO q loose XP YP l.row.toRowW d [] (fun f vs => PySem.call f vs) :=
 L2.Internal.walk_of (n := 63) (k := 40) (x := "_law_script") (CX := fun _ => CX0) (sp := fun w => Zk2 (K w.params)) hn (by decide) hdf ⟨rfl, by decide, by decide⟩ hY F (fun _ _ a ns hl _ hS => ⟨a, ns, rfl, hS, hl, fun _ => rfl⟩) fun _ _ _ _ _ z => z
end K36.Internal
open PySem PySem.W PyProof.Rows
set_option maxRecDepth 100000 in
set_option maxHeartbeats 0 in
theorem PySem.Challenge.cw_flowkinds_k36_told_by_places_holds : PySem.Challenge.rw_flowkinds_k36_told_by_places.Holds := by
 w_on; o_law; k_head; (case hw => w_witness2)
 k_fill
 refine K36.Internal.walk (l := PySem.Challenge.rw_flowkinds_k36_told_by_places) rfl rfl (fun w h Y => PySem.W.kIn_of Y) ?F
 case F =>
  intro w mg fa h KX G hmg
  apply K36.Internal.all_mk KX G hmg
  all_goals k_is
