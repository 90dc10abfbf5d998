import PyProof.Rows.All
import Wide.All
import OpenK.AllK
import Wide.FinOn
import Lean
import PyProof.EqAt
import PyProof.EqKinds
import PyProof.TupleCall
import PyProof.NeKinds
import PySem.Challenge.RW_flowkinds_k34_a_way_by_itself
set_option Elab.async false
set_option linter.all false
set_option maxRecDepth 100000
set_option maxHeartbeats 4000000
set_option genInjectivity false
set_option genSizeOf false
set_option bootstrap.genMatcherCode false
set_option compiler.extract_closed false
open List renaming all_cons → ZaP, all_eq_true → Zbu, any_cons → ZaE, append_assoc → Za1, append_nil → Zas, cons_append → ZaF, drop_eq_getElem_cons → Zbh, drop_eq_nil_iff → ZaW, drop_eq_nil_of_le → Zbc, drop_zero → Zbb, eq_nil_of_length_eq_zero → Zbm, ext_getElem? → Zbo, extract_eq_take_drop → Zbi, filterMap → ZaX, filterMap_cons → Zad, find?_cons → ZaD, foldl_cons → ZaR, getD_eq_getElem?_getD → ZaV, getElem?_append_left → Zaz, getElem?_append_right → Zay, getElem?_concat_length → Zbt, getElem?_cons_succ → ZaU, getElem?_drop → Zbg, getElem?_eq_getElem → ZaQ, getElem?_eq_none → Zbq, getElem?_eq_some_iff → Zaj, getElem?_map → ZaA, getElem?_set_ne → Zal, getElem?_set_self → Zak, getElem?_take → Zbf, length → Zaw, length_append → ZaC, length_cons → Zao, length_drop → ZaK, length_filter_le → Za0, length_map → Zar, length_nil → ZaG, length_singleton → ZaL, length_take → Zax, lookup → Zap, lookup_cons → ZaN, map_append → ZaZ, map_cons → Zaq, map_map → Zbw, map_nil → ZaH, mem_append → Zah, mem_append_left → Zai, mem_append_right → Zan, mem_cons → Zag, mem_cons_of_mem → Zaf, mem_cons_self → Zae, mem_filter → Zab, mem_filterMap → Zam, mem_iff_getElem? → Zbe, mem_map → ZaT, mem_of_getElem? → ZaB, mem_of_mem_drop → Za8, mem_of_mem_take → Za7, mem_range → Zac, mem_singleton → ZaM, nodup_append → Zbr, nodup_cons → Zat, nodup_nil → ZaI, not_mem_nil → ZaS, of_mem_zip → Zau, pairwise_append → Za5, pairwise_iff_getElem → Zbl, pairwise_lt_range → Zbs, pairwise_map → Zbp, perm_append_comm → Za6, range → Zaa, range_succ → ZaY, range_succ_eq_map → ZaO, replicate → Zav, reverse_append → Zbj, reverse_reverse → Zbk, set_append_right → Zbn, size_toArray → ZaJ, take_add_one → Za2, take_append_drop → Za4, take_append_of_le_length → Zbv, take_length → Za9, take_of_length_le → Zba, take_zero → Zbd, toArray → Za3
open Nat renaming add_assoc → ZbN, add_sub_cancel_left → ZbQ, le_of_eq → ZbF, le_of_lt → ZbB, le_refl → ZbD, le_succ_of_le → ZbL, le_trans → ZbA, lt_irrefl → Zby, lt_of_lt_of_le → Zbx, lt_succ_of_lt → ZbH, lt_succ_self → ZbG, min_eq_left → ZbM, ne_of_gt → ZbC, ne_of_lt → Zbz, not_lt_zero → ZbK, pos_of_ne_zero → ZbP, sub_self → ZbO, succ_le_succ → ZbJ, zero_add → ZbI, zero_le → ZbE
open Option renaming isSome_iff_exists → ZbS, isSome_map → ZbU, map_eq_some_iff → ZbV, map_some → ZbT, some → ZbR
open PySem.W renaming callWith_K → Zcf, cellsFrom_some → Zch, codeIn → Zcj, emptyDict → Zb7, findIn → Zb1, fnOf → Zci, hasDictIn → Zb0, instObj → ZbW, isFn → Zb3, keepIn → Zb8, kia_one → Zcc, kitx_dict → Zce, kitx_list → Zcd, lookIn → ZbY, makesIn → Zb6, methodCall_KW → Zcg, methodObj → ZbX, mg_none_of → Zcm, mg_of → Zcl, mroIn → Zcb, nsIn → Zck, plainGet → ZbZ, plainGet_of → Zb2, plainOver → Zb4, specialIn → Zb9, takerIn → Zb5, takesIn → Zca
open PySem.F renaming args_dict_get_3 → Zcp, args_tuple_add_2 → Zct, entry_dict_get → Zco, entry_tuple_add → Zcs, plainAttrs_dict → Zcq, plainAttrs_list → Zcv, slot_dict_get → Zcn, slot_dict_setdefault → Zcu, slot_list_append → Zcw, slot_tuple_add → Zcr, type_list_append → Zcx
open Bool renaming and_eq_true → ZcA, eq_iff_iff → Zcz, false_ne_true → Zcy
open Array renaming getElem?_eq_some_iff → ZcD, getElem?_toList → ZcC, length_toList → ZcB, perm_iff_toList_perm → ZcE, toList_append → ZcG, toList_extract → ZcF, toList_push → ZcH, toList_reverse → ZcI, toList_setIfInBounds → ZcJ
open Int renaming emod_lt_of_pos → ZcM, emod_nonneg → ZcL, toNat_natCast → ZcK
open PySem.Heap renaming get?_push_of_some → ZcP, get?_push_size → ZcO, get?_update_other → ZcR, lt_size → ZcN, size_push → ZcQ
open PyProof.Rows renaming bubble → ZcU, callWith_type1 → ZcS, envOfC → ZcV, slot_tuple_getitem → ZcT
namespace L2.Internal
theorem auR (h : True = True := by rfl) : True := trivial
theorem auD (h : True := by decide) : True := trivial
theorem auI (h : True -> True = True := by intro _; rfl) : True := trivial
theorem auL (h : True = True \/ True := by first | exact .inl rfl | exact .inr rfl | assumption) : True := trivial
open PySem PySem.Spec PyProof.Rows
noncomputable abbrev Key := Sum Int Str
noncomputable def Zlj : Key -> Value -> Bool
 | .inl k, v => Value.isInt k v
 | .inr x, v => Value.isStrOf x v
noncomputable def keyH (w : World) : Key -> Int
 | .inl k => hashInt k
 | .inr x => hashStr w x
theorem ZdY : ∀ {k : Key} {v : Value}, Zlj k v = true -> (∃ i t, k = Sum.inl i /\ v = Value.int i t) \/ (∃ x t, k = Sum.inr x /\ v = Value.str x t)
 | .inl i, v, h => by
  obtain ⟨t, e⟩ := Value.isInt_shape (k := i) (v := v) h
  exact .inl ⟨i, t, rfl, e⟩
 | .inr x, v, h => by
  obtain ⟨t, e⟩ := Value.isStrOf_shape (x := x) (v := v) h
  exact .inr ⟨x, t, rfl, e⟩
theorem ZlP (i : Int) (t : Tok) : Zlj (.inl i) (.int i t) = true := by simp [Zlj, Value.isInt]
theorem ZlQ (x : Str) (t : Tok) : Zlj (.inr x) (.str x t) = true := by simp [Zlj, Value.isStrOf]
theorem Zo3 (a b : Int) : decide ((Sum.inl a : Key) = Sum.inl b) = (a == b) := by
 by_cases e : a = b
 ·subst e; simp
 ·have h : ¬ (Sum.inl a : Key) = Sum.inl b := fun q => e (Sum.inl.inj q)
  rw [decide_eq_false h]
  exact (beq_eq_false_iff_ne.mpr e).symm
theorem Zo4 (a b : Str) : decide ((Sum.inr a : Key) = Sum.inr b) = decide (a = b) := by
 by_cases e : a = b
 ·subst e; simp
 ·have h : ¬ (Sum.inr a : Key) = Sum.inr b := fun q => e (Sum.inr.inj q)
  rw [decide_eq_false h, decide_eq_false e]
theorem Zo5 (a : Int) (b : Str) : decide ((Sum.inl a : Key) = Sum.inr b) = false := decide_eq_false (fun q => nomatch q)
theorem Zo6 (a : Str) (b : Int) : decide ((Sum.inr a : Key) = Sum.inl b) = false := decide_eq_false (fun q => nomatch q)
noncomputable def Zd4 (prog : Program) (w : World) : PySem.KeyKind prog w Key where
 is := Zlj
 hash := keyH w
 inj := fun v a b ha hb => by
  rcases ZdY ha with ⟨i, t, rfl, rfl⟩ | ⟨x, t, rfl, rfl⟩
  ·rcases ZdY hb with ⟨j, u, rfl, e⟩ | ⟨y, u, rfl, e⟩
   ·injection e with e1 _; rw [e1]
   ·exact nomatch e
  ·rcases ZdY hb with ⟨j, u, rfl, e⟩ | ⟨y, u, rfl, e⟩
   ·exact nomatch e
   ·injection e with e1 _; rw [e1]
 byValue := fun k v h => by
  rcases ZdY h with ⟨i, t, rfl, rfl⟩ | ⟨x, t, rfl, rfl⟩ <;> rfl
 pyHash := fun hv h => by
  rcases ZdY hv with ⟨i, t, rfl, rfl⟩ | ⟨x, t, rfl, rfl⟩
  ·exact wpAny_pyHash_int h
  ·exact wpAny_pyHash_str h
 eqBool := fun hu hv h => by
  rcases ZdY hu with ⟨i, t, rfl, rfl⟩ | ⟨x, t, rfl, rfl⟩
  ·rcases ZdY hv with ⟨j, u, rfl, rfl⟩ | ⟨y, u, rfl, rfl⟩
   ·rw [Zo3] at h; exact wpAny_eqBool_int h
   ·rw [Zo5] at h; exact SeqAt.EqAt.int_str i t y u _ _ _ _ h
  ·rcases ZdY hv with ⟨j, u, rfl, rfl⟩ | ⟨y, u, rfl, rfl⟩
   ·rw [Zo6] at h; exact SeqAt.EqAt.str_int x t j u _ _ _ _ h
   ·rw [Zo4] at h; exact wpAny_eqBool_str h
 «strs» := fun k x t v h => by
  rcases ZdY h with ⟨i, u, rfl, e⟩ | ⟨y, u, rfl, e⟩
  ·exact nomatch e
  ·injection e with e1 _
   subst e1
   cases v <;> rfl
theorem Zj4 (prog : Program) (w : World) (i : Int) (t : Tok) : (Zd4 prog w).is (.inl i) (.int i t) = true := ZlP i t
theorem Zj5 (prog : Program) (w : World) (x : Str) (t : Tok) : (Zd4 prog w).is (.inr x) (.str x t) = true := ZlQ x t
end L2.Internal
namespace L2.Internal
open PySem PySem.Spec PyProof.Rows
set_option genInjectivity true in
inductive V where
 | non | bl (b : Bool) | int (i : Int) | str (x : Str) | byt (b : Array UInt8) | flt (b : UInt64) | ref (a : Addr) | ty (n : String)
 deriving DecidableEq
noncomputable def ZdU : V -> Value -> Prop
 | .non, u => u = Value.none
 | .bl b, u => u = Value.bool b
 | .int i, u => ∃ t, u = Value.int i t
 | .str x, u => ∃ t, u = Value.str x t
 | .byt b, u => ∃ t, u = Value.bytes b t
 | .flt b, u => ∃ t, u = Value.float b t
 | .ref a, u => u = Value.ref a
 | .ty n, u => u = Value.type n
noncomputable abbrev Zem : List V -> List Value -> Prop := Paired ZdU
theorem Zem.length {xs : List V} {us : List Value} (r : Zem xs us) : xs.length = us.length := Paired.length r
theorem Zem.get : ∀ {xs : List V} {us : List Value} {i : Nat} {x : V}, Zem xs us -> xs[i]? = some x -> ∃ u, us[i]? = some u /\ ZdU x u
 | _, _, _, _, .nil, e => by simp at e
 | _, _, 0, _, .cons r _, e => by simp at e; subst e; exact ⟨_, rfl, r⟩
 | _, _, i + 1, x, .cons _ t, e => by
  obtain ⟨u, h1, h2⟩ := Zem.get (i := i) (x := x) t (by simpa using e)
  exact ⟨u, by simpa using h1, h2⟩
theorem Zem.set {x : V} {u : Value} (r : ZdU x u) : ∀ {xs : List V} {us : List Value} (i : Nat), Zem xs us -> Zem (xs.set i x) (us.set i u)
 | _, _, _, .nil => .nil
 | _, _, 0, .cons _ t => .cons r t
 | _, _, i + 1, .cons q t => .cons q (Zem.set r i t)
theorem Zem.append : ∀ {xs ys : List V} {us ws : List Value}, Zem xs us -> Zem ys ws -> Zem (xs ++ ys) (us ++ ws)
 | _, _, _, _, .nil, s => s
 | _, _, _, _, .cons r t, s => .cons r (Zem.append t s)
theorem Zem.take : ∀ {xs : List V} {us : List Value} (n : Nat), Zem xs us -> Zem (xs.take n) (us.take n)
 | _, _, 0, _ => .nil
 | _, _, _ + 1, .nil => .nil
 | _, _, n + 1, .cons r t => .cons r (Zem.take n t)
theorem Zem.drop : ∀ {xs : List V} {us : List Value} (n : Nat), Zem xs us -> Zem (xs.drop n) (us.drop n)
 | _, _, 0, r => r
 | _, _, _ + 1, .nil => .nil
 | _, _, n + 1, .cons _ t => Zem.drop n t
noncomputable def Zjl : Option V -> Option Value -> Prop
 | some v, some u => ZdU v u
 | none, none => True
 | _, _ => False
noncomputable def KV {κ : Type} : List (κ × V) -> List (κ × Value) -> Prop := Paired fun (p : κ × V) (q : κ × Value) => p.1 = q.1 /\ ZdU p.2 q.2
noncomputable def kV : Key -> V
 | .inl i => .int i
 | .inr x => .str x
inductive HO where
 | lst (xs : List V)
 | tup (xs : List V)
 | dK (kvs : List (Key × V)) | dT (kvs : List (List Key × V))
 | set (S : Int -> Bool) (n : Nat)
 | ins (C dx : Addr) (fs : List (Str × V))
 | own (x : Addr)
 | xd (fs : List (Str × V))
 | met (f x : Addr)
 | rng (lo hi : Int)
 | frz (o : Obj) (u : HO)
 | tbl (ps : Array Value)
 | ext (φ : Heap -> Prop)
noncomputable abbrev Hp := Addr -> Option HO
def ZlM (h : Heap) (a : Addr) (items : Array Value) : Prop := ∃ o, h.get? a = some o /\ o.cls = .type "tuple" /\ ∃ n, o.data = .seq items n /\ o.dict = none
theorem ZlM.tup {h : Heap} {a : Addr} {items : Array Value} : ZlM h a items -> IsTup h a items
 | ⟨o, h1, h2, n, h3, _⟩ => ⟨o, h1, h2, n, h3⟩
theorem ZlM.lt {h : Heap} {a : Addr} {items : Array Value} (p : ZlM h a items) : a < h.objs.size := by
 obtain ⟨o, e, _⟩ := p
 exact ZcN e
theorem ZlM.new (h : Heap) (items : Array Value) : ZlM (h.push { cls := .type "tuple", data := .seq items }) h.objs.size items := ⟨_, ZcO _ rfl, rfl, _, rfl, rfl⟩
noncomputable def upd (H : Hp) (a : Addr) (o : HO) : Hp := fun b => if b = a then some o else H b
theorem ZcX {H : Hp} {a : Addr} {o : HO} : upd H a o a = some o := by unfold upd; rw [if_pos rfl]
theorem Zc6 {H : Hp} {a b : Addr} {o : HO} (h : b ≠ a) : upd H a o b = H b := by unfold upd; rw [if_neg h]
theorem ZdZ {H : Hp} {a : Addr} {o u : HO} : upd (upd H a o) a u = upd H a u := by
 funext b; unfold upd; split <;> rfl
theorem Zdx {H : Hp} {a b : Addr} {o u : HO} (h : H a = some o) (h' : H b = some u) (d : o ≠ u) : a ≠ b := by
 intro e; subst e; rw [h] at h'; exact d (ZbR.inj h')
theorem Zc9 {H : Hp} {a b : Addr} {o : HO} (h : H a = some o) (h' : H b = none) : a ≠ b := by
 intro e; subst e; rw [h] at h'; cases h'
section
variable (P : Program) (w : World)
noncomputable def ZeN (H : Hp) (h : Heap) (a : Addr) : HO -> Prop
 | .lst xs => xs.length <= sizeLine /\ ∃ (its : List Value) (n : Nat), Zem xs its /\ h.get? a = some { cls := .type "list", data := .seq its.toArray n }
 | .tup xs => xs.length <= sizeLine /\ ∃ its : List Value, Zem xs its /\ ZlM h a its.toArray
 | .dK kvs => kvs.length <= sizeLine /\ (a == sysModules) = false /\ ∃ vs, KV kvs vs /\ h.DictOf (Zd4 P w) a vs
 | .dT kvs => kvs.length <= sizeLine /\ (a == sysModules) = false /\ ∃ xs : List (List Key × Addr × Value),
   Paired (fun (p : List Key × V) (q : List Key × Addr × Value) => p.1 = q.1 /\ H q.2.1 = some (.tup (p.1.map kV)) /\ ZdU p.2 q.2.2) kvs xs /\
   ∃ o es ep, h.get? a = some o /\ o.ExactDict /\ o.data = .dict es ep /\ es.toList = xs.map (entryOfKey (tupleKind (Zd4 P w))) /\ (xs.map (·.1)).Nodup
 | .set S n => h.SetOf (intKind P w) a S n
 | .ins C dx fs => H dx = some (.own a) /\ fs.length <= 1000 /\ dx ≠ a /\ h.get? a = some (ZbW C dx) /\
   ∃ mA, h.Ns1 dx mA /\ (∀ f, Zjl (fs.lookup f) (mA f)) /\ PySem.Within mA (fs.map (·.1))
 | .own _ => ∃ o, h.get? a = some o
 | .xd fs => ∃ mA, h.Ns1 a mA /\ ∀ f, Zjl (fs.lookup f) (mA f)
 | .rng lo hi => ∃ t u v, h.get? a = some { cls := .type "range", data := .fields #[.int lo t, .int hi u, .int 1 v] }
 | .frz o u => h.get? a = some o /\ ZeN H h a u
 | .tbl ps => h.get? a = some { cls := .none, data := .fields ps }
 | .met f x => h.get? a = some (ZbX (.ref f) (.ref x))
 | .ext φ => φ h /\ (∃ o, h.get? a = some o) /\ ∀ h1 h2 : Heap, φ h1 -> (∀ o, h1.get? a = some o -> h2.get? a = some o) -> φ h2
def HOk (H : Hp) (h : Heap) : Prop := ∀ a o, H a = some o -> ZeN P w H h a o
end
section
variable {P : Program} {w : World} {H H' : Hp} {h h' : Heap} {a : Addr} {o : HO}
theorem ZeN.lt (x : ZeN P w H h a o) : a < h.objs.size := by
 cases o with
 | lst xs => obtain ⟨_, _, _, _, e⟩ := x; exact ZcN e
 | tup xs => obtain ⟨_, _, _, p⟩ := x; exact p.lt
 | dK kvs => obtain ⟨_, _, _, _, o, _, _, e, _⟩ := x; exact ZcN e
 | dT kvs => obtain ⟨_, _, _, _, o, _, _, e, _⟩ := x; exact ZcN e
 | set S n => obtain ⟨o, _, _, _, e, _⟩ := x; exact ZcN e
 | ins C dx fs => obtain ⟨_, _, _, e, _⟩ := x; exact ZcN e
 | own y => obtain ⟨_, e⟩ := x; exact ZcN e
 | xd fs => obtain ⟨_, ⟨_, _, _, e, _⟩, _⟩ := x; exact ZcN e
 | rng lo hi => obtain ⟨_, _, _, e⟩ := x; exact ZcN e
 | frz ob u => obtain ⟨e, _⟩ := x; exact ZcN e
 | tbl ps => exact ZcN (show h.get? a = some _ from x)
 | met f y => exact ZcN (show h.get? a = some _ from x)
 | ext φ => obtain ⟨_, ⟨_, e⟩, _⟩ := x; exact ZcN e
theorem Paired.mapP {α β : Type} {F G : α -> β -> Prop} : ∀ {l₁ : List α} {l₂ : List β}, Paired F l₁ l₂ -> (∀ a b, F a b -> G a b) -> Paired G l₁ l₂
 | _, _, .nil, _ => .nil
 | _, _, .cons r t, f => .cons (f _ _ r) (Paired.mapP t f)
theorem ZeN.stay (x : ZeN P w H h a o) (k : ∀ b u, (b = a \/ H b = some (.own a)) -> h.get? b = some u -> h'.get? b = some u)
  (ho : ∀ b, H b = some (.own a) -> H' b = some (.own a)) (ht : ∀ b xs, H b = some (.tup xs) -> H' b = some (.tup xs)) : ZeN P w H' h' a o := by
 induction o with
 | lst xs => obtain ⟨z, its, n, r, e⟩ := x; exact ⟨z, its, n, r, k _ _ (.inl rfl) e⟩
 | tup xs => obtain ⟨z, its, r, ob, e, c⟩ := x; exact ⟨z, its, r, ob, k _ _ (.inl rfl) e, c⟩
 | dK kvs => obtain ⟨z, y, vs, r, ob, es, ep, e, c⟩ := x; exact ⟨z, y, vs, r, ob, es, ep, k _ _ (.inl rfl) e, c⟩
 | dT kvs =>
  obtain ⟨z, y, xs, r, ob, es, ep, e, c⟩ := x
  exact ⟨z, y, xs, Paired.mapP r fun p q z => ⟨z.1, ht _ _ z.2.1, z.2.2⟩, ob, es, ep, k _ _ (.inl rfl) e, c⟩
 | set S n => obtain ⟨ob, es, ep, t, e, c⟩ := x; exact ⟨ob, es, ep, t, k _ _ (.inl rfl) e, c⟩
 | ins C dx fs =>
  obtain ⟨d, z, ne, e, mA, ⟨od, es, ep, e2, c⟩, r⟩ := x
  exact ⟨ho _ d, z, ne, k _ _ (.inl rfl) e, mA, ⟨od, es, ep, k _ _ (.inr d) e2, c⟩, r⟩
 | own y => obtain ⟨ob, e⟩ := x; exact ⟨ob, k _ _ (.inl rfl) e⟩
 | xd fs => obtain ⟨mA, ⟨od, es, ep, e, c⟩, r⟩ := x; exact ⟨mA, ⟨od, es, ep, k _ _ (.inl rfl) e, c⟩, r⟩
 | rng lo hi => obtain ⟨t, u, v, e⟩ := x; exact ⟨t, u, v, k _ _ (.inl rfl) e⟩
 | frz ob u ih => obtain ⟨e, q⟩ := x; exact ⟨k _ _ (.inl rfl) e, ih q⟩
 | tbl ps =>
  have e : h.get? a = some { cls := .none, data := .fields ps } := x
  show h'.get? a = some { cls := .none, data := .fields ps }
  exact k a _ (.inl rfl) e
 | met f y =>
  have e : h.get? a = some (ZbX (.ref f) (.ref y)) := x
  show h'.get? a = some (ZbX (.ref f) (.ref y))
  exact k a _ (.inl rfl) e
 | ext φ => obtain ⟨p, ⟨o, e⟩, st⟩ := x; exact ⟨st _ _ p fun o q => k _ _ (.inl rfl) q, ⟨o, k _ _ (.inl rfl) e⟩, st⟩
theorem HOk.lt (x : HOk P w H h) (e : H a = some o) : a < h.objs.size := (x a o e).lt
theorem HOk.fresh (x : HOk P w H h) (e : h.objs.size <= a) : H a = none := by
 cases q : H a with
 | none => rfl
 | some u => exact absurd (Zbx (x.lt q) e) (Zby _)
theorem HOk.kept (x : HOk P w H h) (k : ∀ b u, h.get? b = some u -> h'.get? b = some u) : HOk P w H h' := fun a o e =>
 (x a o e).stay (fun b u _ q => k b u q) (fun _ q => q) fun _ _ q => q
theorem HOk.laid (x : HOk P w H h) (k : ∀ b u, h.get? b = some u -> h'.get? b = some u) (hp : h.objs.size <= a) (new : ZeN P w (upd H a o) h' a o) : HOk P w (upd H a o) h' := fun b u e => by
 have hn := x.fresh hp
 by_cases hb : b = a
 ·subst hb; rw [ZcX] at e; cases e; exact new
 ·rw [Zc6 hb] at e
  exact (x b u e).stay (fun c v _ q => k c v q) (fun c q => by rw [Zc6 (Zc9 q hn)]; exact q) fun c xs q => by rw [Zc6 (Zc9 q hn)]; exact q
end
def Rd (H : Hp) (a : Addr) (u : HO) : Prop := H a = some u \/ ∃ o, H a = some (.frz o u)
theorem Rd.ok {P : Program} {w : World} {H : Hp} {h : Heap} {a : Addr} {u : HO} (r : Rd H a u) (x : HOk P w H h) : ZeN P w H h a u := by
 rcases r with r | ⟨o, r⟩
 ·exact x a u r
 ·obtain ⟨_, q⟩ := x a _ r
  exact q
noncomputable def Mut : Option HO -> Prop
 | some (.lst _) => True
 | some (.dK _) => True
 | some (.dT _) => True
 | some (.set _ _) => True
 | some (.ins _ _ _) => True
 | some (.ext _) => True
 | _ => False
section
variable {P : Program} {w : World} {H : Hp} {h h' : Heap} {x e : Addr} {o' : HO}
theorem HOk.write (ok : HOk P w H h) (mu : Mut (H x)) (he : e = x \/ H e = some (.own x)) (k : ∀ b u, b ≠ e -> h.get? b = some u -> h'.get? b = some u) (heo : ∃ u, h'.get? e = some u)
  (new : ZeN P w (upd H x o') h' x o') : HOk P w (upd H x o') h' := fun b u q => by
 have nown : ∀ c y, H c = some (.own y) -> c ≠ x := fun c y r z => by subst z; rw [r] at mu; exact mu
 have ntup : ∀ c xs, H c = some (.tup xs) -> c ≠ x := fun c xs r z => by subst z; rw [r] at mu; exact mu
 by_cases hb : b = x
 ·subst hb; rw [ZcX] at q; cases q; exact new
 ·rw [Zc6 hb] at q
  by_cases hbe : b = e
  ·have q' : H b = some (.own x) := by
    rcases he with z | z
    ·exact absurd (hbe.trans z) hb
    ·rw [hbe]; exact z
   rw [q] at q'; cases q'
   obtain ⟨v, hv⟩ := heo
   exact ⟨v, by rw [hbe]; exact hv⟩
  ·refine (ok b u q).stay (fun c v hc r => k c v ?_ r) (fun c r => by rw [Zc6 (nown c b r)]; exact r) fun c xs r => by rw [Zc6 (ntup c xs r)]; exact r
   rcases hc with rfl | hc
   ·exact hbe
   ·rintro rfl
    rcases he with z | z
    ·exact nown c b hc z
    ·rw [hc] at z; cases z; exact hb rfl
end
structure Un (fs ex : List Addr) (H H' : Hp) (h h' : Heap) : Prop where
 keep : ∀ b o, h.get? b = some o -> H b = none -> b ∉ fs -> b ∉ ex -> h'.get? b = some o
 slot : ∀ b o, h.get? b = some o -> H b = none -> b ∈ fs -> b ∉ ex -> ∃ sl, h'.get? b = some { o with slots := sl }
 free : ∀ b o, h.get? b = some o -> H b = none -> b ∉ ex -> H' b = none
 there : ∀ b o, h.get? b = some o -> b ∉ ex -> ∃ o', h'.get? b = some o'
 tups : ∀ b xs, H b = some (.tup xs) -> H' b = some (.tup xs)
 frzs : ∀ b o u, H b = some (.frz o u) -> H' b = some (.frz o u)
 tbls : ∀ b ps, H b = some (.tbl ps) -> ∃ more, H' b = some (.tbl (ps ++ more))
section
variable {fs fs' ex ex' : List Addr} {H H1 H2 : Hp} {h h1 h2 h' : Heap} {a x e : Addr} {o : HO}
theorem Un.any (u : Un fs ex H H1 h h1) {b : Addr} {ob : Obj} (q : h.get? b = some ob) (n : H b = none) (hx : b ∉ ex) : ∃ sl, h1.get? b = some { ob with slots := sl } := by
 by_cases hb : b ∈ fs
 ·exact u.slot b ob q n hb hx
 ·exact ⟨ob.slots, u.keep b ob q n hb hx⟩
theorem Un.trans (a : Un fs ex H H1 h h1) (b : Un fs ex H1 H2 h1 h2) : Un fs ex H H2 h h2 where
 keep := fun c ob q n hc hx => b.keep c ob (a.keep c ob q n hc hx) (a.free c ob q n hx) hc hx
 slot := fun c ob q n hc hx => by
  obtain ⟨sl, e1⟩ := a.slot c ob q n hc hx
  obtain ⟨sl', e2⟩ := b.slot c _ e1 (a.free c ob q n hx) hc hx
  exact ⟨sl', e2⟩
 free := fun c ob q n hx => by
  obtain ⟨o', e1⟩ := a.there c ob q hx
  exact b.free c o' e1 (a.free c ob q n hx) hx
 there := fun c ob q hx => by
  obtain ⟨o', e1⟩ := a.there c ob q hx
  exact b.there c o' e1 hx
 tups := fun c xs q => b.tups c xs (a.tups c xs q)
 frzs := fun c ob xs q => b.frzs c ob xs (a.frzs c ob xs q)
 tbls := fun c ps q => by
  obtain ⟨m1, e1⟩ := a.tbls c ps q
  obtain ⟨m2, e2⟩ := b.tbls c _ e1
  exact ⟨m1 ++ m2, by rw [e2, Array.append_assoc]⟩
theorem Un.kept (k : ∀ b u, h.get? b = some u -> h'.get? b = some u) : Un fs ex H H h h' :=
 ⟨fun b ob q _ _ _ => k b ob q, fun b ob q _ _ _ => ⟨ob.slots, k b ob q⟩, fun _ _ _ n _ => n, fun b ob q _ => ⟨ob, k b ob q⟩, fun _ _ q => q, fun _ _ _ q => q, fun _ ps q => ⟨#[], by rw [q]; simp⟩⟩
theorem Un.refl : Un fs ex H H h h := Un.kept fun _ _ q => q
theorem Un.laid (k : ∀ b u, h.get? b = some u -> h'.get? b = some u) (hp : h.objs.size <= a) (hn : H a = none) : Un fs ex H (upd H a o) h h' where
 keep := fun b u q _ _ _ => k b u q
 slot := fun b u q _ _ _ => ⟨u.slots, k b u q⟩
 free := fun b u q n _ => by rw [Zc6 (Zbz (Zbx (ZcN q) hp))]; exact n
 there := fun b u q _ => ⟨u, k b u q⟩
 tups := fun b xs q => by rw [Zc6 (Zc9 q hn)]; exact q
 frzs := fun b u xs q => by rw [Zc6 (Zc9 q hn)]; exact q
 tbls := fun b ps q => ⟨#[], by rw [Zc6 (Zc9 q hn), q]; simp⟩
theorem Un.write (mu : Mut (H x)) (he : e = x \/ H e = some (.own x)) (k : ∀ b u, b ≠ e -> h.get? b = some u -> h'.get? b = some u) (heo : ∃ u, h'.get? e = some u) : Un fs ex H (upd H x o) h h' := by
 have hx : ∀ b, H b = none -> b ≠ x := fun b n z => by subst z; rw [n] at mu; exact mu
 have hb : ∀ b, H b = none -> b ≠ e := fun b n z => by
  subst z
  rcases he with r | r
  ·exact hx b n r
  ·rw [n] at r; cases r
 have hm : ∀ b u, H b = some u -> ¬ Mut (some u) -> b ≠ x := fun b u q nm z => by subst z; rw [q] at mu; exact nm mu
 refine ⟨fun b u q n _ _ => k b u (hb b n) q, fun b u q n _ _ => ⟨u.slots, k b u (hb b n) q⟩, fun b u q n _ => by rw [Zc6 (hx b n)]; exact n, fun b u q _ => ?_,
  fun b xs q => by rw [Zc6 (hm b _ q fun z => z)]; exact q, fun b u xs q => by rw [Zc6 (hm b _ q fun z => z)]; exact q, fun b ps q => ⟨#[], by rw [Zc6 (hm b _ q fun z => z), q]; simp⟩⟩
 by_cases hbe : b = e
 ·subst hbe; exact heo
 ·exact ⟨u, k b u hbe q⟩
end
noncomputable def trk (h : Heap) (H : Hp) : List Addr := (Zaa h.objs.size).filter fun a => (H a).isSome
noncomputable def Zm3 (h : Heap) (H : Hp) : Heap := PySem.W.hideAll h (trk h H)
theorem ZlR (h : Heap) (H : Hp) : (Zm3 h H).objs.size = h.objs.size := PySem.W.hideAll_size _ _
theorem Zm4 {h : Heap} {H : Hp} {b : Addr} {o : Obj} (e : h.get? b = some o) (n : H b = none) : (Zm3 h H).get? b = some o :=
 PySem.W.hideAll_get _ e fun hm => by
  have q : (H b).isSome = true := (Zab.mp hm).2
  rw [n] at q; simp at q
theorem Zn5 {h : Heap} {H : Hp} {b : Addr} {o : Obj} (e : (Zm3 h H).get? b = some o) : h.get? b = some o /\ H b = none := by
 have e' : h.get? b = some o := PySem.W.of_hideAll (trk h H) e
 refine ⟨e', ?_⟩
 cases q : H b with
 | none => rfl
 | some x =>
  have hm : b ∈ trk h H := Zab.mpr ⟨Zac.mpr (ZcN e'), by simp [q]⟩
  have z : (Zm3 h H).get? b = none := PySem.W.hideAll_none (trk h H) hm
  rw [z] at e; cases e
end L2.Internal
namespace L2.Internal
open PySem PySem.Spec PyProof.Rows
structure Mod (K : PySem.W.Frag) (mg : Str -> Option Value) (base : Heap) : Prop where
 kin : K.In base
 glob : base.Ns mainGlobals mg
 blt : ∃ mb, base.Ns builtinsNs mb /\ ∀ x : Str, x ≠ "__name__" -> mb x = bootBuiltins x
 nolimit : base.NoLimit
structure Cx where
 prog : Program
 w : World
 K : PySem.W.Frag
 mg : Str -> Option Value
 base : Heap
 A : Around
 N : List Str
 s₀ : Shared
 H₀ : Hp
 env : Env
 outer : List Env
 stack : List Env
 ex : List Addr
 fn : Str -> Bool
 calm : Bool
 pn : List (Addr × Obj)
 xe : Value -> Shared -> Prop
noncomputable def frs (l : List Env) : List Addr := l.filterMap (·.frame)
noncomputable abbrev Cx.fs (X : Cx) : List Addr := frs X.outer
def Vis (sc : Scope) (x : Str) : Prop := sc.names.lookup x = some .local \/ sc.names.lookup x = some .cell \/ sc.names.lookup x = some .free
def Loc (sc : Scope) (x : Str) : Prop := sc.names.lookup x = some .local \/ sc.names.lookup x = some .cell
def Look (env : Env) (h : Heap) (m : Str -> Option Value) (x : Str) (u : Value) : Prop :=
 (env.kindOf x = some .local /\ m x = some u) \/ ((env.kindOf x = some .cell \/ env.kindOf x = some .free) /\ ∃ c, env.cells.lookup x = some c /\ h.IsCell c (some u))
structure Cx.Ok (X : Cx) : Prop where
 mod : Mod X.K X.mg X.base
 kind : X.env.scope.kind = .function
 glob : X.env.globals = mainGlobals
 blt : X.env.builtins = builtinsNs
 above : X.s₀.heap.objs.size <= X.env.locals
 inj : ∀ x y c, X.env.cells.lookup x = some c -> X.env.cells.lookup y = some c -> x = y
 has : ∀ x, (X.env.kindOf x = some .cell \/ X.env.kindOf x = some .free) -> ∃ c, X.env.cells.lookup x = some c
 cab : ∀ x c, X.fn x = true -> X.env.cells.lookup x = some c -> X.s₀.heap.objs.size <= c
 hd : X.calm = true -> X.A.handled = none
 frames : X.A.frames = some X.stack
 stk : X.stack = X.outer \/ (X.stack = X.env :: X.outer /\ X.env.frame = some X.env.locals)
 exf : ∀ b ∈ X.ex, b ≠ X.env.locals /\ ∀ x c, X.env.cells.lookup x = some c -> c ≠ b
 bs : ∀ b o, X.base.get? b = some o -> X.s₀.heap.get? b = some o /\ X.H₀ b = none
 bsz : X.base.objs.size <= X.s₀.heap.objs.size
 noex : ∀ b o, X.base.get? b = some o -> b ∉ X.ex
 exfs : ∀ b ∈ X.ex, b ∉ X.fs
 funs : X.s₀.heap.FunFrames X.base X.outer
 frf : ∀ b ∈ X.fs, X.H₀ b = none
structure Inv (X : Cx) (pins : List (Addr × Obj)) (σ : List (Option V)) (H : Hp) (s : Shared) : Prop where
 ok : X.Ok
 os : s.os = X.s₀.os
 bare : AllBare s.gens
 base : Un X.fs X.ex X.H₀ H X.s₀.heap s.heap
 loc : ∃ m, s.heap.Ns X.env.locals m /\ ∀ (i : Nat) (x : Str) (v : V), X.N[i]? = some x -> σ[i]? = some (some v) -> Vis X.env.scope x -> ∃ u, ZdU v u /\ Look X.env s.heap m x u
 cell : ∀ x c, X.env.cells.lookup x = some c -> ∃ v, s.heap.IsCell c v
 free : H X.env.locals = none
 freeC : ∀ x c, X.env.cells.lookup x = some c -> H c = none
 pin : ∀ p ∈ X.pn ++ pins, s.heap.get? p.1 = some p.2 /\ H p.1 = none /\ p.1 ≠ X.env.locals /\ p.1 ∉ X.fs /\ ∀ v, p.2.data ≠ .cell v
 hok : HOk X.prog X.w H s.heap
 len : σ.length = X.N.length
section
variable {X : Cx} {pins : List (Addr × Obj)} {σ : List (Option V)} {H H' : Hp} {s : Shared} {h' : Heap}
theorem Cx.Ok.nofr (ok : X.Ok) {b : Addr} {o : Obj} (e : X.base.get? b = some o) : b ∉ X.fs := fun hb => by
 have := (ok.funs.mem hb).1
 rw [e] at this; cases this
theorem Inv.bs (I : Inv X pins σ H s) : ∀ b o, X.base.get? b = some o -> s.heap.get? b = some o /\ H b = none := fun b o e =>
 ⟨I.base.keep b o (I.ok.bs b o e).1 (I.ok.bs b o e).2 (I.ok.nofr e) (I.ok.noex b o e), I.base.free b o (I.ok.bs b o e).1 (I.ok.bs b o e).2 (I.ok.noex b o e)⟩
theorem Inv.bk (I : Inv X pins σ H s) : ∀ b o, X.base.get? b = some o -> s.heap.get? b = some o := fun b o e => (I.bs b o e).1
theorem Inv.mod (I : Inv X pins σ H s) : Mod X.K X.mg X.base := I.ok.mod
theorem Inv.kIn (I : Inv X pins σ H s) : X.K.In s.heap := I.ok.mod.kin.keeps I.bk
theorem Inv.lt (I : Inv X pins σ H s) : X.env.locals < s.heap.objs.size := let ⟨_, hn, _⟩ := I.loc; hn.lt
theorem Inv.sz (I : Inv X pins σ H s) : X.s₀.heap.objs.size <= s.heap.objs.size := ZbA I.ok.above (ZbB I.lt)
theorem Inv.nofs (I : Inv X pins σ H s) {a : Addr} (h : s.heap.objs.size <= a) : a ∉ X.fs := fun hb => by
 obtain ⟨_, o, ho, _⟩ := I.ok.funs.mem hb
 exact absurd (Zbx (ZcN ho) (ZbA I.sz h)) (Zby _)
theorem Inv.cne (I : Inv X pins σ H s) : ∀ x c, X.env.cells.lookup x = some c -> c ≠ X.env.locals := fun x c e z => by
 obtain ⟨v, o, ho, hd⟩ := I.cell x c e
 obtain ⟨m, ⟨o', es, ep, ho', hd', _⟩, _⟩ := I.loc
 rw [z, ho'] at ho; cases ho; rw [hd'] at hd; cases hd
theorem Inv.funs (I : Inv X pins σ H s) : s.heap.FunFrames X.base X.outer := by
 have all : ∀ (l : List Env), (∀ b ∈ frs l, b ∈ X.fs) -> X.s₀.heap.FunFrames X.base l -> s.heap.FunFrames X.base l := by
  intro l
  induction l with
  | nil => intro _ _; trivial
  | cons env r ih =>
   intro hs hl
   obtain ⟨hk, ⟨L, o, hf, hn, ho, hd⟩, hr⟩ := hl
   have hL : L ∈ X.fs := hs L (by unfold frs; rw [Zad, hf]; exact Zae)
   obtain ⟨sl, e⟩ := I.base.slot L o ho (I.ok.frf L hL) hL fun z => I.ok.exfs L z hL
   exact ⟨hk, ⟨L, _, hf, hn, e, hd⟩, ih (fun b hb => hs b (by unfold frs; rw [Zad, hf]; exact Zaf _ hb)) hr⟩
 exact all X.outer (fun _ hb => hb) I.ok.funs
theorem Inv.stack (I : Inv X pins σ H s) : s.heap.FunFrames X.base X.stack := by
 rcases I.ok.stk with e | ⟨e, hf⟩
 ·rw [e]; exact I.funs
 ·rw [e]
  obtain ⟨m, hn, _⟩ := I.loc
  refine .cons (by rw [I.ok.kind]; decide) hf hn ?_ I.funs
  exact Heap.get?_none_of_le (ZbA I.ok.bsz I.ok.above)
theorem Inv.stkSub (I : Inv X pins σ H s) : ∀ b ∈ frs X.stack, b ∈ X.env.locals :: X.fs := fun b hb => by
 rcases I.ok.stk with e | ⟨e, hf⟩
 ·rw [e] at hb; exact Zaf _ hb
 ·rw [e] at hb
  unfold frs at hb
  rw [Zad, hf] at hb
  exact hb
theorem Inv.stkFree (I : Inv X pins σ H s) : ∀ b ∈ frs X.stack, H b = none := fun b hb => by
 rcases Zag.mp (I.stkSub b hb) with e | hb
 ·rw [e]; exact I.free
 ·obtain ⟨_, o, ho, _⟩ := I.ok.funs.mem hb
  exact I.base.free b o ho (I.ok.frf b hb) fun z => I.ok.exfs b z hb
theorem Inv.step {g' : Array GenState} {t' : Nat} {d' : Drawn} {ch : List Addr} (I : Inv X pins σ H s)
  (hch : ∀ b ∈ ch, (b ∈ X.ex \/ X.s₀.heap.objs.size <= b) /\ b ≠ X.env.locals /\ (∀ x c, X.env.cells.lookup x = some c -> c ≠ b) /\ ∀ p ∈ X.pn ++ pins, p.1 ≠ b)
  (keep : ∀ b o, b ≠ X.env.locals -> b ∉ X.fs -> b ∉ ch -> s.heap.get? b = some o -> H b = none -> h'.get? b = some o)
  (slot : ∀ b o, b ≠ X.env.locals -> b ∈ X.fs -> b ∉ ch -> s.heap.get? b = some o -> H b = none -> ∃ sl, h'.get? b = some { o with slots := sl }) (free : ∀ b o, b ∉ ch -> s.heap.get? b = some o -> H b = none -> H' b = none)
  (there : ∀ b o, b ∉ ch -> s.heap.get? b = some o -> ∃ o', h'.get? b = some o')
  (tups : ∀ b xs, H b = some (.tup xs) -> H' b = some (.tup xs)) (frzs : ∀ b o u, H b = some (.frz o u) -> H' b = some (.frz o u)) (tbls : ∀ b ps, H b = some (.tbl ps) -> ∃ more, H' b = some (.tbl (ps ++ more)))
  (ns : ∀ m, s.heap.Ns X.env.locals m -> h'.Ns X.env.locals m) (hok : HOk X.prog X.w H' h') (hg : AllBare g') :
  Inv X pins σ H' { s with heap := h', gens := g', drawn := d', toks := t' } := by
 have neL : ∀ b o, X.s₀.heap.get? b = some o -> b ≠ X.env.locals := fun b o e => Zbz (Zbx (ZcN e) I.ok.above)
 have neC : ∀ b o, X.s₀.heap.get? b = some o -> b ∉ X.ex -> b ∉ ch := fun b o e hx hb => by
  rcases (hch b hb).1 with z | z
  ·exact hx z
  ·exact absurd (Zbx (ZcN e) z) (Zby _)
 have cellK : ∀ x c, X.env.cells.lookup x = some c -> ∀ v, s.heap.IsCell c v -> h'.IsCell c v := fun x c e v ⟨o, ho, hd⟩ => by
  have nch : c ∉ ch := fun z => (hch c z).2.2.1 x c e rfl
  by_cases hc : c ∈ X.fs
  ·obtain ⟨sl, q⟩ := slot c o (I.cne x c e) hc nch ho (I.freeC x c e)
   exact ⟨_, q, hd⟩
  ·exact ⟨o, keep c o (I.cne x c e) hc nch ho (I.freeC x c e), hd⟩
 refine ⟨I.ok, I.os, hg, ⟨fun b o e n hb hx => ?_, fun b o e n hb hx => ?_, fun b o e n hx => ?_, fun b o e hx => ?_, fun b xs e => tups b xs (I.base.tups b xs e), fun b o xs e => frzs b o xs (I.base.frzs b o xs e), fun b ps e => ?_⟩, ?_, fun x c e => ?_, ?_, fun x c e => ?_, fun p hp => ?_, hok, I.len⟩
 ·exact keep b o (neL b o e) hb (neC b o e hx) (I.base.keep b o e n hb hx) (I.base.free b o e n hx)
 ·obtain ⟨sl, e1⟩ := I.base.slot b o e n hb hx
  obtain ⟨sl', e2⟩ := slot b _ (neL b o e) hb (neC b o e hx) e1 (I.base.free b o e n hx)
  exact ⟨sl', e2⟩
 ·obtain ⟨o', e1⟩ := I.base.there b o e hx
  exact free b o' (neC b o e hx) e1 (I.base.free b o e n hx)
 ·obtain ⟨o', e1⟩ := I.base.there b o e hx
  exact there b o' (neC b o e hx) e1
 ·obtain ⟨m1, e1⟩ := I.base.tbls b ps e
  obtain ⟨m2, e2⟩ := tbls b _ e1
  exact ⟨m1 ++ m2, by rw [e2, Array.append_assoc]⟩
 ·obtain ⟨m, hn, hl⟩ := I.loc
  refine ⟨m, ns m hn, fun i x v e1 e2 e3 => ?_⟩
  obtain ⟨u, r, l⟩ := hl i x v e1 e2 e3
  refine ⟨u, r, ?_⟩
  rcases l with l | ⟨k, c, e, z⟩
  ·exact .inl l
  ·exact .inr ⟨k, c, e, cellK x c e _ z⟩
 ·obtain ⟨v, z⟩ := I.cell x c e
  exact ⟨v, cellK x c e v z⟩
 ·obtain ⟨m, ⟨o, _, _, ho, _⟩, _⟩ := I.loc
  exact free _ o (fun z => (hch _ z).2.1 rfl) ho I.free
 ·obtain ⟨v, o, ho, hd⟩ := I.cell x c e
  exact free c o (fun z => (hch c z).2.2.1 x c e rfl) ho (I.freeC x c e)
 ·obtain ⟨e, n, ne, nf, d⟩ := I.pin p hp
  have nch : p.1 ∉ ch := fun z => (hch p.1 z).2.2.2 p hp rfl
  exact ⟨keep p.1 p.2 ne nf nch e n, free p.1 p.2 nch e n, ne, nf, d⟩
theorem Inv.un {t' : Nat} (I : Inv X pins σ H s) (u : Un X.fs [] H H' s.heap h') (hok : HOk X.prog X.w H' h') : Inv X pins σ H' { s with heap := h', toks := t' } := by
 obtain ⟨m, ⟨o, es, ep, ho, r⟩, _⟩ := id I.loc
 obtain ⟨sl, hL⟩ := u.any ho I.free (by simp)
 exact I.step (g' := s.gens) (d' := s.drawn) (ch := []) (fun _ z => nomatch z) (fun b o _ hb _ e n => u.keep b o e n hb (by simp)) (fun b o _ hb _ e n => u.slot b o e n hb (by simp)) (fun b o _ e n => u.free b o e n (by simp)) (fun b o _ e => u.there b o e (by simp)) u.tups u.frzs u.tbls (fun m' hm => by
  obtain ⟨o', es', ep', ho', r'⟩ := hm
  rw [ho] at ho'; cases ho'
  exact ⟨_, es', ep', hL, r'⟩) hok I.bare
theorem Inv.call {g' : Array GenState} {t' : Nat} {d' : Drawn} {ch : List Addr} (I : Inv X pins σ H s) (u : Un (frs X.stack) ch H H' s.heap h') (hok : HOk X.prog X.w H' h') (hg : AllBare g')
  (hch : ∀ b ∈ ch, (b ∈ X.ex \/ X.s₀.heap.objs.size <= b) /\ b ≠ X.env.locals /\ (∀ x c, X.env.cells.lookup x = some c -> c ≠ b) /\ ∀ p ∈ X.pn ++ pins, p.1 ≠ b) :
  Inv X pins σ H' { s with heap := h', gens := g', drawn := d', toks := t' } := by
 obtain ⟨m, ⟨o, es, ep, ho, r⟩, _⟩ := id I.loc
 obtain ⟨sl, hL⟩ := u.any ho I.free fun z => (hch _ z).2.1 rfl
 exact I.step (ch := ch) hch (fun b o hL hb hc e n => u.keep b o e n (fun z => (Zag.mp (I.stkSub b z)).elim hL hb) hc) (fun b o _ _ hc e n => u.any e n hc) (fun b o hc e n => u.free b o e n hc) (fun b o hc e => u.there b o e hc) u.tups u.frzs u.tbls (fun m' hm => by
  obtain ⟨o', es', ep', ho', r'⟩ := hm
  rw [ho] at ho'; cases ho'
  exact ⟨_, es', ep', hL, r'⟩) hok hg
theorem Inv.turned {t' : Nat} {it : Addr} (I : Inv X pins σ H s) (k : ∀ b o, b ≠ it -> s.heap.get? b = some o -> h'.get? b = some o) (hn : H it = none) (hL : it ≠ X.env.locals)
  (h1 : it ∈ X.ex \/ X.s₀.heap.objs.size <= it) (h2 : ∀ x c, X.env.cells.lookup x = some c -> c ≠ it) (h3 : ∀ p ∈ X.pn ++ pins, p.1 ≠ it) : Inv X pins σ H { s with heap := h', toks := t' } := by
 have nit : ∀ b u, H b = some u -> b ≠ it := fun b u e z => by rw [z, hn] at e; cases e
 refine I.step (g' := s.gens) (d' := s.drawn) (ch := [it]) (fun b hb => ?_) (fun b o _ _ hc e _ => k b o (fun z => hc (by simp [z])) e) (fun b o _ _ hc e _ => ⟨o.slots, k b o (fun z => hc (by simp [z])) e⟩) (fun _ _ _ _ n => n)
  (fun b o hc e => ⟨o, k b o (fun z => hc (by simp [z])) e⟩) (fun _ _ e => e) (fun _ _ _ e => e) (fun b ps e => ⟨#[], by rw [e]; simp⟩) (fun m hm => ?_) (fun b u e => ?_) I.bare
 ·have e : b = it := by simpa using hb
  subst e
  exact ⟨h1, hL, h2, h3⟩
 ·obtain ⟨o, es, ep, ho, r⟩ := hm
  exact ⟨o, es, ep, k _ o (Ne.symm hL) ho, r⟩
 ·refine (I.hok b u e).stay (fun c v hc q => k c v ?_ q) (fun _ q => q) fun _ _ q => q
  rcases hc with z | z
  ·rw [z]; exact nit b u e
  ·exact nit c _ z
theorem Inv.tok (I : Inv X pins σ H s) (t : Nat) : Inv X pins σ H { s with toks := t } := I.un (h' := s.heap) (t' := t) Un.refl I.hok
theorem Inv.kept {t' : Nat} (I : Inv X pins σ H s) (k : ∀ b u, s.heap.get? b = some u -> h'.get? b = some u) : Inv X pins σ H { s with heap := h', toks := t' } := I.un (Un.kept k) (I.hok.kept k)
theorem Inv.laid {a : Addr} {o : HO} {t' : Nat} (I : Inv X pins σ H s) (k : ∀ b u, s.heap.get? b = some u -> h'.get? b = some u) (hp : s.heap.objs.size <= a) (new : ZeN X.prog X.w (upd H a o) h' a o) :
  Inv X pins σ (upd H a o) { s with heap := h', toks := t' } := I.un (Un.laid k hp (I.hok.fresh hp)) (I.hok.laid k hp new)
theorem Inv.write {x e : Addr} {o : HO} {t' : Nat} (I : Inv X pins σ H s) (mu : Mut (H x)) (he : e = x \/ H e = some (.own x)) (k : ∀ b u, b ≠ e -> s.heap.get? b = some u -> h'.get? b = some u) (heo : ∃ u, h'.get? e = some u)
  (new : ZeN X.prog X.w (upd H x o) h' x o) : Inv X pins σ (upd H x o) { s with heap := h', toks := t' } := I.un (Un.write mu he k heo) (I.hok.write mu he k heo new)
theorem Inv.pins_of {pins' : List (Addr × Obj)} (I : Inv X pins σ H s) (h : ∀ p ∈ pins', s.heap.get? p.1 = some p.2 /\ H p.1 = none /\ p.1 ≠ X.env.locals /\ p.1 ∉ X.fs /\ ∀ v, p.2.data ≠ .cell v) : Inv X pins' σ H s :=
 ⟨I.ok, I.os, I.bare, I.base, I.loc, I.cell, I.free, I.freeC, fun p hp => (Zah.mp hp).elim (fun z => I.pin p (Zai _ z)) (h p), I.hok, I.len⟩
theorem ZkH {N : List Str} (hN : N.Nodup) {i j : Nat} {x : Str} (a : N[i]? = some x) (b : N[j]? = some x) : i = j := by
 obtain ⟨h1, e1⟩ := Zaj.mp a
 obtain ⟨h2, e2⟩ := Zaj.mp b
 exact (List.getElem_inj hN).mp (e1.trans e2.symm)
theorem ZlS {M : Model} {A : Around} {E : Value -> Shared -> Prop} {i : Nat} {x : Str} {v : V} {u : Value} {Q : Unit -> Shared -> Prop} (I : Inv X pins σ H s) (hN : X.N.Nodup) (hi : X.N[i]? = some x) (hx : Loc X.env.scope x) (r : ZdU v u)
  (h : ∀ s', Inv X pins (σ.set i (some v)) H s' -> (∃ a, Heap.SameBut a s.heap s'.heap /\ (a = X.env.locals \/ X.env.cells.lookup x = some a)) -> Q () s') (hf : autoParam (X.fn x = true \/ X.env.scope.names.lookup x = some .local) L2.Internal.auL._auto_1) : wpAny M A (storeName X.env x u) Q E s := by
 obtain ⟨m, hn, hl⟩ := id I.loc
 have hcls : (X.env.scope.kind == .class || (X.env.scope.kind == .module && X.env.locals != X.env.globals)) = false := by rw [I.ok.kind]; rfl
 have hiσ : i < σ.length := by rw [I.len]; exact (Zaj.mp hi).1
 have cne := I.cne
 have tracked : ∀ {a : Addr} {h' : Heap}, (∃ o, s.heap.get? a = some o /\ H a = none) -> Heap.SameBut a s.heap h' -> HOk X.prog X.w H h' := fun {a h'} ha hs b ob e => by
  obtain ⟨_, _, hfree⟩ := ha
  refine (I.hok b ob e).stay (fun c w' hc q => (hs.2 c ?_).trans q) (fun _ q => q) fun _ _ q => q
  rintro rfl
  rcases hc with rfl | hc
  ·rw [hfree] at e; cases e
  ·rw [hfree] at hc; cases hc
 rcases hx with hk | hk
 ·refine wpAny_storeName_local hk hn (fun h' hn' hs => ?_) hcls
  obtain ⟨oL, _, _, hoL, _⟩ := id hn
  refine h _ ⟨I.ok, I.os, I.bare, ⟨fun b o e n hb hx => ?_, fun b o e n hb hx => ?_, I.base.free, fun b o e hx => ?_, I.base.tups, I.base.frzs, I.base.tbls⟩, ⟨_, hn', fun j y v' e1 e2 e3 => ?_⟩, fun y c e => ?_, I.free, I.freeC, fun p hp => ?_, tracked ⟨oL, hoL, I.free⟩ hs, by simpa using I.len⟩ ⟨_, hs, .inl rfl⟩
  ·exact (hs.2 b (Zbz (Zbx (ZcN e) I.ok.above))).trans (I.base.keep b o e n hb hx)
  ·obtain ⟨sl, e1⟩ := I.base.slot b o e n hb hx
   exact ⟨sl, (hs.2 b (Zbz (Zbx (ZcN e) I.ok.above))).trans e1⟩
  ·obtain ⟨o', e1⟩ := I.base.there b o e hx
   exact ⟨o', (hs.2 b (Zbz (Zbx (ZcN e) I.ok.above))).trans e1⟩
  ·by_cases hj : j = i
   ·subst hj
    rw [hi] at e1; cases e1
    rw [Zak hiσ] at e2
    cases e2
    exact ⟨u, r, .inl ⟨hk, by simp⟩⟩
   ·rw [Zal (Ne.symm hj)] at e2
    obtain ⟨u', r', q⟩ := hl j y v' e1 e2 e3
    refine ⟨u', r', ?_⟩
    rcases q with ⟨k, e⟩ | ⟨k, c, e, z⟩
    ·refine .inl ⟨k, ?_⟩
     have : y ≠ x := fun e => hj (ZkH hN e1 (e ▸ hi))
     simp [this, e]
    ·exact .inr ⟨k, c, e, z.sameBut hs (cne y c e)⟩
  ·obtain ⟨w', z⟩ := I.cell y c e
   exact ⟨w', z.sameBut hs (cne y c e)⟩
  ·obtain ⟨e, n, ne, nf, d⟩ := I.pin p hp
   exact ⟨(hs.2 p.1 ne).trans e, n, ne, nf, d⟩
 ·have hfn : X.fn x = true := by
   rcases hf with z | z
   ·exact z
   ·rw [z] at hk; cases hk
  obtain ⟨c, hc⟩ := I.ok.has x (.inl hk)
  obtain ⟨w', z⟩ := I.cell x c hc
  refine wpAny_storeName_cell I.ok.kind hk hc z (fun h' hc' hs => ?_)
  obtain ⟨oc, hoc, hocd⟩ := id z
  refine h { s with heap := h' } ⟨I.ok, I.os, I.bare, ⟨fun b o e n hb hx => ?_, fun b o e n hb hx => ?_, I.base.free, fun b o e hx => ?_, I.base.tups, I.base.frzs, I.base.tbls⟩, ⟨m, hn.sameBut hs (Ne.symm (cne x c hc)), fun j y v' e1 e2 e3 => ?_⟩, fun y c' e => ?_, I.free, I.freeC, fun p hp => ?_, tracked ⟨oc, hoc, I.freeC x c hc⟩ hs, by simpa using I.len⟩ ⟨c, hs, .inr hc⟩
  ·exact (hs.2 b (Zbz (Zbx (ZcN e) (I.ok.cab x c hfn hc)))).trans (I.base.keep b o e n hb hx)
  ·obtain ⟨sl, e1⟩ := I.base.slot b o e n hb hx
   exact ⟨sl, (hs.2 b (Zbz (Zbx (ZcN e) (I.ok.cab x c hfn hc)))).trans e1⟩
  ·obtain ⟨o', e1⟩ := I.base.there b o e hx
   exact ⟨o', (hs.2 b (Zbz (Zbx (ZcN e) (I.ok.cab x c hfn hc)))).trans e1⟩
  ·by_cases hj : j = i
   ·subst hj
    rw [hi] at e1; cases e1
    rw [Zak hiσ] at e2
    cases e2
    exact ⟨u, r, .inr ⟨.inl hk, c, hc, hc'⟩⟩
   ·rw [Zal (Ne.symm hj)] at e2
    obtain ⟨u', r', q⟩ := hl j y v' e1 e2 e3
    refine ⟨u', r', ?_⟩
    rcases q with q | ⟨k, c', e, z'⟩
    ·exact .inl q
    ·refine .inr ⟨k, c', e, z'.sameBut hs ?_⟩
     rintro rfl
     exact hj (ZkH hN e1 (I.ok.inj _ _ _ e hc ▸ hi))
  ·by_cases hcc : c' = c
   ·subst hcc; exact ⟨_, hc'⟩
   ·obtain ⟨w2, z2⟩ := I.cell y c' e
    exact ⟨w2, z2.sameBut hs hcc⟩
  ·obtain ⟨e, n, ne, nf, d⟩ := I.pin p hp
   refine ⟨(hs.2 p.1 ?_).trans e, n, ne, nf, d⟩
   intro q
   rw [q, hoc] at e
   have q' : oc = p.2 := ZbR.inj e
   exact d w' (by rw [<- q']; exact hocd)
theorem Zgb {M : Model} {A : Around} {E : Value -> Shared -> Prop} {i : Nat} {x : Str} {v : V} {u : Value} {Q : Unit -> Shared -> Prop} (I : Inv X pins σ H s) (hN : X.N.Nodup) (hi : X.N[i]? = some x) (hx : Loc X.env.scope x) (r : ZdU v u)
  (h : ∀ s', Inv X pins (σ.set i (some v)) H s' -> Q () s') (hf : autoParam (X.fn x = true \/ X.env.scope.names.lookup x = some .local) L2.Internal.auL._auto_1) : wpAny M A (storeName X.env x u) Q E s :=
 ZlS I hN hi hx r (fun s' I' _ => h s' I') hf
theorem Inv.call' {s' : Shared} {ch : List Addr} (I : Inv X pins σ H s) (ho : s'.os = s.os) (u : Un (frs X.stack) ch H H' s.heap s'.heap) (hok : HOk X.prog X.w H' s'.heap) (hg : AllBare s'.gens)
  (hch : ∀ b ∈ ch, (b ∈ X.ex \/ X.s₀.heap.objs.size <= b) /\ b ≠ X.env.locals /\ (∀ x c, X.env.cells.lookup x = some c -> c ≠ b) /\ ∀ p ∈ X.pn ++ pins, p.1 ≠ b) : Inv X pins σ H' s' := by
 obtain ⟨h', g', d', t', o'⟩ := s'
 have e : o' = s.os := ho
 subst e
 exact I.call (g' := g') (t' := t') (d' := d') u hok hg hch
end
noncomputable abbrev XK := Value -> Option Addr -> Hp -> Prop
noncomputable abbrev St := List (Option V)
noncomputable abbrev VK := V -> Hp -> Prop
noncomputable abbrev TE := St -> Hp -> VK -> Prop
noncomputable abbrev TT := St -> Hp -> (Bool -> Hp -> Prop) -> Prop
noncomputable abbrev TA := St -> Hp -> (List V -> Hp -> Prop) -> Prop
structure Zjm where
 nx : St -> Hp -> Prop
 rt : VK
 bk : St -> Hp -> Prop := fun _ _ => False
 ct : St -> Hp -> Prop := fun _ _ => False
noncomputable abbrev TS.Internal := Zjm -> St -> Hp -> Prop
def EP (X : Cx) (pins : List (Addr × Obj)) (σ : St) (Q : VK) (u : Value) (s' : Shared) : Prop := ∃ v H', Inv X pins σ H' s' /\ ZdU v u /\ Q v H'
def TP (X : Cx) (pins : List (Addr × Obj)) (σ : St) (Q : Bool -> Hp -> Prop) (b : Bool) (s' : Shared) : Prop := ∃ H', Inv X pins σ H' s' /\ Q b H'
def AP (X : Cx) (pins : List (Addr × Obj)) (σ : St) (Q : List V -> Hp -> Prop) (us : List Value) (s' : Shared) : Prop := ∃ vs H', Inv X pins σ H' s' /\ Zem vs us /\ Q vs H'
def SP (X : Cx) (pins : List (Addr × Obj)) (D : Zjm) (f : Flow) (s' : Shared) : Prop :=
 match f with
 | .next => ∃ σ' H', Inv X pins σ' H' s' /\ D.nx σ' H'
 | .brk => ∃ σ' H', Inv X pins σ' H' s' /\ D.bk σ' H'
 | .cont => ∃ σ' H', Inv X pins σ' H' s' /\ D.ct σ' H'
 | .ret u => ∃ v σ' H', Inv X pins σ' H' s' /\ ZdU v u /\ D.rt v H'
def PE (X : Cx) (e : Expr) (t : TE) : Prop :=
 ∀ (pins : List (Addr × Obj)) (s : Shared) (σ : St) (H : Hp) (Q : VK), Inv X pins σ H s -> t σ H Q -> wpAny (model X.prog X.w) X.A (eval e X.env) (EP X pins σ Q) X.xe s
def PT (X : Cx) (e : Expr) (t : TT) : Prop :=
 ∀ (pins : List (Addr × Obj)) (s : Shared) (σ : St) (H : Hp) (Q : Bool -> Hp -> Prop), Inv X pins σ H s -> t σ H Q -> wpAny (model X.prog X.w) X.A (isTrue e X.env (eval e X.env)) (TP X pins σ Q) X.xe s
def PW (X : Cx) (e : Expr) (t : TT) : Prop :=
 ∀ (whole : Sem Value) (pins : List (Addr × Obj)) (s : Shared) (σ : St) (H : Hp) (Q : Bool -> Hp -> Prop), Inv X pins σ H s -> t σ H Q -> wpAny (model X.prog X.w) X.A (isTrue e X.env whole) (TP X pins σ Q) X.xe s
theorem PW.pt {X : Cx} {e : Expr} {t : TT} (h : PW X e t) : PT X e t := h _
def PA (X : Cx) (es : List Expr) (t : TA) : Prop :=
 ∀ (pos : Pos) (pins : List (Addr × Obj)) (s : Shared) (σ : St) (H : Hp) (Q : List V -> Hp -> Prop), Inv X pins σ H s -> t σ H Q -> wpAny (model X.prog X.w) X.A (spliced (backTo pos (starEach es X.env))) (AP X pins σ Q) X.xe s
def PS (X : Cx) (st : Stmt) (t : TS.Internal) : Prop :=
 ∀ (pins : List (Addr × Obj)) (s : Shared) (σ : St) (H : Hp) (D : Zjm), Inv X pins σ H s -> t D σ H -> wpAny (model X.prog X.w) X.A (exec st X.env) (SP X pins D) X.xe s
def PSs (X : Cx) (st : List Stmt) (t : TS.Internal) : Prop :=
 ∀ (pins : List (Addr × Obj)) (s : Shared) (σ : St) (H : Hp) (D : Zjm), Inv X pins σ H s -> t D σ H -> wpAny (model X.prog X.w) X.A (execs st X.env) (SP X pins D) X.xe s
theorem thn {α : Type} {t : Sem α} {Q Q' : α -> Shared -> Prop} {M : Model} {A : Around} {E : Value -> Shared -> Prop} {s : Shared} (h : wpAny M A t Q E s) (hQ : ∀ a s, Q a s -> Q' a s) : wpAny M A t Q' E s := wpAny_mono h hQ fun _ _ x => x
end L2.Internal
namespace L2.Internal
open PySem PySem.Spec PyProof.Rows
section
variable {X : Cx}
def Zre (i : Nat) : TE := fun σ H Q => ∃ v, σ[i]? = some (some v) /\ Q v H
def tC (v : V) : TE := fun _ H Q => Q v H
theorem Zo7 {i : Nat} {x : Str} {pos : Pos} (hN : X.N[i]? = some x) (hv : Vis X.env.scope x) (hd : autoParam ((x == ("__debug__" : Str)) = false) L2.Internal.auD._auto_1) (hcd : autoParam ((x == ("__classdict__" : Str)) = false) L2.Internal.auD._auto_1) : PE X (.Name x pos) (Zre i) := by
 intro pins s σ H Q I h
 obtain ⟨v, e, h⟩ := h
 obtain ⟨m, hn, hl⟩ := I.loc
 obtain ⟨u, r, l⟩ := hl i x v hN e hv
 have fin : EP X pins σ Q u s := ⟨v, H, I, r, h⟩
 rcases l with ⟨hk, hm⟩ | ⟨hk, c, hc, hcell⟩
 ·exact wpAny_Name (wpAny_loadName_local I.ok.kind hk hn hm fin) hd
 ·rcases hk with hk | hk
  ·exact wpAny_Name (wpAny_loadName_cell I.ok.kind hk hc hcell fin) hd
  ·exact wpAny_Name (wpAny_loadName_free I.ok.kind hk hc hcell fin hcd) hd
theorem ZcY {i j pos} : PE X (.Constant (.int i) j pos) (tC (.int i)) := fun _ _ _ H _ I h => wpAny_Constant_int ⟨.int i, H, I.tok _, ⟨_, rfl⟩, h⟩
theorem Zfl {b j pos} : PE X (.Constant (.bool b) j pos) (tC (.bl b)) := fun _ _ _ H _ I h => Constant_bool ⟨.bl b, H, I, rfl, h⟩
theorem ZfO {j pos} : PE X (.Constant .none j pos) (tC .non) := fun _ _ _ H _ I h => Constant_none ⟨.non, H, I, rfl, h⟩
theorem Zdm {x j pos} : PE X (.Constant (.str x) j pos) (tC (.str x)) := fun _ _ _ H _ I h => Calls.Constant_str ⟨.str x, H, I.tok _, ⟨_, rfl⟩, h⟩
def Gl (X : Cx) (x : Str) : Prop := X.env.kindOf x = some .globalImplicit
theorem Ziu {E : Value -> Shared -> Prop} {pins : List (Addr × Obj)} {s : Shared} {σ : St} {H : Hp} {x : Str} {u : Value} {pos : Pos} {Q : Value -> Shared -> Prop} (I : Inv X pins σ H s) (hg : Gl X x) (hm : X.mg x = some u) (h : Q u s)
  (hd : autoParam ((x == ("__debug__" : Str)) = false) L2.Internal.auD._auto_1) : wpAny (model X.prog X.w) X.A (eval (.Name x pos) X.env) Q E s :=
 Calls.Name_function_global I.ok.kind hg (Calls.loadGlobal_global (by rw [I.ok.glob]; exact I.mod.glob.keeps I.bk) hm h) hd
theorem Zjn {E : Value -> Shared -> Prop} {pins : List (Addr × Obj)} {s : Shared} {σ : St} {H : Hp} {x : Str} {u : Value} {pos : Pos} {Q : Value -> Shared -> Prop} (I : Inv X pins σ H s) (hg : Gl X x) (hm : X.mg x = none) (hv : bootBuiltins x = some u) (h : Q u s)
  (hn : autoParam (x ≠ "__name__") L2.Internal.auD._auto_1) (hd : autoParam ((x == ("__debug__" : Str)) = false) L2.Internal.auD._auto_1) : wpAny (model X.prog X.w) X.A (eval (.Name x pos) X.env) Q E s := by
 obtain ⟨mb, h1, h2⟩ := I.mod.blt
 exact Calls.Name_function_global I.ok.kind hg (Calls.loadGlobal_builtin (by rw [I.ok.glob]; exact I.mod.glob.keeps I.bk) hm (by rw [I.ok.blt]; exact h1.keeps I.bk) ((h2 x hn).trans hv) h) hd
theorem Zn6 {x : Str} {v : V} {u : Value} {pos : Pos} (hg : Gl X x) (hm : X.mg x = some u) (r : ZdU v u) (hd : autoParam ((x == ("__debug__" : Str)) = false) L2.Internal.auD._auto_1) : PE X (.Name x pos) (tC v) :=
 fun _ _ _ H _ I h => Ziu I hg hm ⟨v, H, I, r, h⟩ hd
theorem Zn7 {x : Str} {v : V} {u : Value} {pos : Pos} (hg : Gl X x) (hm : X.mg x = none) (hv : bootBuiltins x = some u) (r : ZdU v u) (hn : autoParam (x ≠ "__name__") L2.Internal.auD._auto_1) (hd : autoParam ((x == ("__debug__" : Str)) = false) L2.Internal.auD._auto_1) : PE X (.Name x pos) (tC v) :=
 fun _ _ _ H _ I h => Zjn I hg hm hv ⟨v, H, I, r, h⟩ hn hd
variable {a b : Expr} {ta tb : TE} {pos : Pos}
def PC (X : Cx) (op : CmpOp) (a b : Expr) (t : TE) : Prop :=
 ∀ (pins : List (Addr × Obj)) (s : Shared) (σ : St) (H : Hp) (Q : VK), Inv X pins σ H s -> t σ H Q ->
  wpAny (model X.prog X.w) X.A (eval a X.env) (fun v s₁ => wpAny (model X.prog X.w) X.A (eval b X.env) (fun u s₂ => wpAny (model X.prog X.w) X.A (compareOp op v u) (EP X pins σ Q) X.xe s₂) X.xe s₁) X.xe s
theorem ZkI (b : Expr) {op : CmpOp} (h : op ≠ .In) (h2 : op ≠ .NotIn) : behindInMarks op b = false := by
 have e1 : (op == CmpOp.In) = false := by cases op <;> first | rfl | exact absurd rfl h
 have e2 : (op == CmpOp.NotIn) = false := by cases op <;> first | rfl | exact absurd rfl h2
 cases b <;> simp [behindInMarks, e1, e2]
def tIsN (ta : TE) : TE := fun σ H Q => ta σ H fun x H1 => Q (.bl (decide (x = .non))) H1
def Zqr (ta : TE) : TE := fun σ H Q => ta σ H fun x H1 => Q (.bl (!decide (x = .non))) H1
theorem ZdU.none_iff {x : V} {v : Value} (r : ZdU x v) : (v == Value.none) = decide (x = .non) := by
 cases x with
 | non => cases r; rfl
 | bl _ => cases r; rfl
 | int _ => obtain ⟨t, rfl⟩ := r; rfl
 | str _ => obtain ⟨t, rfl⟩ := r; rfl
 | byt _ => obtain ⟨t, rfl⟩ := r; rfl
 | flt _ => obtain ⟨t, rfl⟩ := r; rfl
 | ref _ => cases r; rfl
 | ty _ => cases r; rfl
theorem ZkJ {j pos'} (ha : PE X a ta) : PC X .Is a (.Constant .none j pos') (tIsN ta) := by
 intro pins s σ H Q I h
 refine thn (ha pins s σ H _ I h) fun v s1 ⟨x, H1, I1, r1, q1⟩ => ?_
 exact Constant_none (is_none_gen ⟨.bl _, H1, I1, by rw [r1.none_iff]; rfl, q1⟩)
theorem Ziv {j pos'} (ha : PE X a ta) : PC X .IsNot a (.Constant .none j pos') (Zqr ta) := by
 intro pins s σ H Q I h
 refine thn (ha pins s σ H _ I h) fun v s1 ⟨x, H1, I1, r1, q1⟩ => ?_
 exact Constant_none (isnot_none_gen ⟨.bl _, H1, I1, by rw [r1.none_iff]; rfl, q1⟩)
def tB (t : TE) : TT := fun σ H Q => t σ H fun x H1 => ∃ c, x = .bl c /\ Q c H1
theorem ZlT {op : CmpOp} {t : TE} (h : PC X op a b t) (h1 : behindInMarks op b = false := by first | exact ZkI _ (by decide) (by decide) | rfl) : PE X (.Compare a [op] [b] pos) t := fun pins s σ H Q I hw => wpAny_Compare1 (h pins s σ H Q I hw) h1
theorem ZfP {op : CmpOp} {t : TE} (h : PC X op a b t) (h1 : behindInMarks op b = false := by first | exact ZkI _ (by decide) (by decide) | rfl) : PT X (.Compare a [op] [b] pos) (tB t) := by
 intro pins s σ H Q I hw
 refine wpAny_isTrue_Compare1 (thn (h pins s σ H _ I hw) fun v s1 h1 => thn h1 fun u s2 h2 => thn h2 fun c s3 ⟨x, H1, I1, r1, q1⟩ => ?_) h1
 obtain ⟨d, rfl, q⟩ := q1
 cases r1
 exact wpAny_truthy_bool ⟨H1, I1, q⟩
theorem ZfB {e : Expr} {t : TE} (h : PE X e t) (he : autoParam (∀ whole, isTrue e X.env whole = (do let v <- whole; standAt e.pos; holding [v] (truthy v))) L2.Internal.auI._auto_1) : PT X e (tB t) := by
 intro pins s σ H Q I hw
 refine isTrue_plain (thn (h pins s σ H _ I hw) fun v s1 ⟨x, H1, I1, r1, q1⟩ => ?_) (he _)
 obtain ⟨d, rfl, q⟩ := q1
 cases r1
 exact wpAny_truthy_bool ⟨H1, I1, q⟩
variable {tA tB' : TT} {rest : List Expr}
def Zrf (t u : TT) : TT := fun σ H Q => t σ H fun c H1 => if c = true then u σ H1 Q else Q false H1
def tOr (t u : TT) : TT := fun σ H Q => t σ H fun c H1 => if c = true then Q true H1 else u σ H1 Q
def tNot (t : TT) : TT := fun σ H Q => t σ H fun c H1 => Q (!c) H1
theorem Zfs (ha : PT X a tA) : PW X (.BoolOp .And [a] pos) tA := by
 intro wh pins s σ H Q I h
 refine isTrue_and (thn (ha pins s σ H Q I h) fun c s1 e => ?_)
 cases c with
 | true => exact isTrue_and_nil e
 | false => exact e
theorem Zg8 (ha : PT X a tA) : PW X (.BoolOp .Or [a] pos) tA := by
 intro wh pins s σ H Q I h
 refine isTrue_or (thn (ha pins s σ H Q I h) fun c s1 e => ?_)
 cases c with
 | false => exact isTrue_or_nil e
 | true => exact e
theorem ZfV (ha : PT X a tA) (hb : PW X (.BoolOp .And (b :: rest) pos) tB') : PW X (.BoolOp .And (a :: b :: rest) pos) (Zrf tA tB') := by
 intro wh pins s σ H Q I h
 refine isTrue_and (thn (ha pins s σ H _ I h) fun c s1 ⟨H1, I1, q1⟩ => ?_)
 cases c with
 | true => exact hb wh pins s1 σ H1 Q I1 q1
 | false => exact ⟨H1, I1, q1⟩
theorem Zhr (ha : PT X a tA) (hb : PW X (.BoolOp .Or (b :: rest) pos) tB') : PW X (.BoolOp .Or (a :: b :: rest) pos) (tOr tA tB') := by
 intro wh pins s σ H Q I h
 refine isTrue_or (thn (ha pins s σ H _ I h) fun c s1 ⟨H1, I1, q1⟩ => ?_)
 cases c with
 | true => exact ⟨H1, I1, q1⟩
 | false => exact hb wh pins s1 σ H1 Q I1 q1
theorem Zff (ha : PT X a tA) : PT X (.UnaryOp .Not a pos) (tNot tA) := by
 intro pins s σ H Q I h
 exact isTrue_not (ha pins s σ H (fun c H1 => Q (!c) H1) I h)
def Zqs (ta tb : TE) : TE := fun σ H Q => ta σ H fun x H1 => ∃ c, x = .bl c /\ if c = true then tb σ H1 Q else Q (.bl false) H1
def Zqt (ta : TE) : TE := fun σ H Q => ta σ H fun x H1 => ∃ c, x = .bl c /\ Q (.bl (!c)) H1
theorem Zii {op} {t : TE} (h : PE X a t) : PE X (.BoolOp op [a] pos) t := fun pins s σ H Q I hw => BoolOp_one (h pins s σ H Q I hw)
theorem Zgh (ha : PE X a ta) (hb : PE X (.BoolOp .And (b :: rest) pos) tb) : PE X (.BoolOp .And (a :: b :: rest) pos) (Zqs ta tb) := by
 intro pins s σ H Q I h
 refine BoolOp_and (thn (ha pins s σ H _ I h) fun v s1 ⟨x, H1, I1, r1, q1⟩ => ?_)
 obtain ⟨c, rfl, q1⟩ := q1
 cases r1
 refine wpAny_truthy_bool ?_
 cases c with
 | true => exact hb pins s1 σ H1 Q I1 q1
 | false => exact ⟨.bl false, H1, I1, rfl, q1⟩
theorem Zo8 (ha : PE X a ta) : PE X (.UnaryOp .Not a pos) (Zqt ta) := by
 intro pins s σ H Q I h
 refine UnaryOp_ (thn (ha pins s σ H _ I h) fun v s1 ⟨x, H1, I1, r1, q1⟩ => ?_)
 obtain ⟨c, rfl, q1⟩ := q1
 cases r1
 exact not_of (wpAny_truthy_bool ⟨.bl (!c), H1, I1, rfl, q1⟩)
end
end L2.Internal
namespace L2.Internal
open PySem PySem.Spec PyProof.Rows
def SqL (K : PySem.W.Frag) (H : Hp) (a : Addr) (xs : List V) : Prop :=
 Rd H a (.lst xs) \/
  ∃ (o : Obj) (its : Array Value) (n : Nat), K.lookup a = some o /\ o.cls = .type "list" /\ o.dict = none /\ o.data = .seq its n /\ its.size <= sizeLine /\ Zem xs its.toList
def SqT (K : PySem.W.Frag) (H : Hp) (a : Addr) (xs : List V) : Prop :=
 Rd H a (.tup xs) \/
  ∃ (o : Obj) (its : Array Value) (n : Nat), K.lookup a = some o /\ o.cls = .type "tuple" /\ o.data = .seq its n /\ its.size <= sizeLine /\ Zem xs its.toList
noncomputable def absV : Value -> Option V
 | .none => some .non
 | .bool b => some (.bl b)
 | .int i _ => some (.int i)
 | .str x _ => some (.str x)
 | .bytes b _ => some (.byt b)
 | .float b _ => some (.flt b)
 | .ref a => some (.ref a)
 | .type n => some (.ty n)
 | _ => none
theorem ZdU.abs {x : V} {u : Value} (r : ZdU x u) : absV u = some x := by
 cases x with
 | non => cases r; rfl
 | bl _ => cases r; rfl
 | int _ => obtain ⟨t, rfl⟩ := r; rfl
 | str _ => obtain ⟨t, rfl⟩ := r; rfl
 | byt _ => obtain ⟨t, rfl⟩ := r; rfl
 | flt _ => obtain ⟨t, rfl⟩ := r; rfl
 | ref _ => cases r; rfl
 | ty _ => cases r; rfl
theorem ZdU.inj {x y : V} {u : Value} (r : ZdU x u) (q : ZdU y u) : x = y := ZbR.inj (r.abs.symm.trans q.abs)
theorem Zem.inj : ∀ {xs ys : List V} {us : List Value}, Zem xs us -> Zem ys us -> xs = ys
 | _, _, _, .nil, .nil => rfl
 | _, _, _, .cons r t, .cons r' t' => by rw [r.inj r', Zem.inj t t']
section
variable {X : Cx} {pins : List (Addr × Obj)} {σ : St} {H : Hp} {s : Shared} {a : Addr} {xs ys : List V}
theorem SqL.of {K : PySem.W.Frag} (h : H a = some (.lst xs)) : SqL K H a xs := .inl (.inl h)
theorem SqT.of {K : PySem.W.Frag} (h : H a = some (.tup xs)) : SqT K H a xs := .inl (.inl h)
theorem Inv.list (I : Inv X pins σ H s) (h : SqL X.K H a xs) : ∃ its : List Value, Zem xs its /\ PlainL s.heap a its.toArray /\ xs.length <= sizeLine := by
 rcases h with h | ⟨o, its, n, hk, hc, hd, hs, hz, r⟩
 ·obtain ⟨z, its, n, r, e⟩ := h.ok I.hok
  exact ⟨its, r, ⟨_, n, e, rfl, rfl, rfl⟩, z⟩
 ·refine ⟨its.toList, r, ⟨o, n, I.kIn a o hk, hc, hd, by simpa using hs⟩, ?_⟩
  have e := r.length
  simp only [ZcB] at e
  omega
theorem Inv.tuple (I : Inv X pins σ H s) (h : SqT X.K H a xs) : ∃ its : List Value, Zem xs its /\ IsTup s.heap a its.toArray /\ xs.length <= sizeLine := by
 rcases h with h | ⟨o, its, n, hk, hc, hs, hz, r⟩
 ·obtain ⟨z, its, r, p⟩ := h.ok I.hok
  exact ⟨its, r, p.tup, z⟩
 ·refine ⟨its.toList, r, ⟨o, I.kIn a o hk, hc, n, by simpa using hs⟩, ?_⟩
  have e := r.length
  simp only [ZcB] at e
  omega
theorem Inv.list_inj (I : Inv X pins σ H s) (h : SqL X.K H a xs) (h' : SqL X.K H a ys) : xs = ys := by
 obtain ⟨its, r, ⟨o, n, e, _, _, d⟩, _⟩ := I.list h
 obtain ⟨its', r', ⟨o', n', e', _, _, d'⟩, _⟩ := I.list h'
 rw [e] at e'; cases e'
 rw [d] at d'
 injection d' with d1 _
 have : its = its' := by simpa using congrArg Array.toList d1
 subst this
 exact r.inj r'
theorem Inv.tuple_inj (I : Inv X pins σ H s) (h : SqT X.K H a xs) (h' : SqT X.K H a ys) : xs = ys := by
 obtain ⟨its, r, ⟨o, e, _, n, d⟩, _⟩ := I.tuple h
 obtain ⟨its', r', ⟨o', e', _, n', d'⟩, _⟩ := I.tuple h'
 rw [e] at e'; cases e'
 rw [d] at d'
 injection d' with d1 _
 have : its = its' := by simpa using congrArg Array.toList d1
 subst this
 exact r.inj r'
end
noncomputable abbrev Cx.wish (X : Cx) (E : Value -> Shared -> Prop) : Cx := { X with xe := E }
noncomputable abbrev Cx.nox (X : Cx) : Cx := X.wish fun _ _ => False
theorem Cx.Ok.wish {X : Cx} (ok : X.Ok) (E : Value -> Shared -> Prop) : (X.wish E).Ok :=
 ⟨ok.mod, ok.kind, ok.glob, ok.blt, ok.above, ok.inj, ok.has, ok.cab, ok.hd, ok.frames, ok.stk, ok.exf, ok.bs, ok.bsz, ok.noex, ok.exfs, ok.funs, ok.frf⟩
theorem Cx.Ok.unwish {X : Cx} {E : Value -> Shared -> Prop} (ok : (X.wish E).Ok) : X.Ok :=
 ⟨ok.mod, ok.kind, ok.glob, ok.blt, ok.above, ok.inj, ok.has, ok.cab, ok.hd, ok.frames, ok.stk, ok.exf, ok.bs, ok.bsz, ok.noex, ok.exfs, ok.funs, ok.frf⟩
section
variable {X : Cx} {pins : List (Addr × Obj)} {σ : St} {H : Hp} {s : Shared} {E : Value -> Shared -> Prop}
theorem Inv.wish (I : Inv X pins σ H s) (E : Value -> Shared -> Prop) : Inv (X.wish E) pins σ H s := ⟨I.ok.wish E, I.os, I.bare, I.base, I.loc, I.cell, I.free, I.freeC, I.pin, I.hok, I.len⟩
theorem Inv.unwish (I : Inv (X.wish E) pins σ H s) : Inv X pins σ H s := ⟨I.ok.unwish, I.os, I.bare, I.base, I.loc, I.cell, I.free, I.freeC, I.pin, I.hok, I.len⟩
theorem SP.unwish {D : Zjm} {f : Flow} {s' : Shared} (h : SP (X.wish E) pins D f s') : SP X pins D f s' := by
 cases f with
 | next => obtain ⟨σ', H', I, q⟩ := h; exact ⟨σ', H', I.unwish, q⟩
 | brk => obtain ⟨σ', H', I, q⟩ := h; exact ⟨σ', H', I.unwish, q⟩
 | cont => obtain ⟨σ', H', I, q⟩ := h; exact ⟨σ', H', I.unwish, q⟩
 | ret u => obtain ⟨v, σ', H', I, r, q⟩ := h; exact ⟨v, σ', H', I.unwish, r, q⟩
theorem PSs.nox {st : List Stmt} {t : TS.Internal} (h : PSs X.nox st t) : PSs X st t := fun pins s σ H D I hw =>
 wpAny_mono (h pins s σ H D (I.wish _) hw) (fun _ _ q => q.unwish) fun _ _ z => False.elim z
end
section
variable {X : Cx} {st : Stmt} {rest : List Stmt} {t u : TS.Internal} {e : Expr} {te : TE} {pos : Pos}
noncomputable def Ze1 : TS.Internal := fun D σ H => D.nx σ H
noncomputable def Ziw (t u : TS.Internal) : TS.Internal := fun D σ H => t { D with nx := u D } σ H
theorem Zdc : PSs X [] Ze1 := fun _ _ σ H _ I h => wpAny_execs_nil ⟨σ, H, I, h⟩
theorem Zc0 (h1 : PS X st t) (h2 : PSs X rest u) : PSs X (st :: rest) (Ziw t u) := by
 intro pins s σ H D I h
 refine wpAny_execs_cons (thn (h1 pins s σ H { D with nx := u D } I h) fun f s1 q => ?_)
 cases f with
 | next =>
  obtain ⟨σ', H', I', q⟩ := q
  exact h2 pins s1 σ' H' D I' q
 | ret v => exact q
 | brk => exact q
 | cont => exact q
theorem Zc4 (h1 : PS X st t) : PSs X [st] t := by
 intro pins s σ H D I h
 refine wpAny_execs_cons (thn (h1 pins s σ H D I h) fun f s1 q => ?_)
 cases f with
 | next => exact wpAny_execs_nil q
 | ret v => exact q
 | brk => exact q
 | cont => exact q
theorem Inv.quiet {pins : List (Addr × Obj)} {σ : St} {H : Hp} {s : Shared} (I : Inv X pins σ H s) : interactive X.env = false := by simp [interactive, I.ok.kind]
noncomputable def Zqu (te : TE) : TS.Internal := fun D σ H => te σ H fun _ H1 => D.nx σ H1
theorem Zdr (he : PE X e te) (hs : autoParam (swapsWith e none pos.line X.env = pure false) L2.Internal.auR._auto_1) : PS X (.Expr e pos) (Zqu te) := by
 intro pins s σ H D I h
 exact wpAny_Expr_any (thn (he pins s σ H _ I h) fun v s1 ⟨x, H1, I1, r1, q1⟩ => ⟨σ, H1, I1, q1⟩) I.quiet hs
noncomputable def Zrg (te : TE) : TS.Internal := fun D σ H => te σ H D.rt
theorem Zdd (he : PE X e te) : PS X (.Return (some e) pos) (Zrg te) := by
 intro pins s σ H D I h
 exact wpAny_Return_some (thn (he pins s σ H _ I h) fun v s1 ⟨x, H1, I1, r1, q1⟩ => ⟨x, σ, H1, I1, r1, q1⟩)
noncomputable def Zj6 (c : TT) (t u : TS.Internal) : TS.Internal := fun D σ H => c σ H fun b H1 => if b = true then t D σ H1 else u D σ H1
theorem Zdz {c : Expr} {a b : List Stmt} {tc : TT} (hc : PT X c tc) (ha : PSs X a t) (hb : PSs X b u) : PS X (.If c a b pos) (Zj6 tc t u) := by
 intro pins s σ H D I h
 refine wpAny_If (thn (hc pins s σ H _ I h) fun d s1 ⟨H1, I1, q1⟩ => ?_)
 cases d with
 | true => exact ha pins s1 σ H1 D I1 q1
 | false => exact hb pins s1 σ H1 D I1 q1
end
noncomputable abbrev TG := V -> St -> Hp -> (St -> Hp -> Prop) -> Prop
noncomputable abbrev TGs := List V -> St -> Hp -> (St -> Hp -> Prop) -> Prop
def PG (X : Cx) (target : Expr) (t : TG) : Prop :=
 ∀ (pins : List (Addr × Obj)) (s : Shared) (σ : St) (H : Hp) (v : V) (u : Value) (Q : St -> Hp -> Prop), Inv X pins σ H s -> ZdU v u -> t v σ H Q ->
  wpAny (model X.prog X.w) X.A (assign target X.env u) (fun _ s' => ∃ σ' H', Inv X pins σ' H' s' /\ Q σ' H') X.xe s
def PGs (X : Cx) (ts : List Expr) (t : TGs) : Prop :=
 ∀ (pins : List (Addr × Obj)) (s : Shared) (σ : St) (H : Hp) (vs : List V) (us : List Value) (Q : St -> Hp -> Prop), Inv X pins σ H s -> Zem vs us -> t vs σ H Q ->
  wpAny (model X.prog X.w) X.A (assignInOrder ((assignEach ts X.env).map (·.2)) us) (fun _ s' => ∃ σ' H', Inv X pins σ' H' s' /\ Q σ' H') X.xe s
noncomputable abbrev Zqv := V -> V -> V -> Hp -> (Hp -> Prop) -> Prop
def Zrh (X : Cx) (t : Zqv) : Prop :=
 ∀ (pins : List (Addr × Obj)) (s : Shared) (σ : St) (H : Hp) (o i v : V) (ov iv u : Value) (Q : Hp -> Prop), Inv X pins σ H s -> ZdU o ov -> ZdU i iv -> ZdU v u -> t o i v H Q ->
  wpAny (model X.prog X.w) X.A (setItem ov iv u) (fun _ s' => ∃ H', Inv X pins σ H' s' /\ Q H') X.xe s
noncomputable abbrev TIp := V -> V -> Hp -> VK -> Prop
def PIp (X : Cx) (op : Operator) (t : TIp) : Prop :=
 ∀ (pins : List (Addr × Obj)) (s : Shared) (σ : St) (H : Hp) (x y : V) (v u : Value) (Q : VK), Inv X pins σ H s -> ZdU x v -> ZdU y u -> t x y H Q ->
  wpAny (model X.prog X.w) X.A (inplaceOp op v u) (EP X pins σ Q) X.xe s
section
variable {X : Cx} {pos : Pos}
def Zeq (i : Nat) : TG := fun v σ H Q => Q (σ.set i (some v)) H
theorem ZdG {i : Nat} {x : Str} (hN : X.N.Nodup) (hi : X.N[i]? = some x) (hx : Loc X.env.scope x) (hf : autoParam (X.fn x = true \/ X.env.scope.names.lookup x = some .local) L2.Internal.auL._auto_1) : PG X (.Name x pos) (Zeq i) := by
 intro pins s σ H v u Q I r h
 exact wpAny_assign_Name (Zgb I hN hi hx r (fun s' I' => ⟨_, H, I', h⟩) hf)
def gNil : TGs := fun vs σ H Q => vs = [] /\ Q σ H
def Zqw (t : TG) (u : TGs) : TGs := fun vs σ H Q => ∃ v r, vs = v :: r /\ t v σ H fun σ' H' => u r σ' H' Q
theorem Zhs : PGs X [] gNil := by
 intro pins s σ H vs us Q I r h
 obtain ⟨e, h⟩ := h
 subst e
 cases r
 exact assignInOrder_nil ⟨σ, H, I, h⟩
theorem Ze9 {e : Expr} {es : List Expr} {t : TG} {u : TGs} (h1 : PG X e t) (h2 : PGs X es u)
  (hs : autoParam ((assignEach (e :: es) X.env).map (·.2) = assign e X.env :: (assignEach es X.env).map (·.2)) L2.Internal.auR._auto_1) : PGs X (e :: es) (Zqw t u) := by
 intro pins s σ H vs us Q I r h
 obtain ⟨v, vr, e1, h⟩ := h
 subst e1
 cases r with
 | cons r rr =>
  rw [hs]
  refine assignInOrder_cons (thn (h1 pins s σ H _ _ _ I r h) fun _ s1 ⟨σ1, H1, I1, q1⟩ => ?_)
  exact h2 pins s1 σ1 H1 _ _ Q I1 rr q1
def gTup (K : PySem.W.Frag) (n : Nat) (t : TGs) : TG := fun v σ H Q => ∃ a xs, v = .ref a /\ SqT K H a xs /\ xs.length = n /\ t xs σ H Q
theorem Zjo {es : List Expr} {k : Nat} {t : TGs} {n : Nat} (hc : X.calm = true) (h : PGs X es t)
  (hn : autoParam ((assignEach es X.env).length = n) L2.Internal.auR._auto_1) (hst : autoParam ((assignEach es X.env).findIdx? (·.1) = none) L2.Internal.auR._auto_1) : PG X (.Tuple es k pos) (gTup X.K n t) := by
 intro pins s σ H v u Q I r hw
 obtain ⟨a, xs, e1, hq, hl, hw⟩ := hw
 subst e1
 cases r
 obtain ⟨its, rv, ht, hz⟩ := I.tuple hq
 refine assign_Tuple_tuple (I.ok.hd hc) ht (by simp [hn, <- hl, rv.length]) hst fun h' hx => ?_
 have I1 : Inv X pins σ H { s with heap := h' } := I.kept (t' := s.toks) fun b o e => hx b o (Zbz (ZcN e)) e
 exact h pins _ σ H xs _ Q I1 (by simpa using rv) hw
def gSub (to ti : TE) (t : Zqv) : TG := fun v σ H Q => to σ H fun o H1 => ti σ H1 fun i H2 => t o i v H2 fun H3 => Q σ H3
theorem Zo9 {o i : Expr} {to ti : TE} {t : Zqv} (ho : PE X o to) (hi : PE X i ti) (hs : Zrh X t)
  (ha : ∀ v, assign (.Subscript o i pos) X.env v = (do
   let ov <- holding [v] (eval o X.env)
   let iv <- holding [v, ov] (eval i X.env)
   standAt pos
   holding [v, ov, iv] (setItem ov iv v)
   release [v, ov, iv] []) := by intro _; rfl) : PG X (.Subscript o i pos) (gSub to ti t) := by
 intro pins s σ H v u Q I r h
 rw [ha]
 refine wpAny_bind (wpAny_holding (thn (ho pins s σ H _ I h) fun ov s1 ⟨x, H1, I1, r1, q1⟩ => ?_))
 refine wpAny_bind (wpAny_holding (thn (hi pins s1 σ H1 _ I1 q1) fun iv s2 ⟨y, H2, I2, r2, q2⟩ => ?_))
 refine wpAny_bind (wpAny_standAt (wpAny_bind (wpAny_holding (thn (hs pins s2 σ H2 x y v ov iv u _ I2 r1 r2 r q2) fun _ s3 ⟨H3, I3, q3⟩ => ?_))))
 exact wpAny_release ⟨σ, H3, I3, q3⟩
noncomputable def Zqj (te : TE) (g : TG) : TS.Internal := fun D σ H => te σ H fun x H1 => g x σ H1 D.nx
theorem Zpa {tg e : Expr} {te : TE} {g : TG} (he : PE X e te) (hg : PG X tg g) (hs : autoParam (swapsWithSole [tg] e pos.line X.env = pure false) L2.Internal.auR._auto_1) (hw : autoParam (swappedStores [tg] e X.env = pure none) L2.Internal.auR._auto_1)
  (h1 : autoParam ((assignEach [tg] X.env).map (·.2) = [assign tg X.env]) L2.Internal.auR._auto_1) : PS X (.Assign [tg] e pos) (Zqj te g) := by
 intro pins s σ H D I h
 refine wpAny_Assign_stores (thn (he pins s σ H _ I h) fun v s1 ⟨x, H1, I1, r1, q1⟩ => ?_) hs hw
 rw [h1]
 exact thn (hg pins s1 σ H1 x v _ I1 r1 q1) fun _ s2 q => q
theorem Zdn {i : Nat} {x : Str} {e : Expr} {te : TE} {pos' : Pos} (hN : X.N.Nodup) (hi : X.N[i]? = some x) (hx : Loc X.env.scope x) (he : PE X e te) (hs : autoParam (swapsWith e (some (.Name x pos')) pos.line X.env = pure false) L2.Internal.auR._auto_1) (hf : autoParam (X.fn x = true \/ X.env.scope.names.lookup x = some .local) L2.Internal.auL._auto_1) :
  PS X (.Assign [.Name x pos'] e pos) (Zqj te (Zeq i)) := by
 intro pins s σ H D I h
 refine wpAny_Assign_Name (thn (he pins s σ H _ I h) fun v s1 ⟨y, H1, I1, r1, q1⟩ => ?_) hs
 exact Zgb I1 hN hi hx r1 (fun s2 I2 => ⟨_, H1, I2, q1⟩) hf
noncomputable def tAug (i : Nat) (te : TE) (ti : TIp) : TS.Internal := fun D σ H => ∃ x, σ[i]? = some (some x) /\ te σ H fun y H1 => ti x y H1 fun z H2 => D.nx (σ.set i (some z)) H2
theorem Zpb {i : Nat} {x : Str} {e : Expr} {te : TE} {op : Operator} {ti : TIp} {pos' : Pos} (hN : X.N.Nodup) (hi : X.N[i]? = some x) (hx : Loc X.env.scope x) (he : PE X e te) (ho : PIp X op ti) (hf : autoParam (X.fn x = true \/ X.env.scope.names.lookup x = some .local) L2.Internal.auL._auto_1) :
  PS X (.AugAssign (.Name x pos') op e pos) (tAug i te ti) := by
 intro pins s σ H D I h
 obtain ⟨v, e1, h⟩ := h
 obtain ⟨m, hn, hl⟩ := I.loc
 have vis : Vis X.env.scope x := by rcases hx with k | k; exact .inl k; exact .inr (.inl k)
 obtain ⟨u, r, l⟩ := hl i x v hi e1 vis
 refine wpAny_AugAssign_Name ?_
 have go : wpAny (model X.prog X.w) X.A (eval e X.env) (fun w s₂ => wpAny (model X.prog X.w) X.A (inplaceOp op u w) (fun r s₃ => wpAny (model X.prog X.w) X.A (storeName X.env x r) (fun _ => SP X pins D .next) X.xe s₃) X.xe s₂) X.xe s := by
  refine thn (he pins s σ H _ I h) fun w s1 ⟨y, H1, I1, r1, q1⟩ => ?_
  refine thn (ho pins s1 σ H1 v y u w _ I1 r r1 q1) fun z s2 ⟨zv, H2, I2, r2, q2⟩ => ?_
  exact Zgb I2 hN hi hx r2 (fun s3 I3 => ⟨_, H2, I3, q2⟩) hf
 rcases l with ⟨hk, hm⟩ | ⟨hk, c, hc, hcell⟩
 ·exact wpAny_loadName_local I.ok.kind hk hn hm go
 ·rcases hk with hk | hk
  ·exact wpAny_loadName_cell I.ok.kind hk hc hcell go
  ·rcases hx with k | k
   ·have : X.env.scope.names.lookup x = some .free := hk
    rw [k] at this; cases this
   ·have : X.env.scope.names.lookup x = some .free := hk
    rw [k] at this; cases this
noncomputable def ipI (f : Int -> Int -> Int) : TIp := fun x y H Q => ∃ i j, x = .int i /\ y = .int j /\ Q (.int (f i j)) H
theorem Zpc : PIp X .Add (ipI fun i j => i + j) := by
 intro pins s σ H x y v u Q I r1 r2 h
 obtain ⟨i, j, e1, e2, q⟩ := h
 subst e1; subst e2
 obtain ⟨t, rfl⟩ := r1
 obtain ⟨t', rfl⟩ := r2
 exact iadd_int ⟨.int _, H, I.tok _, ⟨_, rfl⟩, q⟩
end
section
variable {X : Cx} {pos : Pos}
noncomputable def Zpd (c : TT) (tb : TS.Internal) : TS.Internal := fun D σ H => ∃ W : Nat -> St -> Hp -> Prop, (∃ m, W m σ H) /\ ∀ m σ H, W m σ H ->
 c σ H fun b H1 => if b = true then ∃ N : St -> Hp -> Prop, (∀ σ' H', N σ' H' -> ∃ m', m' < m /\ W m' σ' H') /\ tb { D with nx := N, ct := N, bk := D.nx } σ H1 else D.nx σ H1
theorem ZkK {c : Expr} {body : List Stmt} {tc : TT} {tb : TS.Internal} (hp : PassesOwn (model X.prog X.w) X.A X.env X.xe) (hc : PT X c tc) (hb : PSs X body tb) : PS X (.While c body [] pos) (Zpd tc tb) := by
 intro pins s σ H D I h
 obtain ⟨W, ⟨m0, w0⟩, turn⟩ := h
 refine wpAny_While (codeAny_whileLoop (fun n s' => ∃ σ' H', Inv X pins σ' H' s' /\ W n σ' H') ?_ m0 ⟨σ, H, I, w0⟩)
 rintro n s1 ⟨σ1, H1, I1, w1⟩
 refine wpAny_passesOwn hp (thn (hc pins s1 σ1 H1 _ I1 (turn n σ1 H1 w1)) fun b s2 ⟨H2, I2, q2⟩ => ?_)
 cases b with
 | true =>
  obtain ⟨N, hN, q2⟩ := q2
  rw [if_pos rfl]
  refine wpAny_passesOwn hp (thn (hb pins s2 σ1 H2 _ I2 q2) fun f s3 q3 => ?_)
  cases f with
  | next =>
   obtain ⟨σ3, H3, I3, n3⟩ := q3
   obtain ⟨m', hm, w3⟩ := hN σ3 H3 n3
   exact ⟨m', hm, σ3, H3, I3, w3⟩
  | cont =>
   obtain ⟨σ3, H3, I3, n3⟩ := q3
   obtain ⟨m', hm, w3⟩ := hN σ3 H3 n3
   exact ⟨m', hm, σ3, H3, I3, w3⟩
  | brk => exact q3
  | ret v => exact q3
 | false =>
  rw [if_neg Zcy]
  exact wpAny_execs_nil ⟨σ1, H2, I2, q2⟩
end
structure It where
 go : Nat -> Hp -> Prop
 yld : Nat -> Hp -> V -> Hp -> Prop
 stop : Nat -> Hp -> Prop
def ZkL (X : Cx) (pins : List (Addr × Obj)) (H : Hp) (b : Addr) : Prop :=
 H b = none /\ b ≠ X.env.locals /\ b ∉ X.fs /\ (b ∈ X.ex \/ X.s₀.heap.objs.size <= b) /\ (∀ x c, X.env.cells.lookup x = some c -> c ≠ b) /\ ∀ p ∈ X.pn ++ pins, p.1 ≠ b
theorem Inv.fpOk {X : Cx} {pins : List (Addr × Obj)} {σ : St} {H H' : Hp} {s : Shared} {b : Addr} (I : Inv X pins σ H s) (hb : s.heap.objs.size <= b) (hn : H' b = none) : ZkL X pins H' b := by
 refine ⟨hn, ZbC (Zbx I.lt hb), I.nofs hb, .inr (ZbA I.sz hb), fun x c e z => ?_, fun p hp z => ?_⟩
 ·obtain ⟨v, q⟩ := I.cell x c e
  exact absurd (Zbx q.lt (by rw [z]; exact hb)) (Zby _)
 ·exact absurd (Zbx (ZcN (I.pin p hp).1) (by rw [z]; exact hb)) (Zby _)
structure ZoZ (P : Program) (w : World) (K : PySem.W.Frag) (tg : Expr) (J : It) (fp : List Addr) (it : Addr) (tn : Nat -> Heap -> Prop) : Prop where
 mem : it ∈ fp
 obj : ∀ i h, tn i h -> ∀ b ∈ fp, ∃ o, h.get? b = some o /\ ∀ v, o.data ≠ .cell v
 keep : ∀ i h h', tn i h -> (∀ b ∈ fp, ∀ o, h.get? b = some o -> h'.get? b = some o) -> tn i h'
 item : ∀ (X : Cx), X.prog = P -> X.w = w -> X.K = K -> X.calm = true -> ∀ (i : Nat) (pins : List (Addr × Obj)) (s : Shared) (σ : St) (H : Hp) (E : Value -> Shared -> Prop), Inv X pins σ H s -> (∀ b ∈ fp, ZkL X pins H b) -> tn i s.heap -> J.go i H ->
  wpAny (model P w) X.A (pyNext (.ref it)) (fun r s1 => ∃ u, r = some u /\
   wpAny (model P w) X.A (letOwnedTupleGo tg (.ref it) u) (fun _ s2 => ∃ x H', Inv X pins σ H' s2 /\ ZdU x u /\ J.yld i H x H' /\ tn (i + 1) s2.heap /\ ∀ b ∈ fp, H' b = none) E s1) E s
 done : ∀ (X : Cx), X.prog = P -> X.w = w -> X.K = K -> X.calm = true -> ∀ (i : Nat) (pins : List (Addr × Obj)) (s : Shared) (σ : St) (H : Hp) (E : Value -> Shared -> Prop), Inv X pins σ H s -> (∀ b ∈ fp, ZkL X pins H b) -> tn i s.heap -> J.stop i H ->
  wpAny (model P w) X.A (pyNext (.ref it)) (fun r s1 => r = none /\ Inv X pins σ H s1) E s
 self : ∀ (A : Around) (i : Nat) (s : Shared) (Q : Value -> Shared -> Prop) (E : Value -> Shared -> Prop), tn i s.heap -> Q (.ref it) s -> wpAny (model P w) A (pyIter (.ref it)) Q E s
noncomputable abbrev TI := St -> Hp -> (It -> Hp -> Prop) -> Prop
def PIE (X : Cx) (pins : List (Addr × Obj)) (σ : St) (tg : Expr) (R : It -> Hp -> Prop) (itv : Value) (s2 : Shared) : Prop :=
 ∃ (it : Addr) (fp : List Addr) (tn : Nat -> Heap -> Prop) (J : It) (H' : Hp), itv = .ref it /\ Inv X pins σ H' s2 /\ ZoZ X.prog X.w X.K tg J fp it tn /\ tn 0 s2.heap /\ (∀ b ∈ fp, ZkL X pins H' b) /\ R J H'
def PI (X : Cx) (tg iter : Expr) (wi : TI) : Prop :=
 ∀ (pins : List (Addr × Obj)) (s : Shared) (σ : St) (H : Hp) (R : It -> Hp -> Prop), Inv X pins σ H s -> wi σ H R ->
  wpAny (model X.prog X.w) X.A (eval iter X.env) (fun v s1 => wpAny (model X.prog X.w) X.A (pyIter v) (PIE X pins σ tg R) X.xe s1) X.xe s
theorem Zm5 {M : Model} {A : Around} {E : Value -> Shared -> Prop} {s : Shared} {tg : Expr} {it : Addr} {u : Value} {o : Obj} {n : String} {vs : Array Value} {Q : Unit -> Shared -> Prop} (ho : s.heap.get? it = some o) (hc : o.cls = .type n) (hd : o.data = .fields vs)
  (hn : ["enumerate", "zip", "dict_itemiterator", "dict_reverseitemiterator", "odict_iterator", "itertools.zip_longest", "itertools.pairwise"].contains n = false) (hQ : Q () s) : wpAny M A (letOwnedTupleGo tg (.ref it) u) Q E s := by
 unfold letOwnedTupleGo
 cases tg <;> first
  | exact wpAny_pure hQ
  | (cases u <;> first
    | exact wpAny_pure hQ
    | (refine wpAny_bind (wpAny_load ho ?_)
       rw [hc, hd]
       show wpAny M A (if (["enumerate", "zip", "dict_itemiterator", "dict_reverseitemiterator", "odict_iterator", "itertools.zip_longest", "itertools.pairwise"].contains n && vs[0]? == some (rawInt _)) = true then _ else _) Q E s
       rw [if_neg (by intro h; rw [hn, Bool.false_and] at h; cases h)]
       exact wpAny_pure hQ))
noncomputable def Itl (K : PySem.W.Frag) (a : Addr) : It :=
 ⟨fun i H => ∃ xs x, SqL K H a xs /\ xs[i]? = some x, fun i H x H' => H' = H /\ ∀ xs, SqL K H a xs -> xs[i]? = some x, fun i H => ∃ xs, SqL K H a xs /\ xs.length <= i⟩
noncomputable def Itt (K : PySem.W.Frag) (a : Addr) : It :=
 ⟨fun i H => ∃ xs x, SqT K H a xs /\ xs[i]? = some x, fun i H x H' => H' = H /\ ∀ xs, SqT K H a xs -> xs[i]? = some x, fun i H => ∃ xs, SqT K H a xs /\ xs.length <= i⟩
noncomputable def Itr (lo : Int) (n : Nat) : It := ⟨fun i _ => i < n, fun i H x H' => H' = H /\ x = .int (lo + i), fun i _ => n <= i⟩
theorem ZlU {P : Program} {w : World} {K : PySem.W.Frag} {tg : Expr} (a it : Addr) : ZoZ P w K tg (Itl K a) [it] it (fun i h => h.IsListIter it a i) where
 mem := by simp
 obj := fun i h st b hb => by
  have e : b = it := by simpa using hb
  subst e
  obtain ⟨o, e, c, d⟩ := st
  exact ⟨o, e, fun v z => by rw [d] at z; cases z⟩
 keep := fun i h h' st k => st.at fun o e => k it (by simp) o e
 item := by
  intro X hP hw hK hc i pins s σ H E I hf st hg
  subst hP hw hK
  obtain ⟨xs, x, hq, hx⟩ := hg
  obtain ⟨its, rv, p, hz⟩ := I.list hq
  obtain ⟨u, hu, ru⟩ := rv.get hx
  obtain ⟨f0, f1, f2, f3, f4, f5⟩ := hf it (by simp)
  refine wpAny_pyNext_list_item st p.isList (x := u) (by simpa using hu) fun h' st' sb => ?_
  have I1 : Inv X pins σ H { s with heap := h' } := I.turned (t' := s.toks) (fun b o hb e => (sb.2 b hb).trans e) f0 f1 f3 f4 f5
  obtain ⟨o, e, c, d⟩ := id st'
  exact ⟨u, rfl, Zm5 (s := { s with heap := h' }) e c d (by decide) ⟨x, H, I1, ru, ⟨rfl, fun ys hy => by rw [I.list_inj hy hq]; exact hx⟩, st', fun b hb => (hf b hb).1⟩⟩
 done := by
  intro X hP hw hK hc i pins s σ H E I hf st hg
  subst hP hw hK
  obtain ⟨xs, hq, hx⟩ := hg
  obtain ⟨its, rv, p, hz⟩ := I.list hq
  obtain ⟨f0, f1, f2, f3, f4, f5⟩ := hf it (by simp)
  have hl := rv.length
  exact wpAny_pyNext_list_end (I.ok.hd hc) st p.isList (by simp; omega) fun h' eb => ⟨rfl, I.turned (t' := s.toks) (fun b o hb e => eb b o hb e) f0 f1 f3 f4 f5⟩
 self := fun _ _ _ _ _ st h => wpAny_pyIter_listiter st h
theorem Zlk {P : Program} {w : World} {K : PySem.W.Frag} {tg : Expr} (a it : Addr) : ZoZ P w K tg (Itt K a) [it] it (fun i h => h.IsTupleIter it a i) where
 mem := by simp
 obj := fun i h st b hb => by
  have e : b = it := by simpa using hb
  subst e
  obtain ⟨o, e, c, d⟩ := st
  exact ⟨o, e, fun v z => by rw [d] at z; cases z⟩
 keep := fun i h h' st k => st.at fun o e => k it (by simp) o e
 item := by
  intro X hP hw hK hc i pins s σ H E I hf st hg
  subst hP hw hK
  obtain ⟨xs, x, hq, hx⟩ := hg
  obtain ⟨its, rv, p, hz⟩ := I.tuple hq
  obtain ⟨u, hu, ru⟩ := rv.get hx
  obtain ⟨f0, f1, f2, f3, f4, f5⟩ := hf it (by simp)
  refine wpAny_pyNext_tuple_item st (show s.heap.IsTuple a its.toArray from p) (x := u) (by simpa using hu) fun h' st' sb => ?_
  have I1 : Inv X pins σ H { s with heap := h' } := I.turned (t' := s.toks) (fun b o hb e => (sb.2 b hb).trans e) f0 f1 f3 f4 f5
  obtain ⟨o, e, c, d⟩ := id st'
  exact ⟨u, rfl, Zm5 (s := { s with heap := h' }) e c d (by decide) ⟨x, H, I1, ru, ⟨rfl, fun ys hy => by rw [I.tuple_inj hy hq]; exact hx⟩, st', fun b hb => (hf b hb).1⟩⟩
 done := by
  intro X hP hw hK hc i pins s σ H E I hf st hg
  subst hP hw hK
  obtain ⟨xs, hq, hx⟩ := hg
  obtain ⟨its, rv, p, hz⟩ := I.tuple hq
  obtain ⟨f0, f1, f2, f3, f4, f5⟩ := hf it (by simp)
  have hl := rv.length
  exact wpAny_pyNext_tuple_end (I.ok.hd hc) st (show s.heap.IsTuple a its.toArray from p) (by simp; omega) fun h' eb => ⟨rfl, I.turned (t' := s.toks) (fun b o hb e => eb b o hb e) f0 f1 f3 f4 f5⟩
 self := fun _ _ _ _ _ st h => wpAny_pyIter_tupleiter st h
theorem Zll {P : Program} {w : World} {K : PySem.W.Frag} {tg : Expr} (it : Addr) (lo : Int) (n : Nat) : ZoZ P w K tg (Itr lo n) [it] it (fun i h => IsRangeIter h it (lo + (i : Nat) * 1) ((n : Int) - (i : Nat)) 1) where
 mem := by simp
 obj := fun i h st b hb => by
  have e : b = it := by simpa using hb
  subst e
  exact ⟨_, st, fun v z => by
   have z' : Data.fields _ = Data.cell v := z
   cases z'⟩
 keep := fun i h h' st k => k it (by simp) _ st
 item := by
  intro X hP hw hK hc i pins s σ H E I hf st hg
  subst hP hw hK
  obtain ⟨f0, f1, f2, f3, f4, f5⟩ := hf it (by simp)
  have W := Walks.range (prog := X.prog) (w := X.w) (I.ok.hd hc) it lo 1 n
  refine W.item i s _ _ hg st fun v h' tk hv st' kk => ?_
  obtain ⟨t, rfl⟩ := hv
  have I1 : Inv X pins σ H { s with heap := h', toks := tk } := I.turned (fun b o hb e => kk b o (by simpa using hb) e) f0 f1 f3 f4 f5
  refine ⟨_, rfl, Zm5 (s := { s with heap := h', toks := tk }) (n := "range_iterator") st' rfl rfl (by decide) ⟨.int (lo + i), H, I1, ⟨t, ?_⟩, ⟨rfl, rfl⟩, st', fun b hb => (hf b hb).1⟩⟩
  rw [Int.mul_one]
 done := by
  intro X hP hw hK hc i pins s σ H E I hf st hg
  subst hP hw hK
  obtain ⟨f0, f1, f2, f3, f4, f5⟩ := hf it (by simp)
  exact wpAny_pyNext_range_end (I.ok.hd hc) st (by have : n <= i := hg; omega) fun h' eb => ⟨rfl, I.turned (t' := s.toks) (fun b o hb e => eb b o hb e) f0 f1 f3 f4 f5⟩
 self := fun _ _ _ _ _ st h => wpAny_pyIter_rangeiter st h
end L2.Internal
namespace L2.Internal
open PySem PySem.Spec PyProof.Rows
section
variable {X : Cx} {tg : Expr}
def Zqx (K : PySem.W.Frag) (tl : TE) : TI := fun σ H R => tl σ H fun x H1 => ∃ a, x = .ref a /\ (∃ xs, SqL K H1 a xs) /\ R (Itl K a) H1
def iTup (K : PySem.W.Frag) (tl : TE) : TI := fun σ H R => tl σ H fun x H1 => ∃ a, x = .ref a /\ (∃ xs, SqT K H1 a xs) /\ R (Itt K a) H1
theorem Zd0 {l : Expr} {tl : TE} (hl : PE X l tl) : PI X tg l (Zqx X.K tl) := by
 intro pins s σ H R I h
 refine thn (hl pins s σ H _ I h) fun v s1 ⟨x, H1, I1, r1, q1⟩ => ?_
 obtain ⟨a, e, ⟨xs, hq⟩, q⟩ := q1
 subst e
 cases r1
 obtain ⟨its, rv, p, hz⟩ := I1.list hq
 refine wpAny_pyIter_list p.isList ?_
 refine ⟨s1.heap.objs.size, [s1.heap.objs.size], _, _, H1, rfl, I1.kept (t' := s1.toks) fun b o e => ZcP _ e, ZlU a _, ⟨_, ZcO _ rfl, rfl, rfl⟩, fun b hb => ?_, q⟩
 have e : b = s1.heap.objs.size := by simpa using hb
 subst e
 exact I1.fpOk (ZbD _) (I1.hok.fresh (ZbD _))
theorem ZkM {l : Expr} {tl : TE} (hl : PE X l tl) : PI X tg l (iTup X.K tl) := by
 intro pins s σ H R I h
 refine thn (hl pins s σ H _ I h) fun v s1 ⟨x, H1, I1, r1, q1⟩ => ?_
 obtain ⟨a, e, ⟨xs, hq⟩, q⟩ := q1
 subst e
 cases r1
 obtain ⟨its, rv, p, hz⟩ := I1.tuple hq
 refine wpAny_pyIter_tuple (show s1.heap.IsTuple a its.toArray from p) ?_
 refine ⟨s1.heap.objs.size, [s1.heap.objs.size], _, _, H1, rfl, I1.kept (t' := s1.toks) fun b o e => ZcP _ e, Zlk a _, ⟨_, ZcO _ rfl, rfl, rfl⟩, fun b hb => ?_, q⟩
 have e : b = s1.heap.objs.size := by simpa using hb
 subst e
 exact I1.fpOk (ZbD _) (I1.hok.fresh (ZbD _))
theorem Zm6 {pins : List (Addr × Obj)} {σ : St} {H : Hp} {s : Shared} {R : It -> Hp -> Prop} {E : Value -> Shared -> Prop} {lo hi : Int} {t u v : Tok} {tk : Nat} (I : Inv X pins σ H s) (h1 : -(2 ^ 62) <= lo) (h2 : lo < 2 ^ 62) (h3 : -(2 ^ 62) <= hi) (h4 : hi < 2 ^ 62)
  (q : R (Itr lo (hi - lo).toNat) H) : wpAny (model X.prog X.w) X.A (pyIter (.ref s.heap.objs.size)) (PIE X pins σ tg R) E { s with heap := s.heap.push { cls := .type "range", data := .fields #[.int lo t, .int hi u, .int 1 v] }, toks := tk } := by
 refine wpAny_pyIter_range (IsRange.new ..) (small_one h1 h2 h3 h4) ?_
 have I1 : Inv X pins σ H { s with heap := s.heap.push { cls := .type "range", data := .fields #[.int lo t, .int hi u, .int 1 v] }, toks := tk } := I.kept fun b o e => ZcP _ e
 refine ⟨(s.heap.push { cls := .type "range", data := .fields #[.int lo t, .int hi u, .int 1 v] }).objs.size, [(s.heap.push { cls := .type "range", data := .fields #[.int lo t, .int hi u, .int 1 v] }).objs.size], _, _, H, rfl,
  I1.kept (t' := tk) fun b o e => ZcP _ e, Zll _ lo (hi - lo).toNat, ?_, fun b hb => ?_, q⟩
 ·have e1 : lo + ((0 : Nat) : Int) * 1 = lo := by simp
  have e2 : (((hi - lo).toNat : Nat) : Int) - ((0 : Nat) : Int) = Builtin.Range.rangeSize lo hi 1 := by rw [rangeSize_one]; split <;> omega
  show IsRangeIter _ _ (lo + ((0 : Nat) : Int) * 1) ((((hi - lo).toNat : Nat) : Int) - ((0 : Nat) : Int)) 1
  rw [e1, e2]
  exact ZcO _ rfl
 ·have e : b = (s.heap.push { cls := .type "range", data := .fields #[.int lo t, .int hi u, .int 1 v] }).objs.size := by simpa using hb
  subst e
  exact I1.fpOk (ZbD _) (I1.hok.fresh (ZbD _))
def Zqy (ta : TA) : TI := fun σ H R => ta σ H fun vs H1 => ∃ j : Int, vs = [.int j] /\ -(2 ^ 62) <= j /\ j < 2 ^ 62 /\ R (Itr 0 j.toNat) H1
theorem ZfW {a : Expr} {ta : TA} {p pos : Pos} (hg : Gl X "range") (hm : X.mg "range" = none) (ha : PA X [a] ta) (hs : autoParam (starEach [a] X.env = [(false, eval a X.env)]) L2.Internal.auR._auto_1) : PI X tg (.Call (.Name "range" p) [a] [] pos) (Zqy ta) := by
 intro pins s σ H R I h
 refine Call_ (Zjn I hg hm boot_range (ZcS (thn (ha pos pins s σ H _ I h) fun us s1 ⟨vs, H1, I1, r1, q1⟩ => ?_) hs rfl))
 obtain ⟨j, e, q1, q2, q⟩ := q1
 subst e
 cases r1 with
 | cons r rr =>
  cases rr
  obtain ⟨t, rfl⟩ := r
  exact call_range_1 (Zm6 I1 (by omega) (by omega) q1 q2 (by simpa using q))
noncomputable def tFor (wi : TI) (g : TG) (tb : TS.Internal) : TS.Internal := fun D σ H => wi σ H fun J H1 => ∃ W : Nat -> Nat -> St -> Hp -> Prop, (∃ m, W 0 m σ H1) /\ ∀ i m σ H, W i m σ H ->
 (J.stop i H /\ D.nx σ H) \/ (J.go i H /\ ∃ N : St -> Hp -> Prop, (∀ σ' H', N σ' H' -> ∃ m', m' < m /\ W (i + 1) m' σ' H') /\ ∀ x H', J.yld i H x H' -> g x σ H' fun σ2 H2 => tb { D with nx := N, ct := N, bk := D.nx } σ2 H2)
noncomputable def Zij (fp : List Addr) (h : Heap) : List (Addr × Obj) := fp.filterMap fun b => (h.get? b).map fun o => (b, o)
theorem Zfq {fp : List Addr} {h : Heap} {b : Addr} {o : Obj} (hb : b ∈ fp) (e : h.get? b = some o) : (b, o) ∈ Zij fp h := Zam.mpr ⟨b, hb, by rw [e]; rfl⟩
theorem ZlV {fp : List Addr} {h : Heap} {p : Addr × Obj} (hp : p ∈ Zij fp h) : p.1 ∈ fp /\ h.get? p.1 = some p.2 := by
 obtain ⟨b, hb, e⟩ := Zam.mp hp
 cases q : h.get? b with
 | none => rw [q] at e; cases e
 | some o =>
  rw [q] at e
  have e' : (b, o) = p := ZbR.inj e
  subst e'
  exact ⟨hb, q⟩
theorem Inv.pinned {pins : List (Addr × Obj)} {σ : St} {H : Hp} {s : Shared} {fp : List Addr} (I : Inv X pins σ H s) (hf : ∀ b ∈ fp, ZkL X pins H b) (ho : ∀ b ∈ fp, ∃ o, s.heap.get? b = some o /\ ∀ v, o.data ≠ .cell v) : Inv X (pins ++ Zij fp s.heap) σ H s :=
 I.pins_of fun p hp => (Zah.mp hp).elim (fun z => I.pin p (Zan _ z)) fun z => by
  obtain ⟨hb, e⟩ := ZlV z
  obtain ⟨f0, f1, f2, _⟩ := hf p.1 hb
  obtain ⟨o, e', d⟩ := ho p.1 hb
  rw [e] at e'; cases e'
  exact ⟨e, f0, f1, f2, d⟩
theorem Inv.unpinned {pins pl : List (Addr × Obj)} {σ : St} {H : Hp} {s : Shared} (I : Inv X (pins ++ pl) σ H s) : Inv X pins σ H s := I.pins_of fun p hp => I.pin p (Zan _ (Zai _ hp))
theorem Zet {iter : Expr} {body : List Stmt} {wi : TI} {g : TG} {tb : TS.Internal} {pos : Pos} (hp : PassesOwn (model X.prog X.w) X.A X.env X.xe) (hc : X.calm = true) (hi : PI X tg iter wi) (hg : PG X tg g) (hb : PSs X body tb)
  (hs : autoParam (∀ x, foldedSetIterable iter X.env x = pure x) L2.Internal.auI._auto_1) : PS X (.For tg iter body [] pos) (tFor wi g tb) := by
 intro pins s σ H D I h
 refine wpAny_For (thn (hi pins s σ H _ I h) fun v s1 h1 => thn h1 fun itv s2 h2 => ?_) hs
 obtain ⟨it, fp, tn, J, H2, e, I2, T, st2, f2, W, ⟨m0, w0⟩, turn⟩ := h2
 subst e
 have stat : ∀ {H' : Hp}, (∀ b ∈ fp, H' b = none) -> ∀ b ∈ fp, ZkL X pins H' b := fun hn b hb => ⟨hn b hb, (f2 b hb).2⟩
 refine codeAny_forLoop_any (fun n s' => ∃ i σ' H', Inv X pins σ' H' s' /\ tn i s'.heap /\ (∀ b ∈ fp, H' b = none) /\ W i n σ' H') ?_ m0 ⟨0, σ, H2, I2, st2, fun b hb => (f2 b hb).1, w0⟩
 rintro n s3 ⟨i, σ3, H3, I3, st3, fr3, w3⟩
 rcases turn i n σ3 H3 w3 with ⟨stop, qn⟩ | ⟨go, N, hN, step⟩
 ·refine wpAny_passesOwn hp (thn (T.done X rfl rfl rfl hc i pins s3 σ3 H3 X.xe I3 (stat fr3) st3 stop) fun r s4 ⟨hr, I4⟩ => ?_)
  subst hr
  exact wpAny_execs_nil ⟨σ3, H3, I4, qn⟩
 ·refine wpAny_passesOwn hp (thn (T.item X rfl rfl rfl hc i pins s3 σ3 H3 X.xe I3 (stat fr3) st3 go) fun r s4 ⟨u, hr, h4⟩ => ?_)
  subst hr
  refine wpAny_passesOwn hp (thn h4 fun _ s5 ⟨x, H5, I5, r5, y5, st5, fr5⟩ => ?_)
  have I5' := I5.pinned (stat fr5) (T.obj _ _ st5)
  refine wpAny_passesOwn hp (thn (hg _ s5 σ3 H5 x u _ I5' r5 (step x H5 y5)) fun _ s6 ⟨σ6, H6, I6, q6⟩ => ?_)
  refine wpAny_passesOwn hp (thn (hb _ s6 σ6 H6 _ I6 q6) fun f s7 q7 => ?_)
  have again : ∀ {σ7 : St} {H7 : Hp}, Inv X (pins ++ Zij fp s5.heap) σ7 H7 s7 -> N σ7 H7 -> ∃ m, m < n /\ ∃ i σ' H', Inv X pins σ' H' s7 /\ tn i s7.heap /\ (∀ b ∈ fp, H' b = none) /\ W i m σ' H' := fun {σ7 H7} I7 n7 => by
   obtain ⟨m', hm, w7⟩ := hN σ7 H7 n7
   refine ⟨m', hm, i + 1, σ7, H7, I7.unpinned, T.keep _ _ _ st5 fun b hb o e => (I7.pin (b, o) (Zan _ (Zan _ (Zfq hb e)))).1, fun b hb => ?_, w7⟩
   obtain ⟨o, e, d⟩ := T.obj _ _ st5 b hb
   exact (I7.pin (b, o) (Zan _ (Zan _ (Zfq hb e)))).2.1
  cases f with
  | next => obtain ⟨σ7, H7, I7, n7⟩ := q7; exact again I7 n7
  | cont => obtain ⟨σ7, H7, I7, n7⟩ := q7; exact again I7 n7
  | brk => obtain ⟨σ7, H7, I7, q7⟩ := q7; exact ⟨σ7, H7, I7.unpinned, q7⟩
  | ret v => obtain ⟨x7, σ7, H7, I7, r7, q7⟩ := q7; exact ⟨x7, σ7, H7, I7.unpinned, r7, q7⟩
end
theorem Zea {K : PySem.W.Frag} {a : Addr} {xs : List V} {g : TG} {tb : TS.Internal} {D : Zjm} {σ : St} {H : Hp} (Pv : Nat -> St -> Hp -> Prop) (h0 : Pv 0 σ H) (hl : ∀ i σ H, i <= xs.length -> Pv i σ H -> SqL K H a xs)
  (hs : ∀ i x σ H, xs[i]? = some x -> Pv i σ H -> g x σ H fun σ2 H2 => tb { D with nx := Pv (i + 1), ct := Pv (i + 1), bk := D.nx } σ2 H2) (hd : ∀ σ H, Pv xs.length σ H -> D.nx σ H) :
  ∃ W : Nat -> Nat -> St -> Hp -> Prop, (∃ m, W 0 m σ H) /\ ∀ i m σ H, W i m σ H ->
   ((Itl K a).stop i H /\ D.nx σ H) \/ ((Itl K a).go i H /\ ∃ N : St -> Hp -> Prop, (∀ σ' H', N σ' H' -> ∃ m', m' < m /\ W (i + 1) m' σ' H') /\ ∀ x H', (Itl K a).yld i H x H' -> g x σ H' fun σ2 H2 => tb { D with nx := N, ct := N, bk := D.nx } σ2 H2) := by
 refine ⟨fun i m σ H => m = xs.length - i /\ i <= xs.length /\ Pv i σ H, ⟨xs.length, by simp, ZbE _, h0⟩, ?_⟩
 rintro i m σ H ⟨rfl, hi, p⟩
 have q := hl i σ H hi p
 by_cases hlt : i < xs.length
 ·refine .inr ⟨⟨xs, xs[i], q, by simp [hlt]⟩, Pv (i + 1), fun σ' H' p' => ⟨xs.length - (i + 1), by omega, rfl, hlt, p'⟩, fun x H' y => ?_⟩
  obtain ⟨e, y⟩ := y
  subst e
  exact hs i x σ _ (y xs q) p
 ·have e : i = xs.length := by omega
  subst e
  exact .inl ⟨⟨xs, q, ZbD _⟩, hd σ H p⟩
theorem ZlW {K : PySem.W.Frag} {a : Addr} {xs : List V} {g : TG} {tb : TS.Internal} {D : Zjm} {σ : St} {H : Hp} (Pv : Nat -> St -> Hp -> Prop) (h0 : Pv 0 σ H) (hl : ∀ i σ H, i <= xs.length -> Pv i σ H -> SqT K H a xs)
  (hs : ∀ i x σ H, xs[i]? = some x -> Pv i σ H -> g x σ H fun σ2 H2 => tb { D with nx := Pv (i + 1), ct := Pv (i + 1), bk := D.nx } σ2 H2) (hd : ∀ σ H, Pv xs.length σ H -> D.nx σ H) :
  ∃ W : Nat -> Nat -> St -> Hp -> Prop, (∃ m, W 0 m σ H) /\ ∀ i m σ H, W i m σ H ->
   ((Itt K a).stop i H /\ D.nx σ H) \/ ((Itt K a).go i H /\ ∃ N : St -> Hp -> Prop, (∀ σ' H', N σ' H' -> ∃ m', m' < m /\ W (i + 1) m' σ' H') /\ ∀ x H', (Itt K a).yld i H x H' -> g x σ H' fun σ2 H2 => tb { D with nx := N, ct := N, bk := D.nx } σ2 H2) := by
 refine ⟨fun i m σ H => m = xs.length - i /\ i <= xs.length /\ Pv i σ H, ⟨xs.length, by simp, ZbE _, h0⟩, ?_⟩
 rintro i m σ H ⟨rfl, hi, p⟩
 have q := hl i σ H hi p
 by_cases hlt : i < xs.length
 ·refine .inr ⟨⟨xs, xs[i], q, by simp [hlt]⟩, Pv (i + 1), fun σ' H' p' => ⟨xs.length - (i + 1), by omega, rfl, hlt, p'⟩, fun x H' y => ?_⟩
  obtain ⟨e, y⟩ := y
  subst e
  exact hs i x σ _ (y xs q) p
 ·have e : i = xs.length := by omega
  subst e
  exact .inl ⟨⟨xs, q, ZbD _⟩, hd σ H p⟩
theorem ZlX {lo : Int} {n : Nat} {g : TG} {tb : TS.Internal} {D : Zjm} {σ : St} {H : Hp} (Pv : Nat -> St -> Hp -> Prop) (h0 : Pv 0 σ H)
  (hs : ∀ i σ H, i < n -> Pv i σ H -> g (.int (lo + i)) σ H fun σ2 H2 => tb { D with nx := Pv (i + 1), ct := Pv (i + 1), bk := D.nx } σ2 H2) (hd : ∀ σ H, Pv n σ H -> D.nx σ H) :
  ∃ W : Nat -> Nat -> St -> Hp -> Prop, (∃ m, W 0 m σ H) /\ ∀ i m σ H, W i m σ H ->
   ((Itr lo n).stop i H /\ D.nx σ H) \/ ((Itr lo n).go i H /\ ∃ N : St -> Hp -> Prop, (∀ σ' H', N σ' H' -> ∃ m', m' < m /\ W (i + 1) m' σ' H') /\ ∀ x H', (Itr lo n).yld i H x H' -> g x σ H' fun σ2 H2 => tb { D with nx := N, ct := N, bk := D.nx } σ2 H2) := by
 refine ⟨fun i m σ H => m = n - i /\ i <= n /\ Pv i σ H, ⟨n, by simp, ZbE _, h0⟩, ?_⟩
 rintro i m σ H ⟨rfl, hi, p⟩
 by_cases hlt : i < n
 ·refine .inr ⟨hlt, Pv (i + 1), fun σ' H' p' => ⟨n - (i + 1), by omega, rfl, hlt, p'⟩, fun x H' y => ?_⟩
  obtain ⟨e, y⟩ := y
  subst e y
  exact hs i σ _ hlt p
 ·have e : i = n := by omega
  subst e
  exact .inl ⟨ZbD _, hd σ H p⟩
end L2.Internal
namespace L2.Internal
open PySem PySem.Spec PyProof.Rows
noncomputable abbrev R2 := V -> V -> Hp -> VK -> Prop
def OpR (X : Cx) (f : Value -> Value -> Sem Value) (r : R2) : Prop :=
 ∀ (pins : List (Addr × Obj)) (s : Shared) (σ : St) (H : Hp) (x y : V) (v u : Value) (Q : VK), Inv X pins σ H s -> ZdU x v -> ZdU y u -> r x y H Q ->
  wpAny (model X.prog X.w) X.A (f v u) (EP X pins σ Q) X.xe s
def UnR (X : Cx) (f : Value -> Sem Value) (r : V -> Hp -> VK -> Prop) : Prop :=
 ∀ (pins : List (Addr × Obj)) (s : Shared) (σ : St) (H : Hp) (x : V) (v : Value) (Q : VK), Inv X pins σ H s -> ZdU x v -> r x H Q ->
  wpAny (model X.prog X.w) X.A (f v) (EP X pins σ Q) X.xe s
def ZgD (X : Cx) (f : Value) (r : List V -> Hp -> VK -> Prop) : Prop :=
 ∀ (pins : List (Addr × Obj)) (s : Shared) (σ : St) (H : Hp) (xs : List V) (us : List Value) (Q : VK), Inv X pins σ H s -> Zem xs us -> r xs H Q ->
  wpAny (model X.prog X.w) X.A (call f us) (EP X pins σ Q) X.xe s
def tOp (r : R2) (ta tb : TE) : TE := fun σ H Q => ta σ H fun x H1 => tb σ H1 fun y H2 => r x y H2 Q
def tUn (r : V -> Hp -> VK -> Prop) (ta : TE) : TE := fun σ H Q => ta σ H fun x H1 => r x H1 Q
def rI (C : Int -> Int -> Prop) (g : Int -> Int -> V) : R2 := fun x y H Q => ∃ i j, x = .int i /\ y = .int j /\ C i j /\ Q (g i j) H
def rI0 (g : Int -> Int -> V) : R2 := fun x y H Q => ∃ i j, x = .int i /\ y = .int j /\ Q (g i j) H
def rU (g : Int -> V) : V -> Hp -> VK -> Prop := fun x H Q => ∃ i, x = .int i /\ Q (g i) H
section
variable {X : Cx} {a b c : Expr} {ta tb tc : TE} {pos : Pos}
theorem Zqz (ha : PE X a ta) (hb : PE X b tb) {pins : List (Addr × Obj)} {s : Shared} {σ : St} {H : Hp} {R : V -> V -> Hp -> Prop} (I : Inv X pins σ H s)
  (h : ta σ H fun x H1 => tb σ H1 fun y H2 => R x y H2) {Q : Value -> Shared -> Prop} {f : Value -> Value -> Sem Value}
  (hf : ∀ v u s2 x y H2, Inv X pins σ H2 s2 -> ZdU x v -> ZdU y u -> R x y H2 -> wpAny (model X.prog X.w) X.A (f v u) Q X.xe s2) :
  wpAny (model X.prog X.w) X.A (eval a X.env) (fun v s₁ => wpAny (model X.prog X.w) X.A (eval b X.env) (fun u s₂ => wpAny (model X.prog X.w) X.A (f v u) Q X.xe s₂) X.xe s₁) X.xe s := by
 refine thn (ha pins s σ H _ I h) fun v s1 ⟨x, H1, I1, r1, q1⟩ => ?_
 refine thn (hb pins s1 σ H1 _ I1 q1) fun u s2 ⟨y, H2, I2, r2, q2⟩ => ?_
 exact hf v u s2 x y H2 I2 r1 r2 q2
theorem Zeb {op : Operator} {r : R2} (ho : OpR X (binaryOp op) r) (ha : PE X a ta) (hb : PE X b tb) : PE X (.BinOp a op b pos) (tOp r ta tb) := by
 intro pins s σ H Q I h
 exact wpAny_BinOp (Zqz ha hb I h fun v u s2 x y H2 I2 rx ry q => ho pins s2 σ H2 x y v u Q I2 rx ry q)
theorem ZqA {op : UnaryOp} {r : V -> Hp -> VK -> Prop} (ho : UnR X (unaryOp op) r) (ha : PE X a ta) : PE X (.UnaryOp op a pos) (tUn r ta) := by
 intro pins s σ H Q I h
 exact UnaryOp_ (thn (ha pins s σ H _ I h) fun v s1 ⟨x, H1, I1, r1, q1⟩ => ho pins s1 σ H1 x v Q I1 r1 q1)
theorem opI {f : Value -> Value -> Sem Value} {C : Int -> Int -> Prop} {g : Int -> Int -> Int}
  (rule : ∀ (i j : Int) (t u : Tok) (s : Shared) (Q : Value -> Shared -> Prop) (E : Value -> Shared -> Prop), C i j -> Q (.int (g i j) s.toks) { s with toks := s.toks + 1 } -> wpAny (model X.prog X.w) X.A (f (.int i t) (.int j u)) Q E s) :
  OpR X f (rI C fun i j => .int (g i j)) := by
 intro pins s σ H x y v u Q I rx ry h
 obtain ⟨i, j, rfl, rfl, hc, q⟩ := h
 obtain ⟨t, rfl⟩ := rx
 obtain ⟨t', rfl⟩ := ry
 exact rule i j t t' s _ _ hc ⟨.int (g i j), H, I.tok _, ⟨_, rfl⟩, q⟩
theorem Zri {f : Value -> Value -> Sem Value} {g : Int -> Int -> Int}
  (rule : ∀ (i j : Int) (t u : Tok) (s : Shared) (Q : Value -> Shared -> Prop) (E : Value -> Shared -> Prop), Q (.int (g i j) s.toks) { s with toks := s.toks + 1 } -> wpAny (model X.prog X.w) X.A (f (.int i t) (.int j u)) Q E s) :
  OpR X f (rI0 fun i j => .int (g i j)) := by
 intro pins s σ H x y v u Q I rx ry h
 obtain ⟨i, j, rfl, rfl, q⟩ := h
 obtain ⟨t, rfl⟩ := rx
 obtain ⟨t', rfl⟩ := ry
 exact rule i j t t' s _ _ ⟨.int (g i j), H, I.tok _, ⟨_, rfl⟩, q⟩
theorem ZqB {f : Value -> Value -> Sem Value} {g : Int -> Int -> Bool}
  (rule : ∀ (i j : Int) (t u : Tok) (s : Shared) (Q : Value -> Shared -> Prop) (E : Value -> Shared -> Prop), Q (.bool (g i j)) s -> wpAny (model X.prog X.w) X.A (f (.int i t) (.int j u)) Q E s) :
  OpR X f (rI0 fun i j => .bl (g i j)) := by
 intro pins s σ H x y v u Q I rx ry h
 obtain ⟨i, j, rfl, rfl, q⟩ := h
 obtain ⟨t, rfl⟩ := rx
 obtain ⟨t', rfl⟩ := ry
 exact rule i j t t' s _ _ ⟨.bl (g i j), H, I, rfl, q⟩
def Zrj (i j : Int) : Prop := 0 < j /\ j < 1073741824
def Zrk (i j : Int) : Prop := 0 <= j /\ j <= 1000000 /\ i.natAbs < 2 ^ 64
def Zqk (i j : Int) : Prop := (-(2 ^ 64) < i /\ i < 2 ^ 64) \/ (-(2 ^ 64) < j /\ j < 2 ^ 64)
theorem Zqk.ok {i j : Int} (h : Zqk i j) : IntMulOk i j := by
 rcases h with ⟨h1, h2⟩ | ⟨h1, h2⟩
 ·exact .of_left (intBits_le_64 h1 h2)
 ·exact .of_right (intBits_le_64 h1 h2)
theorem Zpe : OpR X (binaryOp .Add) (rI0 fun i j => .int (i + j)) := Zri fun _ _ _ _ _ _ _ q => add_int q
theorem ZnF : OpR X (binaryOp .Sub) (rI0 fun i j => .int (i - j)) := Zri fun _ _ _ _ _ _ _ q => sub_int q
theorem Zpf : OpR X (binaryOp .Mult) (rI Zqk fun i j => .int (i * j)) := opI fun _ _ _ _ _ _ _ hc q => mul_int q hc.ok
theorem Zn8 : OpR X (binaryOp .FloorDiv) (rI Zrj fun i j => .int (i / j)) := opI fun i j _ _ _ _ _ hc q => by
 have h1 : (0 : Int) < j := hc.1
 have h2 : j < 1073741824 := hc.2
 exact floordiv_int (by omega) (by rw [Int.fdiv_eq_ediv_of_nonneg i (by omega)]; exact q) (.inl (PyProof.noPylong_small (by omega)))
theorem Zpg : OpR X (binaryOp .Mod) (rI (fun _ j => 0 < j) fun i j => .int (i % j)) := opI fun i j _ _ _ _ _ hc q => by
 have h1 : (0 : Int) < j := hc
 exact mod_int' (by omega) (by rw [Int.fmod_eq_emod_of_nonneg i (by omega)]; exact q)
theorem Zph : OpR X (binaryOp .Pow) (rI Zrk fun i j => .int (i ^ j.toNat)) := opI fun _ _ _ _ _ _ _ hc q => pow_int_small hc.1 hc.2.1 hc.2.2 q
theorem unI {f : Value -> Sem Value} {g : Int -> Int}
  (rule : ∀ (i : Int) (t : Tok) (s : Shared) (Q : Value -> Shared -> Prop) (E : Value -> Shared -> Prop), Q (.int (g i) s.toks) { s with toks := s.toks + 1 } -> wpAny (model X.prog X.w) X.A (f (.int i t)) Q E s) :
  UnR X f (rU fun i => .int (g i)) := by
 intro pins s σ H x v Q I rx h
 obtain ⟨i, rfl, q⟩ := h
 obtain ⟨t, rfl⟩ := rx
 exact rule i t s _ _ ⟨.int (g i), H, I.tok _, ⟨_, rfl⟩, q⟩
theorem Zpi : UnR X (unaryOp .USub) (rU fun i => .int (-i)) := unI fun _ _ _ _ _ q => neg_int q
end
noncomputable def Zrl : V -> V -> Bool
 | .non, .non => true | .non, .int _ => true | .int _, .non => true | .non, .bl _ => true | .bl _, .non => true | .non, .str _ => true | .str _, .non => true
 | .int _, .int _ => true | .bl _, .bl _ => true | .str _, .str _ => true | .byt _, .byt _ => true
 | .int _, .str _ => true | .str _, .int _ => true | .bl _, .str _ => true | .str _, .bl _ => true
 | _, _ => false
def rEq : R2 := fun x y H Q => Zrl x y = true /\ Q (.bl (decide (x = y))) H
def rNe : R2 := fun x y H Q => Zrl x y = true /\ Q (.bl (!decide (x = y))) H
theorem ZlY {i j : Int} : decide (V.int i = V.int j) = (i == j) := by
 rw [Zcz]
 simp
theorem ZnG {i j : Bool} : decide (V.bl i = V.bl j) = (i == j) := by
 rw [Zcz]
 simp
theorem ZlZ {i j : Str} : decide (V.str i = V.str j) = (i == j) := by
 rw [Zcz]
 simp
theorem Zl0 {i j : Array UInt8} : decide (V.byt i = V.byt j) = (i.toList == j.toList) := by
 rw [Zcz]
 cases i
 cases j
 simp
section
variable {X : Cx} {a b c : Expr} {ta tb tc : TE} {pos : Pos}
theorem ZdT {pins : List (Addr × Obj)} {σ : St} {H : Hp} {s : Shared} {Q : VK} {k k' : Bool} (I : Inv X pins σ H s) (q : Q (.bl k) H) (e : k = k') : EP X pins σ Q (.bool k') s := by
 subst e
 exact ⟨.bl k, H, I, rfl, q⟩
theorem ZqC : OpR X (compareOp .Eq) rEq := by
 intro pins s σ H x y v u Q I rx ry h
 obtain ⟨hs, q⟩ := h
 cases x with
 | non =>
  cases rx
  cases y with
  | non => cases ry; exact PySem.EqNone.eq_none_none (ZdT I q (by simp))
  | bl j => cases ry; exact PySem.EqNone.eq_none_bool (ZdT I q (by simp))
  | int j => obtain ⟨t', rfl⟩ := ry; exact PySem.EqNone.eq_none_int (ZdT I q (by simp))
  | str j => obtain ⟨t', rfl⟩ := ry; exact PySem.EqNone.eq_none_str (ZdT I q (by simp))
  | _ => exact absurd (show false = true from hs) Zcy
 | bl i =>
  cases rx
  cases y with
  | non => cases ry; exact PySem.EqNone.eq_bool_none (ZdT I q (by simp))
  | bl j => cases ry; exact eq_bool (ZdT I q ZnG)
  | str j => obtain ⟨t', rfl⟩ := ry; exact PySem.EqMixed.eq_bool_str (ZdT I q (by simp))
  | _ => exact absurd (show false = true from hs) Zcy
 | int i =>
  obtain ⟨t, rfl⟩ := rx
  cases y with
  | non => cases ry; exact PySem.EqNone.eq_int_none (ZdT I q (by simp))
  | int j => obtain ⟨t', rfl⟩ := ry; exact eq_int (ZdT I q ZlY)
  | str j => obtain ⟨t', rfl⟩ := ry; exact PySem.EqMixed.eq_int_str (ZdT I q (by simp))
  | _ => exact absurd (show false = true from hs) Zcy
 | str i =>
  obtain ⟨t, rfl⟩ := rx
  cases y with
  | non => cases ry; exact PySem.EqNone.eq_str_none (ZdT I q (by simp))
  | bl j => cases ry; exact PySem.EqMixed.eq_str_bool (ZdT I q (by simp))
  | int j => obtain ⟨t', rfl⟩ := ry; exact PySem.EqMixed.eq_str_int (ZdT I q (by simp))
  | str j => obtain ⟨t', rfl⟩ := ry; exact eq_str (ZdT I q ZlZ)
  | _ => exact absurd (show false = true from hs) Zcy
 | byt i =>
  obtain ⟨t, rfl⟩ := rx
  cases y with
  | byt j => obtain ⟨t', rfl⟩ := ry; exact PySem.W.eq_bytes (ZdT I q Zl0)
  | _ => exact absurd (show false = true from hs) Zcy
 | _ => cases y <;> exact absurd (show false = true from hs) Zcy
theorem Zlm : OpR X (compareOp .NotEq) rNe := by
 intro pins s σ H x y v u Q I rx ry h
 obtain ⟨hs, q⟩ := h
 cases x with
 | non =>
  cases rx
  cases y with
  | non => cases ry; exact PySem.EqNone.ne_none_none (ZdT I q (by simp))
  | bl j => cases ry; exact PySem.EqNone.ne_none_bool (ZdT I q (by simp))
  | int j => obtain ⟨t', rfl⟩ := ry; exact PySem.EqNone.ne_none_int (ZdT I q (by simp))
  | str j => obtain ⟨t', rfl⟩ := ry; exact PySem.EqNone.ne_none_str (ZdT I q (by simp))
  | _ => exact absurd (show false = true from hs) Zcy
 | bl i =>
  cases rx
  cases y with
  | non => cases ry; exact PySem.EqNone.ne_bool_none (ZdT I q (by simp))
  | bl j => cases ry; exact ne_bool (ZdT I q (congrArg not ZnG))
  | str j => obtain ⟨t', rfl⟩ := ry; exact PySem.EqMixed.ne_bool_str (ZdT I q (by simp))
  | _ => exact absurd (show false = true from hs) Zcy
 | int i =>
  obtain ⟨t, rfl⟩ := rx
  cases y with
  | non => cases ry; exact PySem.EqNone.ne_int_none (ZdT I q (by simp))
  | int j => obtain ⟨t', rfl⟩ := ry; exact ne_int (ZdT I q (congrArg not ZlY))
  | str j => obtain ⟨t', rfl⟩ := ry; exact PySem.EqMixed.ne_int_str (ZdT I q (by simp))
  | _ => exact absurd (show false = true from hs) Zcy
 | str i =>
  obtain ⟨t, rfl⟩ := rx
  cases y with
  | non => cases ry; exact PySem.EqNone.ne_str_none (ZdT I q (by simp))
  | bl j => cases ry; exact PySem.EqMixed.ne_str_bool (ZdT I q (by simp))
  | int j => obtain ⟨t', rfl⟩ := ry; exact PySem.EqMixed.ne_str_int (ZdT I q (by simp))
  | str j => obtain ⟨t', rfl⟩ := ry; exact ne_str (ZdT I q (congrArg not ZlZ))
  | _ => exact absurd (show false = true from hs) Zcy
 | byt i =>
  obtain ⟨t, rfl⟩ := rx
  cases y with
  | byt j => obtain ⟨t', rfl⟩ := ry; exact PySem.W.ne_bytes (ZdT I q (congrArg not Zl0))
  | _ => exact absurd (show false = true from hs) Zcy
 | _ => cases y <;> exact absurd (show false = true from hs) Zcy
theorem Zln : OpR X (compareOp .Lt) (rI0 fun i j => .bl (decide (i < j))) := ZqB fun _ _ _ _ _ _ _ q => lt_int q
theorem Zl1 : OpR X (compareOp .LtE) (rI0 fun i j => .bl (decide (i <= j))) := ZqB fun _ _ _ _ _ _ _ q => le_int q
theorem ZqD : OpR X (compareOp .Gt) (rI0 fun i j => .bl (decide (j < i))) := ZqB fun _ _ _ _ _ _ _ q => gt_int q
theorem Zdk (b : Expr) {op : CmpOp} (h : autoParam (op ≠ .In) L2.Internal.auD._auto_1) (h2 : autoParam (op ≠ .NotIn) L2.Internal.auD._auto_1) : behindInMarks op b = false := by
 have e1 : (op == CmpOp.In) = false := by cases op <;> first | rfl | exact absurd rfl h
 have e2 : (op == CmpOp.NotIn) = false := by cases op <;> first | rfl | exact absurd rfl h2
 cases b <;> simp [behindInMarks, e1, e2]
theorem Zfz {op : CmpOp} {r : R2} (ho : OpR X (compareOp op) r) (ha : PE X a ta) (hb : PE X b tb) (hm : behindInMarks op b = false) : PE X (.Compare a [op] [b] pos) (tOp r ta tb) := by
 intro pins s σ H Q I h
 exact wpAny_Compare1 (Zqz ha hb I h fun v u s2 x y H2 I2 rx ry q => ho pins s2 σ H2 x y v u Q I2 rx ry q) hm
def Zpj (t : TE) : TT := fun σ H Q => t σ H fun x H' => ∃ k, x = .bl k /\ Q k H'
theorem ZgY {op : CmpOp} {r : R2} (ho : OpR X (compareOp op) r) (ha : PE X a ta) (hb : PE X b tb) (hm : behindInMarks op b = false) : PT X (.Compare a [op] [b] pos) (Zpj (tOp r ta tb)) := by
 intro pins s σ H Q I h
 refine wpAny_isTrue_Compare1 (thn (ha pins s σ H _ I h) fun v s1 ⟨x, H1, I1, r1, q1⟩ => thn (hb pins s1 σ H1 _ I1 q1) fun u s2 ⟨y, H2, I2, r2, q2⟩ =>
  thn (ho pins s2 σ H2 x y v u _ I2 r1 r2 q2) fun c s3 ⟨z, H3, I3, r3, k, e, q3⟩ => ?_) hm
 subst e
 cases r3
 exact wpAny_truthy_bool ⟨H3, I3, q3⟩
def Zpk (r r' : R2) (ta tb tc : TE) : TE := fun σ H Q => ta σ H fun x H1 => tb σ H1 fun y H2 => r x y H2 fun z H3 => ∃ k, z = .bl k /\
 (if k = true then tc σ H3 fun w' H4 => r' y w' H4 Q else Q (.bl false) H3)
theorem ZgE {op op' : CmpOp} {r r' : R2} (ho : OpR X (compareOp op) r) (ho' : OpR X (compareOp op') r') (ha : PE X a ta) (hb : PE X b tb) (hc : PE X c tc)
  (hm : lastMarks [op, op'] [b, c] = false := by with_unfolding_all rfl) : PT X (.Compare a [op, op'] [b, c] pos) (Zpj (Zpk r r' ta tb tc)) := by
 intro pins s σ H Q I h
 refine isTrue_chain (thn (ha pins s σ H _ I h) fun v s1 ⟨x, H1, I1, r1, q1⟩ => test_link (thn (hb pins s1 σ H1 _ I1 q1) fun u s2 ⟨y, H2, I2, r2, q2⟩ =>
  thn (ho pins s2 σ H2 x y v u _ I2 r1 r2 q2) fun d s3 ⟨z, H3, I3, r3, k, e, q3⟩ => ?_)) hm
 subst e
 cases r3
 refine wpAny_truthy_bool ?_
 cases k with
 | false =>
  obtain ⟨k', e', q'⟩ := q3
  cases e'
  exact ite_ff ⟨H3, I3, q'⟩
 | true =>
  refine ite_tt (test_last (thn (hc pins s3 σ H3 _ I3 q3) fun w' s4 ⟨z', H4, I4, r4, q4⟩ => thn (ho' pins s4 σ H4 y z' u w' _ I4 r2 r4 q4) fun d' s5 ⟨z2, H5, I5, r5, k2, e2, q5⟩ => ?_))
  subst e2
  cases r5
  exact wpAny_truthy_bool ⟨H5, I5, q5⟩
theorem Zik : (sizeLine : Nat) < 2 ^ 63 := by rw [sizeLine_eq]; decide
theorem Zlo : OpR X (binaryOp .Add) (fun x y H Q => ∃ i j, x = .str i /\ y = .str j /\ i.length + j.length <= sizeLine /\ Q (.str (i ++ j)) H) := by
 intro pins s σ H x y v u Q I rx ry h
 obtain ⟨i, j, rfl, rfl, hz, q⟩ := h
 obtain ⟨t, rfl⟩ := rx
 obtain ⟨t', rfl⟩ := ry
 exact add_str (fun t' tk => ⟨.str (i ++ j), H, I.tok _, ⟨_, rfl⟩, q⟩) hz
theorem Zhc {x : V} {us : List Value} (r : Zem [x] us) : ∃ u, us = [u] /\ ZdU x u := by
 cases r with
 | cons r1 r2 => cases r2; exact ⟨_, rfl, r1⟩
theorem Zpl {x y : V} {us : List Value} (r : Zem [x, y] us) : ∃ u w', us = [u, w'] /\ ZdU x u /\ ZdU y w' := by
 cases r with
 | cons r1 r2 =>
  cases r2 with
  | cons r3 r4 => cases r4; exact ⟨_, _, rfl, r1, r3⟩
end
end L2.Internal
namespace L2.Internal
open PySem PySem.Spec PyProof.Rows
structure Zn9 (h : Heap) (x dx C : Addr) (mA : Str -> Option Value) : Prop where
 obj : h.get? x = some (ZbW C dx)
 ns : h.Ns1 dx mA
 ne : dx ≠ x
theorem Zl2 {h : Heap} {dx : Addr} {mA : Str -> Option Value} (n : h.Ns1 dx mA) : ∃ od, h.get? dx = some od /\ ∀ name, ZbY name od = some (mA name) := by
 obtain ⟨o, es, ep, ho, hd, hk, _, hm⟩ := n
 refine ⟨o, ho, fun name => ?_⟩
 have e := hm name
 unfold nsFind findBy at e
 rw [<- Array.find?_toList] at e
 unfold ZbY
 rw [hd]
 dsimp only
 split
 ·rename_i y q
  rw [q] at e
  exact congrArg some e
 ·rename_i q
  rw [q] at e
  have a : es.toList.any (·.refKey) = false := by
   rw [List.any_eq_false]
   intro y hy
   obtain ⟨z, t, hkey⟩ := hk y (Array.mem_toList_iff.mp hy)
   simp [DictEntry.refKey, hkey]
  have a' : ¬ es.toList.any (·.refKey) = true := by rw [a]; exact Zcy
  rw [if_neg a']
  exact congrArg some e
theorem Zn9.look {h : Heap} {x dx C : Addr} {mA : Str -> Option Value} (I : Zn9 h x dx C mA) : ∃ od, PySem.W.InstAt h x (ZbW C dx) C (some od) /\ ∀ name, ZbY name od = some (mA name) :=
 let ⟨od, ho, hl⟩ := Zl2 I.ns
 ⟨od, ⟨I.obj, rfl, rfl, ho⟩, hl⟩
section
variable {prog : Program} {w : World} {A : Around} {E : Value -> Shared -> Prop} {s : Shared} {K : PySem.W.Frag} {x dx C f : Addr} {mA : Str -> Option Value} {name : Str} {v : Value}
theorem Zoa {expr : Bool} {Q : Value -> Shared -> Prop} (X : K.In s.heap) (I : Zn9 s.heap x dx C mA) (hg : ZbZ K C name = true) (hh : Zb0 K C = true)
  (ha : Zb1 K (.ref C) name = some none) (hv : mA name = some v) (hv' : PySem.W.handedIn v = true) (h : Q v { s with toks := s.toks + 1 }) :
  wpAny (model prog w) A (getAttr (.ref x) name expr) Q E s := by
 obtain ⟨od, J, hl⟩ := I.look
 exact PySem.W.get_value X J (Zb2 hg).1 (PySem.W.findObj_own hh ha rfl (by rw [hl, hv])) hv' h
theorem Zm7 {pl : Sem Bool} {Q : Value × List Value -> Shared -> Prop} (X : K.In s.heap) (I : Zn9 s.heap x dx C mA) (hg : ZbZ K C name = true)
  (hf : Zb1 K (.ref C) name = some (some (.ref f))) (ht : Zb3 K (.ref f) = true) (hv : mA name = none) (h : Q (.ref f, [.ref x]) s) :
  wpAny (model prog w) A (getMethod (.ref x) name pl) Q E s := by
 obtain ⟨od, J, hl⟩ := I.look
 exact PySem.W.method_fn X J (Zb2 hg).1 (Zb2 hg).2 hf (beq_iff_eq.mp ht) (by show (ZbY name od).map (·.isSome) = some false; rw [hl, hv]; rfl) h
theorem Zob {ns : List Str} {Q : Unit -> Shared -> Prop} (X : K.In s.heap) (I : Zn9 s.heap x dx C mA)
  (hs : Zb1 K (.ref C) "__setattr__" = some (some (.builtin "object.__setattr__"))) (hp : Zb4 K C = true) (ht : Zb5 K C name = some none) (hh : Zb0 K C = true)
  (hw : PySem.Within mA ns) (hsz : ns.length <= sizeLine)
  (h : ∀ h', Zn9 h' x dx C (fun y => if y = name then some v else mA y) -> Heap.SameBut dx s.heap h' -> Q () { s with heap := h', toks := s.toks + 2 }) :
  wpAny (model prog w) A (setAttr (.ref x) name v) Q E s := by
 obtain ⟨od, J, hl⟩ := I.look
 refine PySem.W.set_plain X J hs (PySem.W.osa_open (s := { s with toks := s.toks + 1 }) (r := none) X J hp ht fun b => ?_)
 obtain ⟨cd, hc, hd'⟩ := PySem.W.any_some hh
 have hx : s.heap.get? x = some ⟨.ref C, some dx, .plain, #[]⟩ := I.obj
 refine wpAny_bind (wpAny_pure (wpAny_bind (wpAny_bind (wpAny_loadPart hx (wpAny_bind (PySem.W.Looks.here (s := { s with toks := s.toks + 1 }) (PySem.W.looks_clsIn X hc) ?_))))))
 rw [hd']
 refine wpAny_pure (a := some dx) (wpAny_bind (wpAny_pure (wpAny_bind ?_)))
 refine wpAny_nsSet1 (s := { s with toks := s.toks + 1 }) I.ns fun h' hn2 hs2 => ?_
 obtain ⟨oD, esD, epD, hoD, hdD, hcD⟩ := hn2.count (PySem.Within.cons name v hw)
 refine wpAny_bind (wpAny_lookBehind hoD (by rw [hdD]; exact pastItsLine_dict (ZbA hcD (by rw [Zao]; omega))) ?_)
 exact wpAny_pure (h _ ⟨(hs2.2 _ (Ne.symm I.ne)).trans I.obj, hn2, I.ne⟩ hs2)
theorem Zm8 {R : Result -> Shared -> Prop} {vs : List Value} {kw : List (Str × Value)} (X : K.In s.heap) (hm : Zb6 K C = true)
  (hi : Zb1 K (.ref C) "__init__" = some (some (.ref f))) (hf : PySem.W.typeIn K (.ref f) = some (.type "function"))
  (h : codeAny (model prog w) (A.under (.builtin "type.__call__" ⟨.ref C :: vs, kw⟩)) (.call (.ref f) ⟨.ref (s.heap.objs.size + 1) :: vs, kw⟩) (PySem.W.InitBack (s.heap.objs.size + 1) R)
   { s with heap := (s.heap.push Zb7).push (ZbW C s.heap.objs.size) }) :
  codeAny (model prog w) A (.call (.ref C) ⟨vs, kw⟩) R s := by
 obtain ⟨hh, g, d, t, os⟩ := s
 exact PySem.W.make_core (PySem.W.makes_of X hm) (PySem.W.looks_findIn X hi) (fun self => PySem.W.bind_fn X self hf) (.inl rfl) h
end
noncomputable def ZfG (f : Str) (v : V) : List (Str × V) -> List (Str × V)
 | [] => [(f, v)]
 | (g, x) :: r => if g = f then (g, v) :: r else (g, x) :: ZfG f v r
theorem Zht (f g : Str) (v : V) : ∀ fs : List (Str × V), (ZfG f v fs).lookup g = if g = f then some v else fs.lookup g
 | [] => by
  show Zap g [(f, v)] = _
  by_cases h : g = f
  ·have hb : (g == f) = true := beq_iff_eq.mpr h
   simp only [Zap, hb, if_pos h]
  ·have hb : (g == f) = false := beq_eq_false_iff_ne.mpr h
   simp only [Zap, hb, if_neg h]
 | (k, x) :: r => by
  have ih := Zht f g v r
  rw [show ZfG f v ((k, x) :: r) = (if k = f then (k, v) :: r else (k, x) :: ZfG f v r) from rfl]
  by_cases hk : k = f
  ·rw [if_pos hk]
   by_cases h : g = k
   ·have hb : (g == k) = true := beq_iff_eq.mpr h
    simp only [Zap, hb, if_pos (h.trans hk)]
   ·have hb : (g == k) = false := beq_eq_false_iff_ne.mpr h
    simp only [Zap, hb, if_neg (fun e : g = f => h (e.trans hk.symm))]
  ·rw [if_neg hk]
   by_cases h : g = k
   ·have hb : (g == k) = true := beq_iff_eq.mpr h
    simp only [Zap, hb, if_neg (fun e : g = f => hk (h.symm.trans e))]
   ·have hb : (g == k) = false := beq_eq_false_iff_ne.mpr h
    simp only [Zap, hb]
    exact ih
theorem Zhu (f : Str) (v : V) : ∀ fs : List (Str × V), f ∈ (ZfG f v fs).map (·.1) /\ ∀ g, g ∈ fs.map (·.1) -> g ∈ (ZfG f v fs).map (·.1)
 | [] => ⟨by simp [ZfG], fun g h => by simp at h⟩
 | (k, x) :: r => by
  obtain ⟨i1, i2⟩ := Zhu f v r
  rw [show ZfG f v ((k, x) :: r) = (if k = f then (k, v) :: r else (k, x) :: ZfG f v r) from rfl]
  by_cases hk : k = f
  ·rw [if_pos hk]
   subst hk
   exact ⟨by simp, fun g h => by simpa using h⟩
  ·rw [if_neg hk]
   refine ⟨?_, fun g h => ?_⟩
   ·rw [Zaq]
    exact Zaf _ i1
   ·rw [Zaq] at h ⊢
    rcases Zag.mp h with e | e
    ·exact Zag.mpr (.inl e)
    ·exact Zaf _ (i2 g e)
theorem Zgp (f : Str) (v : V) : ∀ fs : List (Str × V), (ZfG f v fs).length <= fs.length + 1
 | [] => by simp [ZfG]
 | (k, x) :: r => by
  have ih := Zgp f v r
  rw [show ZfG f v ((k, x) :: r) = (if k = f then (k, v) :: r else (k, x) :: ZfG f v r) from rfl]
  by_cases hk : k = f
  ·rw [if_pos hk, Zao, Zao]; omega
  ·rw [if_neg hk, Zao, Zao]; omega
theorem Zjl.some_of {v : V} {o : Option Value} (r : Zjl (some v) o) : ∃ u, o = some u /\ ZdU v u := by
 cases o with
 | none => exact (show False from r).elim
 | some u => exact ⟨u, rfl, r⟩
theorem Zjl.none_of {o : Option Value} (r : Zjl none o) : o = none := by
 cases o with
 | none => rfl
 | some u => exact (show False from r).elim
theorem Zl3 {v : V} {u : Value} (r : ZdU v u) : PySem.W.handedIn u = true := by
 cases v with
 | non => cases (show u = Value.none from r); rfl
 | bl b => cases (show u = Value.bool b from r); rfl
 | int i => obtain ⟨t, e⟩ := (show ∃ t, u = Value.int i t from r); cases e; rfl
 | str x => obtain ⟨t, e⟩ := (show ∃ t, u = Value.str x t from r); cases e; rfl
 | byt b => obtain ⟨t, e⟩ := (show ∃ t, u = Value.bytes b t from r); cases e; rfl
 | flt b => obtain ⟨t, e⟩ := (show ∃ t, u = Value.float b t from r); cases e; rfl
 | ref a => cases (show u = Value.ref a from r); rfl
 | ty n => cases (show u = Value.type n from r); rfl
section
variable {P : Program} {w : World} {H H' : Hp} {h h' : Heap} {a C dx : Addr} {fs fs' : List (Str × V)}
theorem Zix (hok : HOk P w H h) (e : H a = some (.ins C dx fs)) : ∃ mA, Zn9 h a dx C mA /\ (∀ f, Zjl (fs.lookup f) (mA f)) /\ PySem.Within mA (fs.map (·.1)) /\ fs.length <= 1000 /\ H dx = some (.own a) := by
 obtain ⟨d, z, ne, ob, mA, n, r, q⟩ := (show ZeN P w H h a (.ins C dx fs) from hok a _ e)
 exact ⟨mA, ⟨ob, n, ne⟩, r, q, z, d⟩
end
structure Cls (K : PySem.W.Frag) (C : Addr) : Prop where
 pg : ZbZ K C Str.empty = true
 hd : Zb0 K C = true
 po : Zb4 K C = true
 sa : Zb1 K (.ref C) "__setattr__" = some (some (.builtin "object.__setattr__"))
theorem Cls.get {K : PySem.W.Frag} {C : Addr} (c : Cls K C) (f : Str) : ZbZ K C f = true := c.pg
def Zdo (K : PySem.W.Frag) (C : Addr) (f : Str) : Prop := Zb1 K (.ref C) f = some none
theorem Zdo.taker {K : PySem.W.Frag} {C : Addr} {f : Str} (n : Zdo K C f) : Zb5 K C f = some none := by
 unfold Zb5
 rw [show Zb1 K (.ref C) f = some none from n]
 rfl
structure Zjp (K : PySem.W.Frag) (C : Addr) (m : Str) (f : Addr) : Prop where
 at_ : Zb1 K (.ref C) m = some (some (.ref f))
 fn : Zb3 K (.ref f) = true
 kp : Zb8 K (.ref f) = true
section
variable {X : Cx} {pins : List (Addr × Obj)} {σ : St} {H : Hp} {s : Shared} {a C dx : Addr} {fs : List (Str × V)} {f : Str} {v : V} {A : Around} {E : Value -> Shared -> Prop}
theorem Zlp {b : Bool} {Q : Value -> Shared -> Prop} (I : Inv X pins σ H s) (e : H a = some (.ins C dx fs)) (c : Cls X.K C) (n : Zdo X.K C f) (l : fs.lookup f = some v)
  (h : ∀ u s', Inv X pins σ H s' -> ZdU v u -> Q u s') : wpAny (model X.prog X.w) A (getAttr (.ref a) f b) Q E s := by
 obtain ⟨mA, O, r, _, _, _⟩ := Zix I.hok e
 obtain ⟨u, hu, ru⟩ := Zjl.some_of (v := v) (o := mA f) (by rw [<- l]; exact r f)
 exact Zoa I.kIn O (c.get f) c.hd n hu (Zl3 ru) (h u _ (I.tok _) ru)
theorem Zlq {m : Str} {g : Addr} {pl : Sem Bool} {Q : Value × List Value -> Shared -> Prop} (I : Inv X pins σ H s) (e : H a = some (.ins C dx fs)) (c : Cls X.K C) (k : Zjp X.K C m g) (l : fs.lookup m = none)
  (h : Q (.ref g, [.ref a]) s) : wpAny (model X.prog X.w) A (getMethod (.ref a) m pl) Q E s := by
 obtain ⟨mA, O, r, _, _, _⟩ := Zix I.hok e
 have hn : mA m = none := Zjl.none_of (by rw [<- l]; exact r m)
 exact Zm7 I.kIn O (c.get m) k.at_ k.fn hn h
theorem Zlr {y : V} {u : Value} {Q : Unit -> Shared -> Prop} (I : Inv X pins σ H s) (e : H a = some (.ins C dx fs)) (c : Cls X.K C) (n : Zdo X.K C f) (hl : fs.length < 1000) (ry : ZdU y u)
  (h : ∀ s', Inv X pins σ (upd H a (.ins C dx (ZfG f y fs))) s' -> Q () s') : wpAny (model X.prog X.w) A (setAttr (.ref a) f u) Q E s := by
 obtain ⟨mA, O, r, wi, _, ho⟩ := Zix I.hok e
 have hz : (fs.map (·.1)).length <= sizeLine := by rw [Zar, sizeLine_eq]; omega
 refine Zob I.kIn O c.sa c.po n.taker c.hd wi hz fun h' O' sb => h _ ?_
 have hd : ∃ o, h'.get? dx = some o := let ⟨o, _, _, e', _⟩ := O'.ns; ⟨o, e'⟩
 refine I.write (x := a) (e := dx) (by rw [e]; exact True.intro) (.inr ho) (fun b q hb z => (sb.2 b hb).trans z) hd ?_
 refine ⟨by rw [Zc6 O.ne]; exact ho, ?_, O.ne, O'.obj, _, O'.ns, fun g => ?_, fun g hg => ?_⟩
 ·have := Zgp f y fs; omega
 ·show Zjl ((ZfG f y fs).lookup g) (if g = f then some u else mA g)
  rw [Zht]
  by_cases q : g = f
  ·rw [if_pos q, if_pos q]; exact ry
  ·rw [if_neg q, if_neg q]; exact r g
 ·by_cases q : g = f
  ·rw [q]; exact (Zhu f y fs).1
  ·refine (Zhu f y fs).2 g (wi g fun z => hg ?_)
   show (if g = f then some u else mA g) = none
   rw [if_neg q]; exact z
theorem Inv.made (I : Inv X pins σ H s) : Inv X pins σ (upd (upd H s.heap.objs.size (.own (s.heap.objs.size + 1))) (s.heap.objs.size + 1) (.ins C s.heap.objs.size []))
  { s with heap := (s.heap.push Zb7).push (ZbW C s.heap.objs.size) } := by
 have e1 : (s.heap.push Zb7).get? s.heap.objs.size = some Zb7 := ZcO s.heap rfl
 have e2 : ((s.heap.push Zb7).push (ZbW C s.heap.objs.size)).get? (s.heap.objs.size + 1) = some (ZbW C s.heap.objs.size) := by
  have := ZcO (s.heap.push Zb7) (o := ZbW C s.heap.objs.size) rfl
  rwa [ZcQ] at this
 have e3 : (s.heap.push Zb7).Ns s.heap.objs.size (fun _ => none) := ⟨Zb7, #[], _, e1, rfl, (fun e he => absurd he (by simp)), fun _ => rfl⟩
 have I1 := I.laid (a := s.heap.objs.size) (o := .own (s.heap.objs.size + 1)) (h' := s.heap.push Zb7) (t' := s.toks) (fun b u q => ZcP _ q) (ZbD _) ⟨_, e1⟩
 refine I1.laid (a := s.heap.objs.size + 1) (o := .ins C s.heap.objs.size []) (t' := s.toks) (fun b u q => ZcP _ q) (ZbF (ZcQ _ _)) ?_
 have ne : s.heap.objs.size ≠ s.heap.objs.size + 1 := Zbz (ZbG _)
 refine ⟨by rw [Zc6 ne, ZcX], ZbE _, ne, e2, fun _ => none, (Heap.Ns1.of_empty e3).at fun o q => ZcP _ q, fun _ => True.intro, fun y hy => absurd rfl hy⟩
theorem Zoc {prog : Program} {w : World} {env : Env} {e : Expr} {f : Str} {pos : Pos} {s : Shared} {Q : Value -> Shared -> Prop} (hb : attributeBase e f env (eval e env) = eval e env)
  (h : wpAny (model prog w) A (eval e env) (fun o s₁ => wpAny (model prog w) A (getAttr o f true) Q E s₁) E s) : wpAny (model prog w) A (eval (.Attribute e f pos) env) Q E s :=
 Attribute_any_ h (by rw [arm_eval_Attribute, hb])
end
def tFld (K : PySem.W.Frag) (ta : TE) (f : Str) : TE := fun σ H Q => ta σ H fun x H1 => ∃ a C dx fs v, x = .ref a /\ H1 a = some (.ins C dx fs) /\ Cls K C /\ Zdo K C f /\ fs.lookup f = some v /\ Q v H1
noncomputable def Zrm (K : PySem.W.Frag) (ta tv : TE) (f : Str) : TS.Internal := fun D σ H => tv σ H fun y H1 => ta σ H1 fun x H2 => ∃ a C dx fs, x = .ref a /\ H2 a = some (.ins C dx fs) /\ Cls K C /\ Zdo K C f /\ fs.length < 1000 /\
 D.nx σ (upd H2 a (.ins C dx (ZfG f y fs)))
section
variable {X : Cx} {o e value : Expr} {f : Str} {pos pos' tpos : Pos} {ta tv : TE}
theorem Zes (he : PE X e ta) (hb : attributeBase e f X.env (eval e X.env) = eval e X.env) : PE X (.Attribute e f pos) (tFld X.K ta f) := by
 intro pins s σ H Q I h
 refine Zoc hb (thn (he pins s σ H _ I h) fun u s1 ⟨x, H1, I1, rx, a, C, dx, fs, v, ex, ea, c, n, l, q⟩ => ?_)
 subst ex
 obtain rfl : u = Value.ref a := rx
 exact Zlp I1 ea c n l fun u' s2 I2 ru => ⟨v, H1, I2, ru, q⟩
theorem Zd8 (ha : PE X o ta) (hv : PE X value tv) (hs : swapsWith value (some (.Attribute o f pos')) pos.line X.env = pure false) : PS X (.Assign [.Attribute o f pos'] value pos) (Zrm X.K ta tv f) := by
 intro pins s σ H D I h
 refine plainObj_wpAny_Assign_Attribute (thn (hv pins s σ H _ I h) fun u s1 ⟨y, H1, I1, ry, q⟩ => thn (ha pins s1 σ H1 _ I1 q) fun ov s2 ⟨x, H2, I2, rx, a, C, dx, fs, ex, ea, c, n, l, q2⟩ => ?_) hs
 subst ex
 obtain rfl : ov = Value.ref a := rx
 exact Zlr I2 ea c n l ry fun s3 I3 => ⟨σ, _, I3, q2⟩
end
section
variable {X : Cx} {pins : List (Addr × Obj)} {σ : St} {H : Hp} {s : Shared} {A : Around} {E : Value -> Shared -> Prop} {Q : Value -> Shared -> Prop} {c : Value} {b : Bool}
inductive Zhv (K : PySem.W.Frag) (H : Hp) : V -> Value -> Prop where
 | non : Zhv K H .non (.type "NoneType")
 | bl (x : Bool) : Zhv K H (.bl x) (.type "bool")
 | int (i : Int) : Zhv K H (.int i) (.type "int")
 | str (x : Str) : Zhv K H (.str x) (.type "str")
 | flt (x : UInt64) : Zhv K H (.flt x) (.type "float")
 | lst {a : Addr} {xs : List V} (e : H a = some (.lst xs)) : Zhv K H (.ref a) (.type "list")
 | frz {a : Addr} {o : Obj} {xs : List V} (e : H a = some (.frz o (.lst xs))) : Zhv K H (.ref a) (.type "list")
 | tup {a : Addr} {xs : List V} (e : H a = some (.tup xs)) : Zhv K H (.ref a) (.type "tuple")
 | dK {a : Addr} {kvs : List (Key × V)} (e : H a = some (.dK kvs)) : Zhv K H (.ref a) (.type "dict")
 | dT {a : Addr} {kvs : List (List Key × V)} (e : H a = some (.dT kvs)) : Zhv K H (.ref a) (.type "dict")
 | ins {a C dx : Addr} {fs : List (Str × V)} (e : H a = some (.ins C dx fs)) (cl : Cls K C) (ha : Zb1 K (.ref C) "__class__" = some (some (.builtin "object.__class__")))
   (hn : Zb9 K (.builtin "object.__class__") "__get__" = some (some (.builtin "getset_descriptor.__get__"))) (htk : Zca K (.builtin "object.__class__") = some true)
   (hm : Zcb K C (.type "object") = some true) : Zhv K H (.ref a) (.ref C)
theorem Zl4 {x : V} {u t : Value} (I : Inv X pins σ H s) (rx : ZdU x u) (ty : Zhv X.K H x t) (e : PySem.W.kitOne X.K t c = some b) (h : ∀ tk, Q (.bool b) { s with toks := tk }) :
  wpAny (model X.prog X.w) A (call (.builtin "isinstance") [u, c]) Q E s := by
 cases ty with
 | non => cases (show u = Value.none from rx); exact Zcc PySem.W.kitx_none I.kIn True.intro e (fun z => nomatch z) h
 | bl y => cases (show u = Value.bool y from rx); exact Zcc PySem.W.kitx_bool I.kIn True.intro e (fun z => nomatch z) h
 | int i => obtain ⟨t, q⟩ := (show ∃ t, u = Value.int i t from rx); cases q; exact Zcc PySem.W.kitx_int I.kIn True.intro e (fun z => nomatch z) h
 | str y => obtain ⟨t, q⟩ := (show ∃ t, u = Value.str y t from rx); cases q; exact Zcc PySem.W.kitx_str I.kIn True.intro e (fun z => nomatch z) h
 | flt y => obtain ⟨t, q⟩ := (show ∃ t, u = Value.float y t from rx); cases q; exact Zcc PySem.W.kitx_float I.kIn True.intro e (fun z => nomatch z) h
 | @lst a xs ea =>
  cases (show u = Value.ref a from rx)
  obtain ⟨_, _, n, _, h1⟩ := (show ZeN X.prog X.w H s.heap a (.lst xs) from I.hok a _ ea)
  exact Zcc Zcd I.kIn ⟨_, h1, rfl⟩ e (fun z => nomatch z) h
 | @frz a ob xs ea =>
  cases (show u = Value.ref a from rx)
  obtain ⟨_, _, _, n, _, h1⟩ := (show ZeN X.prog X.w H s.heap a (.frz ob (.lst xs)) from I.hok a _ ea)
  exact Zcc Zcd I.kIn ⟨_, h1, rfl⟩ e (fun z => nomatch z) h
 | @tup a xs ea =>
  cases (show u = Value.ref a from rx)
  obtain ⟨_, _, _, p⟩ := (show ZeN X.prog X.w H s.heap a (.tup xs) from I.hok a _ ea)
  obtain ⟨o, h1, h2, _⟩ := p
  exact Zcc PySem.W.kitx_tuple I.kIn ⟨o, h1, h2⟩ e (fun z => nomatch z) h
 | @dK a kvs ea =>
  cases (show u = Value.ref a from rx)
  obtain ⟨_, _, vs, _, p⟩ := (show ZeN X.prog X.w H s.heap a (.dK kvs) from I.hok a _ ea)
  obtain ⟨o, es, ep, h1, h2, _⟩ := p
  exact Zcc Zce I.kIn ⟨o, h1, h2.1⟩ e (fun z => nomatch z) h
 | @dT a kvs ea =>
  cases (show u = Value.ref a from rx)
  obtain ⟨_, _, xs, _, o, es, ep, h1, h2, _⟩ := (show ZeN X.prog X.w H s.heap a (.dT kvs) from I.hok a _ ea)
  exact Zcc Zce I.kIn ⟨o, h1, h2.1⟩ e (fun z => nomatch z) h
 | @ins a C dx fs ea cl ha hn htk hm =>
  cases (show u = Value.ref a from rx)
  obtain ⟨mA, O, _⟩ := Zix I.hok ea
  obtain ⟨od, J, _⟩ := O.look
  exact Zcc (PySem.W.kitx_own (cl.get _) cl.hd ha hn htk hm) I.kIn J e (fun z => nomatch z) h
end
end L2.Internal
namespace L2.Internal
open PySem PySem.Spec PyProof.Rows
structure ZgC (k : Nat) (A : Around) : Prop where
 hd : A.handled = none
 dp : A.depth + 3 * k + 5 < recursionLimit
 un : A.units + 16 * k + 200 < cLine
theorem ZgC.mono {j k : Nat} {A : Around} (r : ZgC k A) (h : j <= k) : ZgC j A := ⟨r.hd, by have := r.dp; omega, by have := r.un; omega⟩
theorem ZgC.deeper {k : Nat} {A : Around} (r : ZgC (k + 1) A) (env : Env) : ZgC k (A.deeper env) :=
 ⟨r.hd, by have := r.dp; show A.depth + 1 + 3 * k + 5 < _; omega, by have := r.un; show A.units + 3 + 16 * k + 200 < _; omega⟩
theorem Zls {A : Around} {C : Addr} {us : List Value} {kw : List (Str × Value)} : (A.under (.builtin "type.__call__" ⟨.ref C :: us, kw⟩)).depth = A.depth + 1 := by
 first | rfl | simp [Around.under, Code.weight, Code.isCreation, Code.isGuard, Code.isCaller, Code.frames, Code.isFrame, guardIds]
theorem Zlt {A : Around} {C : Addr} {us : List Value} {kw : List (Str × Value)} : (A.under (.builtin "type.__call__" ⟨.ref C :: us, kw⟩)).units = A.units + 1 := by
 first | rfl | simp [Around.under, Code.cUnits, Code.frames, Code.isFrame]
theorem ZgC.make {k : Nat} {A : Around} (r : ZgC (k + 1) A) (C : Addr) (us : List Value) (kw : List (Str × Value)) : ZgC k (A.under (.builtin "type.__call__" ⟨.ref C :: us, kw⟩)) :=
 ⟨r.hd, by have := r.dp; rw [Zls]; omega, by have := r.un; rw [Zlt]; omega⟩
theorem ZgC.depth {k : Nat} {A : Around} (r : ZgC k A) : A.depth < recursionLimit := by have := r.dp; omega
theorem ZgC.units {k : Nat} {A : Around} (r : ZgC k A) : A.units + 64 < cLine := by have := r.un; omega
def Zo0 : TA := fun _ H Q => Q [] H
def Zhd (ta : TE) (tr : TA) : TA := fun σ H Q => ta σ H fun x H1 => tr σ H1 fun xs H2 => Q (x :: xs) H2
section
variable {X : Cx} {e : Expr} {es : List Expr} {te : TE} {t : TA} {pos : Pos}
theorem Zc1 : PA X [] Zo0 := fun _ _ _ _ H Q I h => Calls.spliced_nil ⟨[], H, I, .nil, h⟩
theorem ZcW (ha : PE X e te) (hr : PA X es t) (hs : autoParam (starEach (e :: es) X.env = (false, eval e X.env) :: starEach es X.env) L2.Internal.auR._auto_1) : PA X (e :: es) (Zhd te t) := by
 intro pos pins s σ H Q I h
 rw [hs]
 show wpAny _ _ (spliced ((false, eval e X.env) :: backTo pos (starEach es X.env))) _ _ s
 refine Calls.spliced_cons (thn (ha pins s σ H _ I h) fun u s1 ⟨x, H1, I1, r1, q1⟩ => ?_)
 exact thn (hr pos pins s1 σ H1 _ I1 q1) fun us s2 ⟨xs, H2, I2, r2, q2⟩ => ⟨x :: xs, H2, I2, .cons r1 r2, q2⟩
def Zrn (t : TA) : TE := fun σ H Q => t σ H fun xs H1 => xs.length <= sizeLine /\ ∀ p, H1 p = none -> Q (.ref p) (upd H1 p (.tup xs))
def tLst (t : TA) : TE := fun σ H Q => t σ H fun xs H1 => xs.length <= sizeLine /\ ∀ p, H1 p = none -> Q (.ref p) (upd H1 p (.lst xs))
theorem ZdB {x1} (h : PA X es t) : PE X (.Tuple es x1 pos) (Zrn t) := by
 intro pins s σ H Q I hq
 refine wpAny_Tuple_spliced (thn (h pos pins s σ H _ I hq) fun us s1 ⟨xs, H1, I1, r, z, q⟩ => ⟨by rw [<- r.length]; exact z, ?_⟩)
 have hf : H1 s1.heap.objs.size = none := I1.hok.fresh (ZbD _)
 refine ⟨.ref s1.heap.objs.size, upd H1 s1.heap.objs.size (.tup xs), I1.laid (t' := s1.toks) (fun b u e => ZcP _ e) (ZbD _) ?_, rfl, q _ hf⟩
 exact ⟨z, us, r, ⟨_, ZcO _ rfl, rfl, _, rfl, rfl⟩⟩
theorem ZdJ (h : PA X es t) : PE X (.List es pos) (tLst t) := by
 intro pins s σ H Q I hq
 refine wpAny_List_spliced (thn (h pos pins s σ H _ I hq) fun us s1 ⟨xs, H1, I1, r, z, q⟩ => ⟨by rw [<- r.length]; exact z, ?_⟩)
 have hf : H1 s1.heap.objs.size = none := I1.hok.fresh (ZbD _)
 refine ⟨.ref s1.heap.objs.size, upd H1 s1.heap.objs.size (.lst xs), I1.laid (t' := s1.toks) (fun b u e => ZcP _ e) (ZbD _) ?_, rfl, q _ hf⟩
 exact ⟨z, us, 0, r, ZcO _ rfl⟩
end
noncomputable abbrev Sp := List V -> Hp -> VK -> XK -> Prop
noncomputable abbrev CXT := List Env -> Hp -> Shared -> XK -> Value -> Shared -> Prop
structure Zod (P : Program) (w : World) (K : PySem.W.Frag) (mg : Str -> Option Value) (base : Heap) (A : Around) (outer : List Env) (s : Shared) (H : Hp) : Prop where
 frames : A.frames = some outer
 mod : Mod K mg base
 bs : ∀ b o, base.get? b = some o -> s.heap.get? b = some o /\ H b = none
 bsz : base.objs.size <= s.heap.objs.size
 funs : s.heap.FunFrames base outer
 frf : ∀ b ∈ frs outer, H b = none
 hok : HOk P w H s.heap
 bare : AllBare s.gens
def CE (outer : List Env) (P : Program) (w : World) (H : Hp) (s : Shared) (Q : VK) (u : Value) (s' : Shared) : Prop :=
 ∃ v H', s'.os = s.os /\ AllBare s'.gens /\ Un (frs outer) [] H H' s.heap s'.heap /\ HOk P w H' s'.heap /\ ZdU v u /\ Q v H'
def CR (CX : CXT) (outer : List Env) (P : Program) (w : World) (H : Hp) (s : Shared) (Q : VK) (E : XK) (r : Result) (s' : Shared) : Prop :=
 match r with
 | .ok (.ret u) => CE outer P w H s Q u s'
 | .ok _ => False
 | .error e => CX outer H s E e s'
structure Ze0 (P : Program) (w : World) (K : PySem.W.Frag) (mg : Str -> Option Value) (base : Heap) (CX : CXT) (k : Nat) (f : Addr) (fd : FuncData) (ps : List Str) (sp : Sp) : Prop where
 len : ∀ vs H Q E, sp vs H Q E -> vs.length = ps.length
 run : ∀ (A : Around) (outer : List Env) (s : Shared) (H : Hp) (args : Args) (us : List Value) (vs : List V) (Q : VK) (E : XK), ZgC k A -> Zod P w K mg base A outer s H -> BindsTo s fd args (ps.zip us) -> Zem vs us -> sp vs H Q E ->
  codeAny (model P w) A (.call (.ref f) args) (CR CX outer P w H s Q E) s
theorem Zod.make {P : Program} {w : World} {K : PySem.W.Frag} {mg : Str -> Option Value} {base : Heap} {A : Around} {outer : List Env} {s : Shared} {H : Hp} (e : Zod P w K mg base A outer s H) (C : Addr) (us : List Value) (kw : List (Str × Value)) :
  Zod P w K mg base (A.under (.builtin "type.__call__" ⟨.ref C :: us, kw⟩)) outer s H := ⟨by first | exact e.frames | (simpa [Around.under, Code.envs, Code.isFrame, pushEnvs] using e.frames), e.mod, e.bs, e.bsz, e.funs, e.frf, e.hok, e.bare⟩
section
variable {X : Cx} {pins : List (Addr × Obj)} {σ : St} {H : Hp} {s s' : Shared}
theorem Inv.env0 (I : Inv X pins σ H s) : Zod X.prog X.w X.K X.mg X.base X.A X.stack s H :=
 ⟨I.ok.frames, I.ok.mod, I.bs, ZbA I.ok.bsz I.sz, I.stack, I.stkFree, I.hok, I.bare⟩
theorem Inv.after {Q : VK} {u : Value} (I : Inv X pins σ H s) (h : CE X.stack X.prog X.w H s Q u s') : EP X pins σ Q u s' := by
 obtain ⟨v, H', os, bare, un, hok, r, q⟩ := h
 obtain ⟨hh, g, d, t, os'⟩ := s'
 obtain rfl : os' = s.os := os
 exact ⟨v, H', I.call (h' := hh) (g' := g) (d' := d) (t' := t) (ch := []) un hok bare (fun b z => absurd z (by simp)), r, q⟩
end
def Zl5 (sp : Sp) (dvs : List V) (E : XK) (t : TA) : TE := fun σ H Q => t σ H fun vs H1 => sp (vs ++ dvs) H1 Q E
def Zpm (C : Addr) (m : Str) (sp : Sp) (dvs : List V) (E : XK) (ta : TE) (t : TA) : TE := fun σ H Q => ta σ H fun x H1 => ∃ a dx fs, x = .ref a /\ H1 a = some (.ins C dx fs) /\ fs.lookup m = none /\
 t σ H1 fun vs H2 => sp (x :: (vs ++ dvs)) H2 Q E
def Zpn (C : Addr) (sp : Sp) (dvs : List V) (E : XK) (t : TA) : TE := fun σ H Q => t σ H fun vs H1 => ∀ x dx, H1 x = none -> H1 dx = none -> dx ≠ x ->
 sp (.ref x :: (vs ++ dvs)) (upd (upd H1 dx (.own x)) x (.ins C dx [])) (fun v H2 => v = .non /\ Q (.ref x) H2) E
def ZdH (K : PySem.W.Frag) (fd : FuncData) (ps : List Str) (ds : List Value) : Prop :=
 ∀ (s : Shared) (us : List Value), K.In s.heap -> (us ++ ds).length = ps.length -> BindsTo s fd ⟨us, []⟩ (ps.zip (us ++ ds))
theorem ZdH.all {K : PySem.W.Frag} {fd : FuncData} {ps : List Str} (h : ∀ us : List Value, us.length = ps.length -> bindArgs fd ⟨us, []⟩ = pure (ps.zip us)) : ZdH K fd ps [] := fun s us _ hl => by
 rw [Zas] at hl ⊢
 exact .of_eq (h us hl)
def Zg9 (CX : CXT) (X : Cx) (E : XK) : Prop := ∀ (pins : List (Addr × Obj)) (σ : St) (H : Hp) (s : Shared) (e : Value) (s' : Shared), Inv X pins σ H s -> CX X.stack H s E e s' -> X.xe e s'
section
variable {X : Cx} {CX : CXT} {k : Nat} {f C : Addr} {fd : FuncData} {ps : List Str} {sp : Sp} {dvs : List V} {ds : List Value} {E : XK} {x m : Str} {p pos apos : Pos} {e o : Expr} {es : List Expr} {ta : TE} {t : TA}
theorem Zl6 {pins : List (Addr × Obj)} {σ : St} {H : Hp} {s : Shared} {Q : VK} {us : List Value} {vs : List V} (F : Ze0 X.prog X.w X.K X.mg X.base CX k f fd ps sp) (hr : ZgC k X.A) (hb : ZdH X.K fd ps ds) (hd : Zem dvs ds) (hx : Zg9 CX X E)
  (I : Inv X pins σ H s) (r : Zem vs us) (h : sp (vs ++ dvs) H Q E) : wpAny (model X.prog X.w) X.A (call (.ref f) us) (EP X pins σ Q) X.xe s := by
 have r2 : Zem (vs ++ dvs) (us ++ ds) := r.append hd
 have hl : (us ++ ds).length = ps.length := by rw [<- r2.length]; exact F.len _ _ _ _ h
 refine wpAny_call (codeAny_mono (F.run X.A X.stack s H ⟨us, []⟩ (us ++ ds) (vs ++ dvs) Q E hr I.env0 (hb s us I.kIn hl) r2 h) fun r s' hq => ?_)
 cases r with
 | error e => exact hx pins σ H s e s' I hq
 | ok fl =>
  cases fl with
  | ret u => exact I.after hq
  | next => exact False.elim hq
  | brk => exact False.elim hq
  | cont => exact False.elim hq
theorem Zdl (F : Ze0 X.prog X.w X.K X.mg X.base CX k f fd ps sp) (hr : ZgC k X.A) (hg : Gl X x) (hm : X.mg x = some (.ref f)) (hk : Zb8 X.K (.ref f) = true) (hb : ZdH X.K fd ps ds) (hd : Zem dvs ds) (hx : Zg9 CX X E)
  (ha : PA X (e :: es) t) (hdb : autoParam ((x == ("__debug__" : Str)) = false) L2.Internal.auD._auto_1) (he : autoParam (starEach (e :: es) X.env = (false, eval e X.env) :: starEach es X.env) L2.Internal.auR._auto_1) (hpl : autoParam ((backTo pos (starEach es X.env)).any (·.1) = false) L2.Internal.auR._auto_1) :
  PE X (.Call (.Name x p) (e :: es) [] pos) (Zl5 sp dvs E t) := by
 intro pins s σ H Q I h
 refine wpAny_Call_Name_kw (Ziu I hg hm ?_ hdb)
 refine Zcf (h₀ := X.base) I.ok.mod.kin hk (thn (ha pos pins s σ H _ I h) fun us s1 ⟨vs, H1, I1, r, q⟩ => ⟨I1.kIn, ?_⟩) he hpl
 exact Zl6 F hr hb hd hx I1 r q
theorem Zec {pl : Sem Bool} (he : PE X o ta) (c : Cls X.K C) (hm : Zjp X.K C m f) (F : Ze0 X.prog X.w X.K X.mg X.base CX k f fd ps sp) (hr : ZgC k X.A) (hb : ZdH X.K fd ps ds) (hd : Zem dvs ds) (hx : Zg9 CX X E) (ha : PA X (e :: es) t)
  (hst : autoParam (starEach (e :: es) X.env = (false, eval e X.env) :: starEach es X.env) L2.Internal.auR._auto_1) (hpl : autoParam ((backTo pos (starEach es X.env)).any (·.1) = false) L2.Internal.auR._auto_1)
  (ht : eval (.Call (.Attribute o m apos) (e :: es) [] pos) X.env = (do
   let ov <- eval o X.env
   standAt apos.atName
   let (f, first) <- holding [ov] (getMethod ov m pl)
   callWith pos f first (backTo pos (starEach (e :: es) X.env)) (backToKw pos (keywordEach [] X.env))) := by rfl) :
  PE X (.Call (.Attribute o m apos) (e :: es) [] pos) (Zpm C m sp dvs E ta t) := by
 intro pins s σ H Q I h
 refine Zcg (pl := pl) (thn (he pins s σ H _ I h) fun u s1 ⟨x, H1, I1, rx, a, dx, fs, ex, ea, l, q⟩ => ?_) ht
 subst ex
 obtain rfl : u = Value.ref a := rx
 refine Zlq I1 ea c hm l ?_
 refine Zcf (first := [.ref a]) (h₀ := X.base) I.ok.mod.kin hm.kp (thn (ha pos pins s1 σ H1 _ I1 q) fun us s2 ⟨vs, H2, I2, r, q2⟩ => ⟨I2.kIn, ?_⟩) hst hpl
 exact Zl6 (us := .ref a :: us) (vs := .ref a :: vs) F hr hb hd hx I2 (.cons rfl r) q2
structure Mk (K : PySem.W.Frag) (C f : Addr) : Prop where
 makes : Zb6 K C = true
 init : Zb1 K (.ref C) "__init__" = some (some (.ref f))
 fn : Zb3 K (.ref f) = true
 kp : Zb8 K (.ref C) = true
theorem ZkN {pins : List (Addr × Obj)} {σ : St} {H : Hp} {s : Shared} {Q : VK} {us : List Value} {vs : List V} (M : Mk X.K C f) (F : Ze0 X.prog X.w X.K X.mg X.base CX k f fd ps sp) (hr : ZgC (k + 1) X.A) (hb : ZdH X.K fd ps ds) (hd : Zem dvs ds)
  (hx : Zg9 CX X E) (I : Inv X pins σ H s) (r : Zem vs us)
  (h : ∀ x dx, H x = none -> H dx = none -> dx ≠ x -> sp (.ref x :: (vs ++ dvs)) (upd (upd H dx (.own x)) x (.ins C dx [])) (fun v H2 => v = .non /\ Q (.ref x) H2) E) :
  wpAny (model X.prog X.w) X.A (call (.ref C) us) (EP X pins σ Q) X.xe s := by
 have hq := h (s.heap.objs.size + 1) s.heap.objs.size (I.hok.fresh (Nat.le_succ _)) (I.hok.fresh (ZbD _)) (Zbz (ZbG _))
 have I2 := Inv.made (C := C) I
 have r2 : Zem (V.ref (s.heap.objs.size + 1) :: (vs ++ dvs)) (Value.ref (s.heap.objs.size + 1) :: (us ++ ds)) := .cons rfl (r.append hd)
 have hl : (Value.ref (s.heap.objs.size + 1) :: us ++ ds).length = ps.length := by
  have e := r2.length
  rw [F.len _ _ _ _ hq] at e
  exact e.symm
 refine wpAny_call (Zm8 (f := f) I.kIn M.makes M.init (beq_iff_eq.mp M.fn) (codeAny_mono (F.run _ X.stack _ _ ⟨Value.ref (s.heap.objs.size + 1) :: us, []⟩ (Value.ref (s.heap.objs.size + 1) :: (us ++ ds)) _ _ E (hr.make C us [])
  (I2.env0.make C us []) (hb _ (Value.ref (s.heap.objs.size + 1) :: us) I2.kIn hl) r2 hq) fun r s' hq' => ?_))
 cases r with
 | error e => exact hx pins σ _ _ e s' I2 hq'
 | ok fl =>
  cases fl with
  | ret u =>
   obtain ⟨v, H', I3, rv, ev, q3⟩ := I2.after hq'
   subst ev
   exact ⟨rv, ⟨V.ref (s.heap.objs.size + 1), H', I3, rfl, q3⟩⟩
  | next => exact False.elim hq'
  | brk => exact False.elim hq'
  | cont => exact False.elim hq'
theorem ZfH (M : Mk X.K C f) (F : Ze0 X.prog X.w X.K X.mg X.base CX k f fd ps sp) (hr : ZgC (k + 1) X.A) (hg : Gl X x) (hm : X.mg x = some (.ref C)) (hb : ZdH X.K fd ps ds) (hd : Zem dvs ds) (hx : Zg9 CX X E)
  (ha : PA X (e :: es) t) (hdb : autoParam ((x == ("__debug__" : Str)) = false) L2.Internal.auD._auto_1) (he : autoParam (starEach (e :: es) X.env = (false, eval e X.env) :: starEach es X.env) L2.Internal.auR._auto_1) (hpl : autoParam ((backTo pos (starEach es X.env)).any (·.1) = false) L2.Internal.auR._auto_1) :
  PE X (.Call (.Name x p) (e :: es) [] pos) (Zpn C sp dvs E t) := by
 intro pins s σ H Q I h
 refine wpAny_Call_Name_kw (Ziu I hg hm ?_ hdb)
 refine Zcf (h₀ := X.base) I.ok.mod.kin M.kp (thn (ha pos pins s σ H _ I h) fun us s1 ⟨vs, H1, I1, r, q⟩ => ⟨I1.kIn, ?_⟩) he hpl
 exact ZkN M F hr hb hd hx I1 r q
theorem Zm9 (M : Mk X.K C f) (F : Ze0 X.prog X.w X.K X.mg X.base CX k f fd ps sp) (hr : ZgC (k + 1) X.A) (hg : Gl X x) (hm : X.mg x = some (.ref C)) (hb : ZdH X.K fd ps ds) (hd : Zem dvs ds) (hx : Zg9 CX X E)
  (hdb : autoParam ((x == ("__debug__" : Str)) = false) L2.Internal.auD._auto_1) : PE X (.Call (.Name x p) [] [] pos) (Zpn C sp dvs E Zo0) := by
 intro pins s σ H Q I h
 refine wpAny_Call_Name_kw (Ziu I hg hm ?_ hdb)
 exact PySem.W.callWith_K0 I.kIn M.kp (ZkN (us := []) M F hr hb hd hx I .nil h)
end
section
variable {X : Cx} {CX : CXT} {k : Nat} {f C : Addr} {fd : FuncData} {ps ks : List Str} {sp : Sp} {E : XK} {x m : Str} {p pos apos kpos : Pos} {e o : Expr} {es : List Expr} {kws : List Keyword} {te ta : TE} {t tk : TA} {nm : Option Str}
variable {g : List Value -> List Value -> List Value} {gV : List V -> List V -> List V}
end
structure Zdh (N P : List Str) (sc : Scope) : Prop where
 kind : sc.kind = .function
 co : sc.isCoroutine = false
 gen : sc.isGenerator = false
 nd : N.Nodup
 pre : N.take P.length = P
 par : ∀ x ∈ P, sc.names.lookup x = some .local \/ sc.names.lookup x = some .cell
 nofree : ∀ y ∈ sc.names, y.2 ≠ .free
theorem Zjq {kindOf : Str -> Option NameKind} {x : Str} : ∀ {binds : List (Str × Value)} {m : Str -> Option Value}, (∀ v, (x, v) ∉ binds) -> bindL kindOf binds m x = m x
 | [], _, _ => rfl
 | (n, v) :: r, m, h => by
  unfold bindL
  rw [Zjq fun w hw => h w (Zaf _ hw)]
  split
  ·have : x ≠ n := by rintro rfl; exact h v Zae
   simp [this]
  ·rfl
theorem Zjr {kindOf : Str -> Option NameKind} {x : Str} : ∀ {binds : List (Str × Value)} {m : Str -> Option Value}, (∀ v, (x, v) ∉ binds) -> bindC kindOf binds m x = m x
 | [], _, _ => rfl
 | (n, v) :: r, m, h => by
  unfold bindC
  rw [Zjr fun w hw => h w (Zaf _ hw)]
  split
  ·rfl
  ·have : x ≠ n := by rintro rfl; exact h v Zae
   simp [this]
theorem Zjs {kindOf : Str -> Option NameKind} {x : Str} {v : Value} : ∀ {P : List Str} {vs : List Value} {i : Nat} {m : Str -> Option Value}, P.Nodup -> P[i]? = some x -> vs[i]? = some v -> kindOf x = some .local ->
  bindL kindOf (P.zip vs) m x = some v
 | [], _, _, _, _, h, _, _ => by simp at h
 | _ :: _, [], _, _, _, _, h, _ => by simp at h
 | p :: P, w :: vs, 0, m, nd, h1, h2, hk => by
  simp at h1 h2; subst h1; subst h2
  show bindL kindOf ((p, w) :: P.zip vs) m p = _
  unfold bindL
  rw [Zjq fun v hv => (Zat.mp nd).1 (Zau hv).1, if_pos hk]
  simp
 | p :: P, w :: vs, i + 1, m, nd, h1, h2, hk => by
  show bindL kindOf ((p, w) :: P.zip vs) m x = _
  unfold bindL
  exact Zjs (i := i) (Zat.mp nd).2 (by simpa using h1) (by simpa using h2) hk
theorem Zjt {kindOf : Str -> Option NameKind} {x : Str} {v : Value} : ∀ {P : List Str} {vs : List Value} {i : Nat} {m : Str -> Option Value}, P.Nodup -> P[i]? = some x -> vs[i]? = some v -> kindOf x ≠ some .local ->
  bindC kindOf (P.zip vs) m x = some v
 | [], _, _, _, _, h, _, _ => by simp at h
 | _ :: _, [], _, _, _, _, h, _ => by simp at h
 | p :: P, w :: vs, 0, m, nd, h1, h2, hk => by
  simp at h1 h2; subst h1; subst h2
  show bindC kindOf ((p, w) :: P.zip vs) m p = _
  unfold bindC
  rw [Zjr fun v hv => (Zat.mp nd).1 (Zau hv).1, if_neg hk]
  simp
 | p :: P, w :: vs, i + 1, m, nd, h1, h2, hk => by
  show bindC kindOf ((p, w) :: P.zip vs) m x = _
  unfold bindC
  exact Zjt (i := i) (Zat.mp nd).2 (by simpa using h1) (by simpa using h2) hk
noncomputable def start (N : List Str) (vs : List V) : St := vs.map some ++ Zav (N.length - vs.length) none
noncomputable def Zo1 (CX : CXT) (P : Program) (w : World) (K : PySem.W.Frag) (mg : Str -> Option Value) (base : Heap) (N : List Str) (qual : Str) (scope : Scope) (f : Addr) (cd : Value) (A : Around) (outer : List Env) (s : Shared) (H : Hp) (E : XK) : Cx where
 prog := P
 w := w
 K := K
 mg := mg
 base := base
 A := A.deeper (envOfC qual scope s.heap.objs.size f cd)
 N := N
 s₀ := s
 H₀ := H
 env := envOfC qual scope s.heap.objs.size f cd
 outer := outer
 stack := envOfC qual scope s.heap.objs.size f cd :: outer
 ex := []
 calm := true
 fn := fun _ => true
 pn := []
 xe := fun e s' => wpAny (model P w) (A.deeper (envOfC qual scope s.heap.objs.size f cd)) (leaving (envOfC qual scope s.heap.objs.size f cd) e) (fun _ s'' => CX outer H s E e s'') (fun e' s'' => CX outer H s E e' s'') s'
theorem ZkO {sc : Scope} {n : Nat} {x : Str} (h : sc.names.lookup x = some .cell) : ∃ c, (cellsFrom n sc.names []).lookup x = some c := by
 have q := Zch sc.names n [] (.inl h)
 exact ZbS.mp q
theorem Zl7 {CX : CXT} {P : Program} {w : World} {K : PySem.W.Frag} {mg : Str -> Option Value} {base : Heap} {N ps : List Str} {qual : Str} {scope : Scope} {f : Addr} {cd : Value} {A : Around} {outer : List Env} {s s1 : Shared} {H : Hp} {E : XK} {us : List Value} {vs : List V}
  (S : Zdh N ps scope) (hd : A.handled = none) (e0 : Zod P w K mg base A outer s H) (hl : vs.length = ps.length) (r : Zem vs us)
  (x : InCallC s s.heap.objs.size (bindL (envOfC qual scope s.heap.objs.size f cd).kindOf (ps.zip us) fun _ => none) (cellsFrom (s.heap.objs.size + 1) scope.names []) (bindC (envOfC qual scope s.heap.objs.size f cd).kindOf (ps.zip us) fun _ => none) s1) :
  Inv (Zo1 CX P w K mg base N qual scope f cd A outer s H E) [] (start N vs) H s1 := by
 have hpl : ps.length <= N.length := by have := congrArg Zaw S.pre; rw [Zax] at this; omega
 obtain ⟨h1, tk, rfl, hk⟩ := x.done
 have noA : ∀ b : Addr, b ∉ (Zo1 CX P w K mg base N qual scope f cd A outer s H E).ex := fun b z => absurd (show b ∈ ([] : List Addr) from z) (by simp)
 refine ⟨⟨e0.mod, S.kind, rfl, rfl, ZbD _, fun y z c h1 h2 => ?_, fun y hy => ?_, fun y c _ h => ?_, fun _ => hd, Around.frames_deeper e0.frames, .inr ⟨rfl, rfl⟩, fun b z => absurd z (noA b), e0.bs, e0.bsz, fun b _ _ => noA b, fun b z => absurd z (noA b), e0.funs, e0.frf⟩,
  rfl, e0.bare, Un.kept hk, ⟨_, x.toInCall.ns, fun i y v h1 h2 h3 => ?_⟩, fun y c h => ⟨_, x.cell y c h⟩, e0.hok.fresh (ZbD _), fun y c h => ?_, fun p hp => absurd (show p ∈ ([] : List (Addr × Obj)) from hp) (by simp), e0.hok.kept hk, ?_⟩
 ·exact name_of_addr x.apart (PySem.mem_of_lookup h1) (PySem.mem_of_lookup h2)
 ·have hy : scope.names.lookup y = some .cell \/ scope.names.lookup y = some .free := hy
  rcases hy with hy | hy
  ·exact ZkO hy
  ·exact absurd rfl (S.nofree _ (PySem.mem_of_lookup hy))
 ·exact ZbB (x.above y c (PySem.mem_of_lookup h))
 ·have hi : i < vs.length := by
   unfold start at h2
   by_cases hi : i < vs.length
   ·exact hi
   ·rw [Zay (by simpa using hi)] at h2
    rw [List.getElem?_replicate] at h2
    split at h2 <;> cases h2
  have ha : vs[i]? = some v := by
   unfold start at h2
   rw [Zaz (by simpa using hi), ZaA] at h2
   cases e : vs[i]? with
   | none => rw [e] at h2; cases h2
   | some a => rw [e] at h2; cases h2; rfl
  obtain ⟨u, hu, rv⟩ := r.get ha
  have hp : ps[i]? = some y := by
   rw [<- S.pre, List.getElem?_take_of_lt (by omega)]; exact h1
  have ndP : ps.Nodup := by rw [<- S.pre]; exact S.nd.sublist (List.take_sublist _ _)
  refine ⟨u, rv, ?_⟩
  rcases S.par y (ZaB hp) with k | k
  ·exact .inl ⟨k, Zjs ndP hp hu k⟩
  ·obtain ⟨c, e⟩ := ZkO (n := s.heap.objs.size + 1) k
   refine .inr ⟨.inl k, c, e, ?_⟩
   have q := x.cell y c e
   rw [Zjt ndP hp hu (by show scope.names.lookup y ≠ _; rw [k]; decide)] at q
   exact q
 ·exact e0.hok.fresh (ZbB (x.above y c (PySem.mem_of_lookup h)))
 ·unfold start
  show _ = N.length
  rw [ZaC, Zar, List.length_replicate]
  omega
theorem ZqE {CX : CXT} {P : Program} {w : World} {K : PySem.W.Frag} {mg : Str -> Option Value} {base : Heap} {k : Nat} {f : Addr} {name qual : Str} {params : Arguments} {body : List Stmt} {scope : Scope} {dV kV doc pm cdv ct oc : Value} {an od : Option Addr}
  {osl : Array (Option Value)} {N ps : List Str} {sp : Sp} (lk : K.lookup f = some ⟨oc, od, .func (Zci name qual params body scope dV kV doc pm an cdv ct), osl⟩) (hcd : Zcj K cdv qual = true) (S : Zdh N ps scope)
  (len : ∀ vs H Q E, sp vs H Q E -> vs.length = ps.length)
  (hbody : ∀ (A : Around) (outer : List Env) (s : Shared) (H : Hp) (vs : List V) (Q : VK) (E : XK), ZgC k (A.deeper (envOfC qual scope s.heap.objs.size f cdv)) -> sp vs H Q E ->
   ∃ t, PSs (Zo1 CX P w K mg base N qual scope f cdv A outer s H E) body t /\ t { nx := fun _ H' => Q .non H', rt := Q } (start N vs) H) :
  Ze0 P w K mg base CX (k + 1) f (Zci name qual params body scope dV kV doc pm an cdv ct) ps sp := by
 refine ⟨len, fun A outer s H args us vs Q E hr e0 hb r hsp => ?_⟩
 have hl := len _ _ _ _ hsp
 have KX : K.In s.heap := e0.mod.kin.keeps fun b o e => (e0.bs b o e).1
 have lim : s.heap.NoLimit := e0.mod.nolimit.keeps fun b o e => (e0.bs b o e).1
 have hkind : ∀ y ∈ ps.zip us, scope.names.lookup y.1 = some .local \/ (scope.names.lookup y.1 = some .cell /\ ((cellsFrom (s.heap.objs.size + 1) scope.names []).lookup y.1).isSome = true) := fun ⟨n, v⟩ hy => by
  rcases S.par n (Zau hy).1 with q | q
  ·exact .inl q
  ·exact .inr ⟨q, Zch _ _ _ (.inl q)⟩
 refine codeAny_call_function hr.depth (KX _ _ lk) rfl S.co S.gen rfl (PySem.W.codeRec_of KX hcd) (hb _ _ _ _ ?_)
 refine wpAny_newFunctionEnv_cells S.kind hkind fun env he s1 x => ?_
 subst he
 refine ⟨lim.keeps x.toInCall.keep, codeAny_func ?_⟩
 obtain ⟨t, ht, hq⟩ := hbody A outer s H vs Q E (hr.deeper _) hsp
 have I : Inv (Zo1 CX P w K mg base N qual scope f cdv A outer s H E) [] (start N vs) H s1 := Zl7 S hr.hd e0 hl r x
 refine wpAny_mono (ht [] s1 (start N vs) H _ I hq) (fun fl s' hs => ?_) fun e s' hs => hs
 have fin : ∀ {σ' : St} {H' : Hp} {v : V} {u : Value}, Inv (Zo1 CX P w K mg base N qual scope f cdv A outer s H E) [] σ' H' s' -> ZdU v u -> Q v H' -> CE outer P w H s Q u s' :=
  fun {σ' H' v u} J rv q => ⟨v, H', J.os, J.bare, J.base, J.hok, rv, q⟩
 cases fl with
 | ret u =>
  obtain ⟨v, σ', H', J, rv, q⟩ := hs
  exact fin J rv q
 | next =>
  obtain ⟨σ', H', J, q⟩ := hs
  exact fin (v := V.non) (u := Value.none) J rfl q
 | brk =>
  obtain ⟨_, _, _, q⟩ := hs
  exact False.elim q
 | cont =>
  obtain ⟨_, _, _, q⟩ := hs
  exact False.elim q
end L2.Internal
namespace L2.Internal
open PySem PySem.Spec PyProof.Rows
section
variable {X : Cx} {x : Str} {p pos : Pos} {e : Expr} {es : List Expr} {t : TA} {id T : String} {r : List V -> Hp -> VK -> Prop}
def tCB (r : List V -> Hp -> VK -> Prop) (t : TA) : TE := fun σ H Q => t σ H fun vs H1 => r vs H1 Q
theorem Zdq (hc : ZgD X (.builtin id) r) (hg : Gl X x) (hm : X.mg x = none) (hv : bootBuiltins x = some (.builtin id)) (ha : PA X (e :: es) t) (hn : autoParam (x ≠ "__name__") L2.Internal.auD._auto_1) (hdb : autoParam ((x == ("__debug__" : Str)) = false) L2.Internal.auD._auto_1)
  (he : autoParam (starEach (e :: es) X.env = (false, eval e X.env) :: starEach es X.env) L2.Internal.auR._auto_1) (hpl : autoParam ((backTo pos (starEach es X.env)).any (·.1) = false) L2.Internal.auR._auto_1) : PE X (.Call (.Name x p) (e :: es) [] pos) (tCB r t) := by
 intro pins s σ H Q I h
 refine wpAny_Call_Name_kw (Zjn I hg hm hv ?_ hn hdb)
 exact PyProof.Rows.callWith_builtin1 (thn (ha pos pins s σ H _ I h) fun us s1 ⟨vs, H1, I1, r1, q1⟩ => hc pins s1 σ H1 vs us Q I1 r1 q1) he hpl
theorem ZeP (hc : ZgD X (.type T) r) (hg : Gl X x) (hm : X.mg x = none) (hv : bootBuiltins x = some (.type T)) (ha : PA X (e :: es) t) (hn : autoParam (x ≠ "__name__") L2.Internal.auD._auto_1) (hdb : autoParam ((x == ("__debug__" : Str)) = false) L2.Internal.auD._auto_1)
  (he : autoParam (starEach (e :: es) X.env = (false, eval e X.env) :: starEach es X.env) L2.Internal.auR._auto_1) (hpl : autoParam ((backTo pos (starEach es X.env)).any (·.1) = false) L2.Internal.auR._auto_1) : PE X (.Call (.Name x p) (e :: es) [] pos) (tCB r t) := by
 intro pins s σ H Q I h
 refine wpAny_Call_Name_kw (Zjn I hg hm hv ?_ hn hdb)
 exact ZcS (thn (ha pos pins s σ H _ I h) fun us s1 ⟨vs, H1, I1, r1, q1⟩ => hc pins s1 σ H1 vs us Q I1 r1 q1) he hpl
end
end L2.Internal
namespace L2.Internal
open PySem PySem.Spec PyProof.Rows
section
variable {κ : Type} [DecidableEq κ]
noncomputable def ZeO (kvs : List (κ × V)) (k : κ) : Option V := (kvs.find? fun kv => decide (kv.1 = k)).map (·.2)
noncomputable def Zfa (kvs : List (κ × V)) (k : κ) (v : V) : List (κ × V) :=
 if (kvs.any fun kv => decide (kv.1 = k)) = true then kvs.map (fun kv => if kv.1 = k then (kv.1, v) else kv) else kvs ++ [(k, v)]
theorem ZeI {p : κ × V} {r : List (κ × V)} {k : κ} (e : p.1 = k) : ZeO (p :: r) k = some p.2 := by simp [ZeO, ZaD, e]
theorem Zed {p : κ × V} {r : List (κ × V)} {k : κ} (e : ¬ p.1 = k) : ZeO (p :: r) k = ZeO r k := by simp [ZeO, ZaD, e]
theorem Zgc (k : κ) : ∀ kvs : List (κ × V), (kvs.any fun kv => decide (kv.1 = k)) = (ZeO kvs k).isSome
 | [] => rfl
 | p :: r => by
  rw [ZaE]
  by_cases e : p.1 = k
  ·simp only [ZeI e, decide_eq_true e, Bool.true_or, Option.isSome_some]
  ·rw [Zed e, decide_eq_false e, Bool.false_or]; exact Zgc k r
theorem ZkP (k j : κ) (y : V) : ∀ kvs : List (κ × V), ZeO (kvs.map fun kv => if kv.1 = k then (kv.1, y) else kv) j = (ZeO kvs j).map fun x => if j = k then y else x
 | [] => rfl
 | p :: r => by
  have ih := ZkP k j y r
  rw [Zaq]
  by_cases h : p.1 = k
  ·rw [if_pos h]
   by_cases e : p.1 = j
   ·rw [ZeI (p := (p.1, y)) e, ZeI e, ZbT, if_pos (e.symm.trans h)]
   ·rw [Zed (p := (p.1, y)) e, Zed e, ih]
  ·rw [if_neg h]
   by_cases e : p.1 = j
   ·rw [ZeI (p := p) e, ZeI e, ZbT, if_neg (fun z => h (e.trans z))]
   ·rw [Zed (p := p) e, Zed e, ih]
theorem Zju (k j : κ) (y : V) : ∀ kvs : List (κ × V), ZeO kvs k = none -> ZeO (kvs ++ [(k, y)]) j = if j = k then some y else ZeO kvs j
 | [], _ => by
  by_cases e : k = j
  ·rw [if_pos e.symm]; exact ZeI (p := (k, y)) e
  ·rw [if_neg (fun z => e z.symm)]; exact Zed (p := (k, y)) e
 | p :: r, hn => by
  rw [ZaF]
  have hk : ¬ p.1 = k := fun z => by rw [ZeI z] at hn; cases hn
  rw [Zed hk] at hn
  have ih := Zju k j y r hn
  by_cases e : p.1 = j
  ·rw [ZeI e, ZeI e, if_neg (fun z => hk (e.trans z))]
  ·rw [Zed e, Zed e, ih]
theorem Zfp (kvs : List (κ × V)) (k j : κ) (y : V) : ZeO (Zfa kvs k y) j = if j = k then some y else ZeO kvs j := by
 unfold Zfa
 by_cases a : (kvs.any fun kv => decide (kv.1 = k)) = true
 ·rw [if_pos a, ZkP]
  rw [Zgc] at a
  by_cases e : j = k
  ·obtain ⟨x, hx⟩ := ZbS.mp a
   rw [if_pos e, e, hx, ZbT, if_pos rfl]
  ·rw [if_neg e]
   cases ZeO kvs j with
   | none => rfl
   | some x => rw [ZbT, if_neg e]
 ·rw [if_neg a]
  refine Zju k j y kvs ?_
  rw [Zgc] at a
  cases q : ZeO kvs k with
  | none => rfl
  | some x => rw [q] at a; exact (a rfl).elim
theorem ZdP (kvs : List (κ × V)) (k : κ) (v : V) : (Zfa kvs k v).length <= kvs.length + 1 := by
 unfold Zfa
 split
 ·rw [Zar]; omega
 ·rw [ZaC, Zao, ZaG]; omega
theorem Zjl.isSome_eq {o : Option V} {u : Option Value} (r : Zjl o u) : o.isSome = u.isSome := by
 cases o with
 | none => cases u with
  | none => rfl
  | some _ => exact (show False from r).elim
 | some _ => cases u with
  | none => exact (show False from r).elim
  | some _ => rfl
theorem Zjl.getD {o : Option V} {u : Option Value} {d : V} {d' : Value} (r : Zjl o u) (rd : ZdU d d') : ZdU (o.getD d) (u.getD d') := by
 cases o with
 | none => cases u with
  | none => exact rd
  | some _ => exact (show False from r).elim
 | some _ => cases u with
  | none => exact (show False from r).elim
  | some _ => exact r
theorem KV.val {kvs : List (κ × V)} {vs : List (κ × Value)} (r : KV kvs vs) (k : κ) : Zjl (ZeO kvs k) (valueAt vs k) := by
 unfold KV at r
 induction r with
 | nil => exact True.intro
 | @cons p q ps qs h t ih =>
  obtain ⟨h1, h2⟩ := h
  by_cases e : p.1 = k
  ·have e' : q.1 = k := h1.symm.trans e
   have b : valueAt (q :: qs) k = some q.2 := by simp [valueAt, ZaD, e']
   rw [ZeI e, b]; exact h2
  ·have e' : ¬ q.1 = k := fun z => e (h1.trans z)
   have b : valueAt (q :: qs) k = valueAt qs k := by simp [valueAt, ZaD, e']
   rw [Zed e, b]; exact ih
theorem KV.any {kvs : List (κ × V)} {vs : List (κ × Value)} (r : KV kvs vs) (k : κ) : (kvs.any fun kv => decide (kv.1 = k)) = vs.any fun kv => decide (kv.1 = k) := by
 unfold KV at r
 induction r with
 | nil => rfl
 | cons h t ih => rw [ZaE, ZaE, ih, h.1]
theorem KV.repl {kvs : List (κ × V)} {vs : List (κ × Value)} (r : KV kvs vs) (k : κ) {y : V} {u : Value} (ry : ZdU y u) :
  KV (kvs.map fun kv => if kv.1 = k then (kv.1, y) else kv) (vs.map fun kv => if kv.1 = k then (kv.1, u) else kv) := by
 unfold KV at r ⊢
 induction r with
 | nil => exact .nil
 | @cons p q ps qs h t ih =>
  rw [Zaq, Zaq]
  refine .cons ?_ ih
  obtain ⟨h1, h2⟩ := h
  by_cases e : p.1 = k
  ·rw [if_pos e, if_pos (h1.symm.trans e)]; exact ⟨h1, ry⟩
  ·rw [if_neg e, if_neg (fun z => e (h1.trans z))]; exact ⟨h1, h2⟩
theorem KV.put {kvs : List (κ × V)} {vs : List (κ × Value)} (r : KV kvs vs) (k : κ) {y : V} {u : Value} (ry : ZdU y u) : KV (Zfa kvs k y) (stored vs k u) := by
 unfold Zfa stored
 rw [r.any k]
 by_cases e : (vs.any fun kv => decide (kv.1 = k)) = true
 ·rw [if_pos e, if_pos e]; exact r.repl k ry
 ·rw [if_neg e, if_neg e]; exact Paired.snoc r ⟨rfl, ry⟩
theorem KV.length {kvs : List (κ × V)} {vs : List (κ × Value)} (r : KV kvs vs) : kvs.length = vs.length := Paired.length r
end
theorem Ziy {P : Program} {w : World} {k : Key} {u : Value} (r : ZdU (kV k) u) : (Zd4 P w).is k u = true := by
 cases k with
 | inl i => obtain ⟨t, e⟩ := (show ∃ t, u = Value.int i t from r); subst e; exact Zj4 P w i t
 | inr x => obtain ⟨t, e⟩ := (show ∃ t, u = Value.str x t from r); subst e; exact Zj5 P w x t
theorem Zjv {P : Program} {w : World} : ∀ {ks : List Key} {us : List Value}, Zem (ks.map kV) us -> ItemsAre (Zd4 P w) ks us
 | [], _, r => by rw [ZaH] at r; cases r; exact .nil
 | k :: ks, _, r => by
  rw [Zaq] at r
  cases r with
  | cons h t => exact .cons (Ziy h) (Zjv t)
noncomputable abbrev KT (H : Hp) : List (List Key × V) -> List (List Key × Addr × Value) -> Prop := Paired fun p q => p.1 = q.1 /\ H q.2.1 = some (.tup (p.1.map kV)) /\ ZdU p.2 q.2.2
theorem KT.val {H : Hp} {kvs : List (List Key × V)} {xs : List (List Key × Addr × Value)} (r : KT H kvs xs) (k : List Key) : Zjl (ZeO kvs k) ((atKey xs k).map (·.2)) := by
 induction r with
 | nil => exact True.intro
 | @cons p q ps qs h t ih =>
  obtain ⟨h1, _, h2⟩ := h
  by_cases e : p.1 = k
  ·have e' : q.1 = k := h1.symm.trans e
   have b : atKey (q :: qs) k = some q.2 := by simp [atKey, ZaD, e']
   rw [ZeI e, b]; exact h2
  ·have e' : ¬ q.1 = k := fun z => e (h1.trans z)
   have b : atKey (q :: qs) k = atKey qs k := by simp [atKey, ZaD, e']
   rw [Zed e, b]; exact ih
theorem KT.repl {H : Hp} {kvs : List (List Key × V)} {xs : List (List Key × Addr × Value)} (r : KT H kvs xs) (k : List Key) {y : V} {u : Value} (ry : ZdU y u) :
  KT H (kvs.map fun kv => if kv.1 = k then (kv.1, y) else kv) (xs.map (putAt k u)) := by
 induction r with
 | nil => exact .nil
 | @cons p q ps qs h t ih =>
  rw [Zaq, Zaq]
  refine .cons ?_ ih
  obtain ⟨h1, h2, h3⟩ := h
  unfold putAt
  by_cases e : p.1 = k
  ·rw [if_pos e, if_pos (h1.symm.trans e)]; exact ⟨h1, h2, ry⟩
  ·rw [if_neg e, if_neg (fun z => e (h1.trans z))]; exact ⟨h1, h2, h3⟩
theorem KT.put {H : Hp} {kvs : List (List Key × V)} {xs : List (List Key × Addr × Value)} (r : KT H kvs xs) (k : List Key) {b : Addr} {y : V} {u : Value} (hb : H b = some (.tup (k.map kV))) (ry : ZdU y u) :
  KT H (Zfa kvs k y) (storedH xs k b u) := by
 have e : (kvs.any fun kv => decide (kv.1 = k)) = (atKey xs k).isSome := by
  rw [Zgc, (r.val k).isSome_eq, ZbU]
 unfold Zfa storedH
 rw [e]
 by_cases q : (atKey xs k).isSome = true
 ·rw [if_pos q, if_pos q]; exact r.repl k ry
 ·rw [if_neg q, if_neg q]; exact Paired.snoc r ⟨rfl, hb, ry⟩
theorem KT.keeps {H H' : Hp} {kvs : List (List Key × V)} {xs : List (List Key × Addr × Value)} (r : KT H kvs xs) (ht : ∀ b ys, H b = some (.tup ys) -> H' b = some (.tup ys)) : KT H' kvs xs :=
 Paired.mapP r fun _ _ z => ⟨z.1, ht _ _ z.2.1, z.2.2⟩
section
variable {P : Program} {w : World} {H : Hp} {h : Heap} {a : Addr}
theorem Zpo {u : HO} (ok : HOk P w H h) (e : Rd H a u) : ZeN P w H h a u := e.ok ok
theorem Zj7 {kvs : List (Key × V)} (ok : HOk P w H h) (e : Rd H a (.dK kvs)) : kvs.length <= sizeLine /\ (a == sysModules) = false /\ ∃ vs, KV kvs vs /\ h.DictOf (Zd4 P w) a vs :=
 show ZeN P w H h a (.dK kvs) from Zpo ok e
theorem Zna {kvs : List (Key × V)} (ok : HOk P w H h) (e : H a = some (.dK kvs)) : kvs.length <= sizeLine /\ (a == sysModules) = false /\ ∃ vs, KV kvs vs /\ h.DictOf (Zd4 P w) a vs := Zj7 ok (.inl e)
theorem Zil {ks : List Key} (ok : HOk P w H h) (e : H a = some (.tup (ks.map kV))) : (tupleKind (Zd4 P w)).is h ks a := by
 obtain ⟨_, its, r, o, h1, h2, n, h3, _⟩ := (show ZeN P w H h a (.tup (ks.map kV)) from ok a _ e)
 exact ⟨o, its.toArray, n, h1, h2, h3, by simpa using Zjv r⟩
theorem Zj8 {kvs : List (List Key × V)} (ok : HOk P w H h) (e : Rd H a (.dT kvs)) : kvs.length <= sizeLine /\ (a == sysModules) = false /\
  ∃ xs, KT H kvs xs /\ h.DictOfH (tupleKind (Zd4 P w)) a xs := by
 obtain ⟨z, y, xs, r, o, es, ep, h1, h2, h3, h4, h5⟩ := (show ZeN P w H h a (.dT kvs) from Zpo ok e)
 refine ⟨z, y, xs, r, o, es, ep, h1, h2, h3, h4, fun x hx => ?_, h5⟩
 have all : ∀ {l : List (List Key × V)} {m : List (List Key × Addr × Value)}, KT H l m -> ∀ x ∈ m, (tupleKind (Zd4 P w)).is h x.1 x.2.1 := by
  intro l m q
  induction q with
  | nil => intro x hx; exact nomatch hx
  | @cons p q ps qs hq t ih =>
   intro x hx
   rcases Zag.mp hx with e | hx
   ·subst e
    exact Zil ok (by rw [<- hq.1]; exact hq.2.1)
   ·exact ih x hx
 exact all r x hx
theorem ZqF {kvs : List (List Key × V)} (ok : HOk P w H h) (e : H a = some (.dT kvs)) : kvs.length <= sizeLine /\ (a == sysModules) = false /\
  ∃ xs, KT H kvs xs /\ h.DictOfH (tupleKind (Zd4 P w)) a xs := Zj8 ok (.inl e)
end
def ZgF (H : Hp) (a : Addr) (y : V) (r : Option V) : Prop :=
 (∃ kvs k, Rd H a (.dK kvs) /\ y = kV k /\ r = ZeO kvs k) \/ ∃ kvs k b, Rd H a (.dT kvs) /\ y = .ref b /\ H b = some (.tup (k.map kV)) /\ r = ZeO kvs k
def ZlN (H : Hp) (a : Addr) (y v : V) (H' : Hp) : Prop :=
 (∃ kvs k, H a = some (.dK kvs) /\ y = kV k /\ kvs.length < sizeLine /\ H' = upd H a (.dK (Zfa kvs k v))) \/
 ∃ kvs k b, H a = some (.dT kvs) /\ y = .ref b /\ H b = some (.tup (k.map kV)) /\ kvs.length < sizeLine /\ H' = upd H a (.dT (Zfa kvs k v))
theorem ZgF.k {H : Hp} {a : Addr} {kvs : List (Key × V)} {k : Key} (e : H a = some (.dK kvs)) : ZgF H a (kV k) (ZeO kvs k) := .inl ⟨kvs, k, .inl e, rfl, rfl⟩
theorem ZgF.t {H : Hp} {a b : Addr} {kvs : List (List Key × V)} {k : List Key} (e : H a = some (.dT kvs)) (eb : H b = some (.tup (k.map kV))) : ZgF H a (.ref b) (ZeO kvs k) := .inr ⟨kvs, k, b, .inl e, rfl, eb, rfl⟩
theorem ZlN.k {H : Hp} {a : Addr} {kvs : List (Key × V)} {k : Key} {v : V} (e : H a = some (.dK kvs)) (hl : kvs.length < sizeLine) : ZlN H a (kV k) v (upd H a (.dK (Zfa kvs k v))) := .inl ⟨kvs, k, e, rfl, hl, rfl⟩
theorem ZlN.t {H : Hp} {a b : Addr} {kvs : List (List Key × V)} {k : List Key} {v : V} (e : H a = some (.dT kvs)) (eb : H b = some (.tup (k.map kV))) (hl : kvs.length < sizeLine) :
  ZlN H a (.ref b) v (upd H a (.dT (Zfa kvs k v))) := .inr ⟨kvs, k, b, e, rfl, eb, hl, rfl⟩
section
variable {X : Cx} {pins : List (Addr × Obj)} {σ : St} {H : Hp} {s : Shared} {a : Addr} {y v : V} {u r : Value} {o : Option V} {A : Around} {E : Value -> Shared -> Prop}
theorem Inv.big (I : Inv X pins σ H s) : sysModules < s.heap.objs.size := by
 have h : mainGlobals < s.heap.objs.size := (I.mod.glob.keeps I.bk).lt
 exact Nat.lt_trans (by decide) h
theorem Zl8 {Q : Value -> Shared -> Prop} (hu : A.units + 1 < cLine) (I : Inv X pins σ H s) (g : ZgF H a y (some v)) (ry : ZdU y u) (h : ∀ w' s', Inv X pins σ H s' -> ZdU v w' -> Q w' s') :
  wpAny (model X.prog X.w) A (getItem (.ref a) u) Q E s := by
 rcases g with ⟨kvs, k, e, ey, l⟩ | ⟨kvs, k, b, e, ey, eb, l⟩
 ·subst ey
  obtain ⟨z, hd, vs, rel, dd⟩ := Zj7 I.hok e
  obtain ⟨w', hw, rw'⟩ := Zjl.some_of (v := v) (o := valueAt vs k) (by rw [l]; exact rel.val k)
  exact wpAny_getItem_of (Ziy ry) dd.mapOf hw (h w' _ (I.tok _) rw')
 ·subst ey
  cases (show u = Value.ref b from ry)
  obtain ⟨z, hd, xs, rel, dd⟩ := Zj8 I.hok e
  obtain ⟨w', hw, rw'⟩ := Zjl.some_of (v := v) (o := (atKey xs k).map (·.2)) (by rw [l]; exact rel.val k)
  obtain ⟨p, hp, hp2⟩ := ZbV.mp hw
  refine wpAny_getItem_heap (tupleKind_room_in1 hu) (Zil I.hok eb) dd hp ?_
  rw [hp2]
  exact h w' _ (I.tok _) rw'
theorem d_in {Q : Value -> Shared -> Prop} (hu : A.units + 1 < cLine) (I : Inv X pins σ H s) (g : ZgF H a y o) (ry : ZdU y u) (h : ∀ s', Inv X pins σ H s' -> Q (.bool o.isSome) s') :
  wpAny (model X.prog X.w) A (compareOp .In u (.ref a)) Q E s := by
 rcases g with ⟨kvs, k, e, ey, l⟩ | ⟨kvs, k, b, e, ey, eb, l⟩
 ·subst ey
  obtain ⟨z, hd, vs, rel, dd⟩ := Zj7 I.hok e
  refine wpAny_in_of (Ziy ry) hd dd.mapOf ?_
  rw [<- (rel.val k).isSome_eq, <- l]
  exact h _ (I.tok _)
 ·subst ey
  cases (show u = Value.ref b from ry)
  obtain ⟨z, hd, xs, rel, dd⟩ := Zj8 I.hok e
  refine wpAny_in_heap (tupleKind_room_in1 hu) (Zil I.hok eb) hd dd ?_
  have q := (rel.val k).isSome_eq
  rw [ZbU] at q
  rw [<- q, <- l]
  exact h _ (I.tok _)
theorem Zoe {Q : Value -> Shared -> Prop} (hu : A.units + 1 < cLine) (I : Inv X pins σ H s) (g : ZgF H a y o) (ry : ZdU y u) (h : ∀ s', Inv X pins σ H s' -> Q (.bool (!o.isSome)) s') :
  wpAny (model X.prog X.w) A (compareOp .NotIn u (.ref a)) Q E s := by
 rcases g with ⟨kvs, k, e, ey, l⟩ | ⟨kvs, k, b, e, ey, eb, l⟩
 ·subst ey
  obtain ⟨z, hd, vs, rel, dd⟩ := Zj7 I.hok e
  refine wpAny_notIn_of (Ziy ry) hd dd.mapOf ?_
  rw [<- (rel.val k).isSome_eq, <- l]
  exact h _ (I.tok _)
 ·subst ey
  cases (show u = Value.ref b from ry)
  obtain ⟨z, hd, xs, rel, dd⟩ := Zj8 I.hok e
  refine wpAny_notIn_heap (tupleKind_room_in1 hu) (Zil I.hok eb) hd dd ?_
  have q := (rel.val k).isSome_eq
  rw [ZbU] at q
  rw [<- q, <- l]
  exact h _ (I.tok _)
theorem Zhw {h' : Heap} {t' : Nat} {ob : HO} (I : Inv X pins σ H s) (mu : Mut (H a)) (hs : Heap.SameBut a s.heap h') (he : ∃ q, h'.get? a = some q) (new : ZeN X.prog X.w (upd H a ob) h' a ob) :
  Inv X pins σ (upd H a ob) { s with heap := h', toks := t' } :=
 I.write (x := a) (e := a) mu (.inl rfl) (fun b q hb z => (hs.2 b hb).trans z) he new
theorem Zjw {P : Program} {w : World} {H' : Hp} {h' : Heap} {kvs : List (Key × V)} {vs : List (Key × Value)} (z : kvs.length <= sizeLine) (hd : (a == sysModules) = false) (rel : KV kvs vs) (dd : h'.DictOf (Zd4 P w) a vs) :
  ZeN P w H' h' a (.dK kvs) := ⟨z, hd, vs, rel, dd⟩
theorem Zl9 {H' : Hp} {Q : Unit -> Shared -> Prop} (hu : A.units + 1 < cLine) (I : Inv X pins σ H s) (g : ZlN H a y v H') (ry : ZdU y u) (rv : ZdU v r) (h : ∀ s', Inv X pins σ H' s' -> Q () s') :
  wpAny (model X.prog X.w) A (setItem (.ref a) u r) Q E s := by
 rcases g with ⟨kvs, k, e, ey, l, eH⟩ | ⟨kvs, k, b, e, ey, eb, l, eH⟩
 ·subst ey eH
  obtain ⟨z, hd, vs, rel, dd⟩ := Zna I.hok e
  have hz : vs.length <= sizeLine := by rw [<- rel.length]; exact z
  have hl : (Zfa kvs k v).length <= sizeLine := by have := ZdP kvs k v; omega
  refine wpAny_setItem_pairs (hsz := hz) (Ziy ry) dd fun h' dd' hs => h _ ?_
  have he : ∃ q, h'.get? a = some q := let ⟨q, _, _, hq, _⟩ := dd'; ⟨q, hq⟩
  exact Zhw I (by rw [e]; exact True.intro) hs he (Zjw hl hd (rel.put k rv) dd')
 ·subst ey eH
  cases (show u = Value.ref b from ry)
  obtain ⟨z, hd, xs, rel, dd⟩ := ZqF I.hok e
  have hz : xs.length <= sizeLine := by rw [<- Paired.length rel]; exact z
  have hl : (Zfa kvs k v).length <= sizeLine := by have := ZdP kvs k v; omega
  refine wpAny_setItem_heap (hsz := hz) (tupleKind_room_in1 hu) (Zil I.hok eb) dd fun h' dd' hs => h _ ?_
  obtain ⟨q, es, ep, hq, h2, h3, h4, _, h5⟩ := dd'
  refine Zhw I (by rw [e]; exact True.intro) hs ⟨q, hq⟩ ⟨hl, hd, _, (rel.put k eb rv).keeps fun c ys ec => ?_, q, es, ep, hq, h2, h3, h4, h5⟩
  rw [Zc6 (Zdx ec e (fun z => nomatch z))]
  exact ec
end
section
variable {X : Cx} {pins : List (Addr × Obj)} {σ : St} {H : Hp} {s : Shared} {a : Addr} {kvs : List (Key × V)} {k : Key} {u : Value} {A : Around} {E : Value -> Shared -> Prop}
end
def Zro (i : Expr) : Prop := ∀ ov iv, subscripted i false ov iv = operate [ov, iv] (getItem ov iv)
theorem Zof {prog : Program} {w : World} {A : Around} {E : Value -> Shared -> Prop} {s : Shared} {env : Env} {value slice : Expr} {pos : Pos} {T id : String} {Q : Value -> Shared -> Prop}
  (hl : typeLookup (.type T) "__getitem__" = pure (some (.builtin id))) (hs : Zro slice)
  (h : wpAny (model prog w) A (eval value env) (fun o s₁ => wpAny (model prog w) A (eval slice env) (fun i s₂ => s₂.TypeIs o T /\ wpAny (model prog w) A (getItem o i) Q E s₂) E s₁) E s) :
  wpAny (model prog w) A (eval (.Subscript value slice pos) env) Q E s := by
 refine Subscript_ (wpAny_mono h (fun o s₁ h₁ => wpAny_mono h₁ (fun i s₂ h₂ => ?_) fun _ _ x => x) fun _ _ x => x)
 obtain ⟨hT, h₂⟩ := h₂
 unfold subscriptTail
 refine wpAny_bind ?_
 rw [getitemInPython_of_ne hT.not_modules]
 refine wpAny_bind (wpAny_specialOf hT hl ?_)
 have fin : wpAny (model prog w) A (subscripted slice false o i) (fun r s₃ => wpAny (model prog w) A (letTemporaryGo value o r >>= fun _ => pure r) Q E s₃) E s₂ := by
  rw [hs o i]
  exact wpAny_operating (wpAny_mono h₂ (fun r s₃ h₃ => wpAny_bind (wpAny_letTemporaryGo (wpAny_pure h₃))) fun _ _ x => x)
 first
  | exact wpAny_pure (wpAny_bind fin)
  | exact wpAny_bind (wpAny_pure (wpAny_bind fin))
  | exact wpAny_bind fin
theorem Zj9 {X : Cx} {pins : List (Addr × Obj)} {σ : St} {H : Hp} {s : Shared} {a : Addr} {y : V} {o : Option V} (I : Inv X pins σ H s) (g : ZgF H a y o) : s.TypeIs (.ref a) "dict" := by
 rcases g with ⟨kvs, k, e, _, _⟩ | ⟨kvs, k, b, e, _, _, _⟩
 ·obtain ⟨_, _, vs, _, dd⟩ := Zj7 I.hok e
  exact dd.typeIs
 ·obtain ⟨_, _, xs, _, dd⟩ := Zj8 I.hok e
  exact dd.typeIs
def ZqG (td ty : TE) : TE := fun σ H Q => td σ H fun x H1 => ty σ H1 fun y H2 => ∃ a v, x = .ref a /\ ZgF H2 a y (some v) /\ Q v H2
def tDIn (ty td : TE) : TE := fun σ H Q => ty σ H fun y H1 => td σ H1 fun x H2 => ∃ a o, x = .ref a /\ ZgF H2 a y o /\ Q (.bl o.isSome) H2
def Zog (ty td : TE) : TE := fun σ H Q => ty σ H fun y H1 => td σ H1 fun x H2 => ∃ a o, x = .ref a /\ ZgF H2 a y o /\ Q (.bl (!o.isSome)) H2
noncomputable def ZqH (td ty tv : TE) : TS.Internal := fun D σ H => tv σ H fun v H1 => td σ H1 fun x H2 => ty σ H2 fun y H3 => ∃ a H4, x = .ref a /\ ZlN H3 a y v H4 /\ D.nx σ H4
section
variable {X : Cx} {o i e value : Expr} {pos pos' tpos : Pos} {td ty tv : TE}
theorem Zgq (hu : X.A.units + 1 < cLine) (ho : PE X o td) (hi : PE X i ty) (hs : Zro i) : PE X (.Subscript o i pos) (ZqG td ty) := by
 intro pins s σ H Q I h
 refine Zof PySem.F.slot_dict_getitem.lookup hs (thn (ho pins s σ H _ I h) fun u s1 ⟨x, H1, I1, rx, q1⟩ => thn (hi pins s1 σ H1 _ I1 q1) fun iv s2 ⟨y, H2, I2, ry, a, v, ex, g, q2⟩ => ?_)
 subst ex
 obtain rfl : u = Value.ref a := rx
 exact ⟨Zj9 I2 g, Zl8 hu I2 g ry fun w' s3 I3 rw' => ⟨v, H2, I3, rw', q2⟩⟩
theorem ZnH (hu : X.A.units + 1 < cLine) (hi : PE X i ty) (ho : PE X o td) : PC X .In i o (tDIn ty td) := by
 intro pins s σ H Q I h
 refine thn (hi pins s σ H _ I h) fun iv s1 ⟨y, H1, I1, ry, q1⟩ => thn (ho pins s1 σ H1 _ I1 q1) fun u s2 ⟨x, H2, I2, rx, a, ov, ex, g, q2⟩ => ?_
 subst ex
 obtain rfl : u = Value.ref a := rx
 exact d_in hu I2 g ry fun s3 I3 => ⟨.bl ov.isSome, H2, I3, rfl, q2⟩
theorem ZfX (hu : X.A.units + 1 < cLine) (hi : PE X i ty) (ho : PE X o td) : PC X .NotIn i o (Zog ty td) := by
 intro pins s σ H Q I h
 refine thn (hi pins s σ H _ I h) fun iv s1 ⟨y, H1, I1, ry, q1⟩ => thn (ho pins s1 σ H1 _ I1 q1) fun u s2 ⟨x, H2, I2, rx, a, ov, ex, g, q2⟩ => ?_
 subst ex
 obtain rfl : u = Value.ref a := rx
 exact Zoe hu I2 g ry fun s3 I3 => ⟨.bl (!ov.isSome), H2, I3, rfl, q2⟩
theorem ZgZ (hu : X.A.units + 1 < cLine) (ho : PE X o td) (hi : PE X i ty) (hv : PE X value tv) (hs : swapsWith value (some (.Subscript o i pos')) pos.line X.env = pure false) :
  PS X (.Assign [.Subscript o i pos'] value pos) (ZqH td ty tv) := by
 intro pins s σ H D I h
 refine wpAny_Assign_Subscript (thn (hv pins s σ H _ I h) fun r s1 ⟨v, H1, I1, rv, q1⟩ => thn (ho pins s1 σ H1 _ I1 q1) fun u s2 ⟨x, H2, I2, rx, q2⟩ => thn (hi pins s2 σ H2 _ I2 q2) fun iv s3 ⟨y, H3, I3, ry, a, H4, ex, g, q3⟩ => ?_) hs
 subst ex
 obtain rfl : u = Value.ref a := rx
 exact Zl9 hu I3 g ry rv fun s4 I4 => ⟨σ, H4, I4, q3⟩
end
theorem ZkQ {P : Program} {w : World} {H : Hp} (h : Heap) (hb : sysModules < h.objs.size) : ZeN P w H (h.push { cls := .type "dict", data := .dict #[] }) h.objs.size (.dK []) :=
 ⟨ZbE _, beq_eq_false_iff_ne.mpr (Ne.symm (Zbz hb)), [], .nil, Heap.DictOf.new h⟩
theorem Znb {P : Program} {w : World} {H : Hp} (h : Heap) (hb : sysModules < h.objs.size) : ZeN P w H (h.push { cls := .type "dict", data := .dict #[] }) h.objs.size (.dT []) :=
 ⟨ZbE _, beq_eq_false_iff_ne.mpr (Ne.symm (Zbz hb)), [], .nil, _, #[], 0, ZcO _ rfl, ⟨rfl, rfl, rfl⟩, rfl, rfl, ZaI⟩
def Zpp : TE := fun _ H Q => ∀ p, H p = none -> Q (.ref p) (upd H p (.dK []))
def Zpq : TE := fun _ H Q => ∀ p, H p = none -> Q (.ref p) (upd H p (.dT []))
section
variable {X : Cx} {pos : Pos}
theorem ZgG : PE X (.Dict [] [] pos) Zpp := fun pins s σ H Q I h =>
 wpAny_Dict_empty ⟨.ref s.heap.objs.size, _, I.laid (a := s.heap.objs.size) (o := .dK []) (t' := s.toks) (fun _ _ q => ZcP _ q) (ZbD _) (ZkQ s.heap I.big), rfl, h _ (I.hok.fresh (ZbD _))⟩
theorem ZkR : PE X (.Dict [] [] pos) Zpq := fun pins s σ H Q I h =>
 wpAny_Dict_empty ⟨.ref s.heap.objs.size, _, I.laid (a := s.heap.objs.size) (o := .dT []) (t' := s.toks) (fun _ _ q => ZcP _ q) (ZbD _) (Znb s.heap I.big), rfl, h _ (I.hok.fresh (ZbD _))⟩
end
noncomputable def Zma : List (TE × TE) -> St -> Hp -> (List (V × V) -> Hp -> Prop) -> Prop
 | [], _, H, Q => Q [] H
 | (tk, tv) :: r, σ, H, Q => tk σ H fun x H1 => tv σ H1 fun y H2 => Zma r σ H2 fun ps H3 => Q ((x, y) :: ps) H3
noncomputable abbrev VV : List (V × V) -> List (Value × Value) -> Prop := Paired fun p q => ZdU p.1 q.1 /\ ZdU p.2 q.2
def PPs (X : Cx) (pos : Pos) (keys : List (Option Expr)) (values : List Expr) (trs : List (TE × TE)) : Prop :=
 ∀ (pins : List (Addr × Obj)) (s : Shared) (σ : St) (H : Hp) (Q : List (V × V) -> Hp -> Prop), Inv X pins σ H s -> Zma trs σ H Q ->
  wpAny (model X.prog X.w) X.A (evalPairs (pairTrees keys values X.env pos)) (fun vs s' => ∃ ps H', Inv X pins σ H' s' /\ VV ps vs /\ Q ps H') X.xe s
theorem Zoh {X : Cx} {pos : Pos} : PPs X pos [] [] [] := fun pins s σ H Q I h => pairTrees_nil_walk ⟨[], H, I, .nil, h⟩
theorem Znc {X : Cx} {pos : Pos} {k v : Expr} {ks : List (Option Expr)} {vs : List Expr} {tk tv : TE} {trs : List (TE × TE)} (hk : PE X k tk) (hv : PE X v tv) (hr : PPs X pos ks vs trs) :
  PPs X pos (some k :: ks) (v :: vs) ((tk, tv) :: trs) := fun pins s σ H Q I h =>
 pairTrees_cons_walk (thn (hk pins s σ H _ I h) fun u s1 ⟨x, H1, I1, rx, q1⟩ => thn (hv pins s1 σ H1 _ I1 q1) fun w2 s2 ⟨y, H2, I2, ry, q2⟩ =>
  thn (hr pins s2 σ H2 _ I2 q2) fun ws s3 ⟨ps, H3, I3, rel, q3⟩ => ⟨(x, y) :: ps, H3, I3, .cons ⟨rx, ry⟩ rel, q3⟩)
noncomputable def Zd5 (kvs more : List (Key × V)) : List (Key × V) := more.foldl (fun acc kv => Zfa acc kv.1 kv.2) kvs
theorem KV.merge : ∀ {more : List (Key × V)} {rs : List (Key × Value)} {kvs : List (Key × V)} {vs : List (Key × Value)}, KV more rs -> KV kvs vs -> KV (Zd5 kvs more) (merged vs rs) := by
 intro more rs kvs vs r
 unfold KV at r
 induction r generalizing kvs vs with
 | nil => intro q; exact q
 | @cons p q ps qs h t ih =>
  intro r0
  have e : KV (Zfa kvs p.1 p.2) (stored vs q.1 q.2) := by
   have := r0.put p.1 h.2
   rw [<- h.1]; exact this
  exact ih e
theorem ZgH : ∀ (more kvs : List (Key × V)), (Zd5 kvs more).length <= kvs.length + more.length
 | [], kvs => by show kvs.length <= kvs.length + 0; omega
 | p :: r, kvs => by
  have h1 := ZgH r (Zfa kvs p.1 p.2)
  have h2 := ZdP kvs p.1 p.2
  show (Zd5 (Zfa kvs p.1 p.2) r).length <= _
  rw [Zao]; omega
theorem Zim {P : Program} {w : World} : ∀ {kvs : List (Key × V)} {ws : List (Value × Value)}, VV (kvs.map fun kv => (kV kv.1, kv.2)) ws -> ∃ rs, Carries (Zd4 P w) ws rs /\ KV kvs rs
 | [], _, r => by rw [ZaH] at r; cases r; exact ⟨[], True.intro, .nil⟩
 | p :: kvs, _, r => by
  rw [Zaq] at r
  cases r with
  | @cons a b as bs h t =>
   obtain ⟨rs, c, q⟩ := Zim (P := P) (w := w) t
   obtain ⟨b1, b2⟩ := b
   exact ⟨(p.1, b2) :: rs, ⟨Ziy h.1, rfl, c⟩, .cons ⟨rfl, h.2⟩ q⟩
def ZqI (trs : List (TE × TE)) : TE := fun σ H Q => ∀ p, H p = none -> Zma trs σ (upd H p (.dK [])) fun ps H2 => H2 p = some (.dK []) /\ ∃ kvs : List (Key × V), ps = kvs.map (fun kv => (kV kv.1, kv.2)) /\ kvs.length <= 15 /\ Q (.ref p) (upd H2 p (.dK (Zd5 [] kvs)))
theorem Zoi {X : Cx} {pos : Pos} {keys : List (Option Expr)} {values : List Expr} {trs : List (TE × TE)} (h : PPs X pos keys values trs) (hall : keys.all (·.isSome) = true) (hl : keys.length = values.length) (h0 : keys ≠ [])
  (h15 : keys.length <= 15) : PE X (.Dict keys values pos) (ZqI trs) := by
 intro pins s σ H Q I q
 have hn := I.hok.fresh (ZbD s.heap.objs.size)
 have I1 := I.laid (a := s.heap.objs.size) (o := .dK []) (h' := s.heap.push { cls := .type "dict", data := .dict #[] }) (t' := s.toks) (fun _ _ q => ZcP _ q) (ZbD _) (ZkQ s.heap I.big)
 refine wpAny_Dict_walk (knd := Zd4 X.prog X.w) hall hl h0 h15 (thn (h pins _ σ _ _ I1 (q _ hn)) fun ws s2 ⟨ps, H2, I2, rel, e, kvs, ep, lk, q2⟩ => ?_)
 subst ep
 obtain ⟨rs, c, rk⟩ := Zim (P := X.prog) (w := X.w) rel
 obtain ⟨z, hd, vs0, r0, dd⟩ := Zna I2.hok e
 cases r0
 refine ⟨rs, c, dd, fun h' dd' hs => ⟨.ref s.heap.objs.size, _, ?_, rfl, q2⟩⟩
 have hz : (Zd5 [] kvs).length <= sizeLine := by
  have h1 := ZgH kvs []
  rw [ZaG] at h1
  rw [sizeLine_eq]; omega
 have he : ∃ q, h'.get? s.heap.objs.size = some q := let ⟨q, _, _, hq, _⟩ := dd'; ⟨q, hq⟩
 exact Zhw I2 (by rw [e]; exact True.intro) hs he (Zjw hz hd (rk.merge .nil) dd')
structure M1 (X : Cx) (o : Expr) (m : Str) (apos : Pos) (e : Expr) (cpos : Pos) : Prop where
 base : attributeBase o m X.env (eval o X.env) = eval o X.env
 few : ((backTo cpos (starEach [e] X.env)).all (fun x => !x.1) && (backToKw cpos (keywordEach [] X.env)).all (fun x => x.1.isSome)
  && decide (([e] : List Expr).length + ([] : List Keyword).length + (if ([] : List Keyword).isEmpty then 0 else 1) < 30)) = true
 line : (apos.endLine == cpos.line) = true
 trees : backTo cpos (starEach [e] X.env) = [(false, eval e X.env)]
structure M2 (X : Cx) (o : Expr) (m : Str) (apos : Pos) (e f : Expr) (cpos : Pos) : Prop where
 base : attributeBase o m X.env (eval o X.env) = eval o X.env
 few : ((backTo cpos (starEach [e, f] X.env)).all (fun x => !x.1) && (backToKw cpos (keywordEach [] X.env)).all (fun x => x.1.isSome)
  && decide (([e, f] : List Expr).length + ([] : List Keyword).length + (if ([] : List Keyword).isEmpty then 0 else 1) < 30)) = true
 line : (apos.endLine == cpos.line) = true
 trees : backTo cpos (starEach [e, f] X.env) = [(false, eval e X.env), (false, eval f X.env)]
def IsD (H : Hp) (a : Addr) : Prop := (∃ kvs, Rd H a (.dK kvs)) \/ ∃ kvs, Rd H a (.dT kvs)
theorem ZnI {X : Cx} {pins : List (Addr × Obj)} {σ : St} {H : Hp} {s : Shared} {a : Addr} (I : Inv X pins σ H s) (d : IsD H a) :
  s.TypeIs (.ref a) "dict" /\ (∀ b, Value.ref a = .ref b -> ∃ ob, s.heap.get? b = some ob /\ ob.dict = none) /\ (a == sysModules) = false := by
 rcases d with ⟨kvs, e⟩ | ⟨kvs, e⟩
 ·obtain ⟨_, hd, vs, _, dd⟩ := Zj7 I.hok e
  refine ⟨dd.typeIs, fun b q => ?_, hd⟩
  cases q
  obtain ⟨ob, _, _, h1, h2, _⟩ := dd
  exact ⟨ob, h1, h2.2.1⟩
 ·obtain ⟨_, hd, xs, _, dd⟩ := Zj8 I.hok e
  refine ⟨dd.typeIs, fun b q => ?_, hd⟩
  cases q
  obtain ⟨ob, _, _, h1, h2, _⟩ := dd
  exact ⟨ob, h1, h2.2.1⟩
section
variable {X : Cx} {pins : List (Addr × Obj)} {σ : St} {H : Hp} {s : Shared} {a : Addr} {y d : V} {u r : Value} {o : Option V} {A : Around} {E : Value -> Shared -> Prop}
theorem Zpr {Q : Value -> Shared -> Prop} (hu : A.units + 1 < cLine) (I : Inv X pins σ H s) (g : ZgF H a y o) (ry : ZdU y u) (rd : ZdU d r) (h : ∀ w' s', Inv X pins σ H s' -> ZdU (o.getD d) w' -> Q w' s') :
  wpAny (model X.prog X.w) A (call (.builtin "dict.get") [.ref a, u, r]) Q E s := by
 rcases g with ⟨kvs, k, e, ey, l⟩ | ⟨kvs, k, b, e, ey, eb, l⟩
 ·subst ey
  obtain ⟨z, hd, vs, rel, dd⟩ := Zj7 I.hok e
  refine call_meetsIn Zcn dd.typeIs Zco (Zcp _ _ _) (meets_dict_get_default (Zd4 X.prog X.w) a (Ziy ry) hd r) ⟨_, dd.mapOf, h _ _ (I.tok _) ?_⟩
  rw [l]
  exact (rel.val k).getD rd
 ·subst ey
  cases (show u = Value.ref b from ry)
  obtain ⟨z, hd, xs, rel, dd⟩ := Zj8 I.hok e
  refine call_meetsIn Zcn dd.typeIs Zco (Zcp _ _ _) (meetsH_dict_get_default (tupleKind (Zd4 X.prog X.w)) a b hd r) ⟨tupleKind_room_in1 hu, k, xs, Zil I.hok eb, dd, h _ _ (I.tok _) ?_⟩
  rw [l]
  exact (rel.val k).getD rd
end
def Zps (td ty tx : TE) : TE := fun σ H Q => td σ H fun x H1 => ∃ a, x = .ref a /\ IsD H1 a /\ ty σ H1 fun y H2 => tx σ H2 fun z H3 => ∃ o, ZgF H3 a y o /\ Q (o.getD z) H3
section
variable {X : Cx} {o e f : Expr} {apos cpos : Pos} {td ty tx : TE}
theorem Ziz (hu : X.A.units + 1 < cLine) (ho : PE X o td) (he : PE X e ty) (hf : PE X f tx) (m : M2 X o "get" apos e f cpos) : PE X (.Call (.Attribute o "get" apos) [e, f] [] cpos) (Zps td ty tx) := by
 intro pins s σ H Q I h
 refine wpAny_Call_method m.base m.few m.line Zcq Zcn PySem.F.type_dict_get (thn (ho pins s σ H _ I h) fun u s1 ⟨x, H1, I1, rx, a, ex, d, q1⟩ => ?_)
 subst ex
 obtain rfl : u = Value.ref a := rx
 obtain ⟨t1, t2, _⟩ := ZnI I1 d
 refine ⟨t1, t2, ?_⟩
 rw [m.trees]
 refine Calls.callWith_builtin rfl (Calls.evalArgs_plain (Calls.spliced_cons (thn (he pins s1 σ H1 _ I1 q1) fun iv s2 ⟨y, H2, I2, ry, q2⟩ =>
  Calls.spliced_cons (thn (hf pins s2 σ H2 _ I2 q2) fun fv s3 ⟨z, H3, I3, rz, ov, g, q3⟩ => Calls.spliced_nil ?_))))
 exact Zpr hu I3 g ry rz fun w' s4 I4 rw' => ⟨_, H3, I4, rw', q3⟩
end
section
variable {X : Cx} {pins : List (Addr × Obj)} {σ : St} {H : Hp} {s : Shared} {a : Addr} {kvs : List (Key × V)} {A : Around} {E : Value -> Shared -> Prop}
end
section
variable {X : Cx} {pins : List (Addr × Obj)} {σ : St} {H : Hp} {s : Shared} {a : Addr} {y : V} {u : Value} {A : Around} {E : Value -> Shared -> Prop}
end
end L2.Internal
namespace HT.Internal
open PySem PyProof.Rows
section
open PySem.SeqAt
open PySem.AutoSeq1 (wpAny_loadPart')
open PySem.MeetsSeq PySem.MeetsSeq2 PySem.MeetsSeq3
end
section
variable {prog : Program} {w : World} {A : Around} {E : Value -> Shared -> Prop} {s : Shared}
theorem cat_tup {t b : Addr} {vs ws : List Value} {Q : Value -> Shared -> Prop} (ht : IsTup s.heap t vs.toArray) (hb : IsTup s.heap b ws.toArray) (hv : vs ≠ [])
  (h1 : ws = [] -> Q (.ref t) s) (h2 : ws ≠ [] -> Q (.ref s.heap.objs.size) { s with heap := s.heap.push { cls := .type "tuple", data := .seq (vs ++ ws).toArray } })
  (hsz : vs.length + ws.length <= sizeLine) : wpAny (model prog w) A (binaryOp .Add (.ref t) (.ref b)) Q E s := by
 obtain ⟨⟨cls, dd, data, sl⟩, ho, hc, n, hd⟩ := id ht
 obtain ⟨⟨cls2, dd2, data2, sl2⟩, ho2, hc2, n2, hd2⟩ := id hb
 simp only at hc hd hc2 hd2
 subst hc hd hc2 hd2
 have e : vs.toArray ++ ws.toArray = (vs ++ ws).toArray := by simp
 by_cases hw : ws = []
 ·exact concat_meets ⟨_, ho, rfl⟩ ⟨_, ho2, rfl⟩ noFill_tuple_add seq_tuple_add Zcr Zcs (Zct _ _)
   (tuple_addW1 t b vs.toArray ws.toArray n n2 dd dd2 sl sl2 (by simpa using hv) (by simp [hw])) ⟨ho, ho2, h1 hw⟩
 ·refine concat_meets ⟨_, ho, rfl⟩ ⟨_, ho2, rfl⟩ noFill_tuple_add seq_tuple_add Zcr Zcs (Zct _ _)
   (tuple_addW2 t b vs.toArray ws.toArray n n2 dd dd2 sl sl2 (by simpa using hv) (by simpa using hw) (by rw [ZaJ, ZaJ]; exact hsz)) ⟨ho, ho2, ?_⟩
  rw [e]
  exact h2 hw
noncomputable def sIx (n d : Nat) : Option Int -> Nat
 | none => d
 | some v => if v < 0 then (v + (n : Int)).toNat else min v.toNat n
theorem sIx_none (n d : Nat) : sIx n d none = d := rfl
theorem sIx_nat (n d k : Nat) : sIx n d (some (k : Int)) = min k n := by
 show (if (k : Int) < 0 then ((k : Int) + (n : Int)).toNat else min (k : Int).toNat n) = min k n
 rw [if_neg (by omega), ZcK]
theorem Zpt (n d : Nat) (hd : d <= n) (o : Option Int) : sIx n d o <= n := by
 cases o with
 | none => exact hd
 | some v =>
  show (if v < 0 then (v + (n : Int)).toNat else min v.toNat n) <= n
  by_cases hv : v < 0
  ·rw [if_pos hv]; omega
  ·rw [if_neg hv]; exact Nat.min_le_right _ _
theorem Zmb (v : Int) (n d : Nat) : (if v < 0 then max (v + (n : Int)) 0 else min v (n : Int)) = ((sIx n d (some v) : Nat) : Int) := by
 show (if v < 0 then max (v + (n : Int)) 0 else min v (n : Int)) = (((if v < 0 then (v + (n : Int)).toNat else min v.toNat n) : Nat) : Int)
 by_cases hv : v < 0
 ·simp only [if_pos hv]; omega
 ·simp only [if_neg hv]; omega
theorem Zlu (lo hi : Option Int) (n : Nat) : Builtin.Slice.sliceAdjust lo hi 1 (n : Int) = (((sIx n 0 lo : Nat) : Int), ((sIx n n hi : Nat) : Int)) := by
 have h1 : ¬ ((1 : Int) < 0) := by omega
 unfold Builtin.Slice.sliceAdjust
 simp only [h1, if_false]
 refine Prod.ext ?_ ?_
 ·cases lo with
  | none => rfl
  | some v => exact Zmb v n 0
 ·cases hi with
  | none => rfl
  | some v => exact Zmb v n n
theorem Zlv (i j : Nat) : Builtin.Slice.slicePlaces (i : Int) (j : Int) 1 = j - i := by
 unfold Builtin.Slice.slicePlaces
 have h1 : (1 : Int) > 0 := by omega
 simp only [h1, if_true, Int.ediv_one]
 split <;> omega
theorem Zin {v : Value} {o : Option Int} {Q : Option Int -> Shared -> Prop} (p : IsPart v o) (h : Q o s) : wpAny (model prog w) A (Builtin.Slice.slicePartIndex v) Q E s := by
 cases p with
 | none => exact slicePart_none h
 | int i t => exact slicePart_int h
theorem Zhe {sl : Addr} {vl vu : Value} {lo hi : Option Int} {n : Nat} {Q : Int × Int × Nat -> Shared -> Prop} (hs : s.heap.IsSliceOf sl vl vu .none) (pl : IsPart vl lo) (pu : IsPart vu hi)
  (h : Q (((sIx n 0 lo : Nat) : Int), 1, sIx n n hi - sIx n 0 lo) s) : wpAny (model prog w) A (Builtin.Slice.sliceApplied (.ref sl) (pure (n : Int))) Q E s := by
 obtain ⟨os, hos, hcs, hds⟩ := id hs
 unfold Builtin.Slice.sliceApplied Builtin.Slice.sliceFields
 refine wpAny_bind (wpAny_bind (wpAny_field hos hds (x := vl) rfl (wpAny_bind (wpAny_field hos hds (x := vu) rfl (wpAny_bind (wpAny_field hos hds (x := .none) rfl (wpAny_pure ?_)))))))
 refine wpAny_bind (slicePart_none ?_)
 show wpAny _ _ (if ((1 : Int) == 0) = true then _ else _) _ _ s
 rw [if_neg (by decide)]
 refine wpAny_bind (Zin pl (wpAny_bind (Zin pu (wpAny_bind (wpAny_pure ?_)))))
 show wpAny _ _ (match Builtin.Slice.sliceAdjust lo hi 1 (n : Int) with | (lo, hi) => pure (lo, (1 : Int), Builtin.Slice.slicePlaces lo hi 1)) _ _ s
 rw [Zlu lo hi n]
 show wpAny _ _ (pure (((sIx n 0 lo : Nat) : Int), (1 : Int), Builtin.Slice.slicePlaces ((sIx n 0 lo : Nat) : Int) ((sIx n n hi : Nat) : Int) 1)) _ _ s
 rw [Zlv]
 exact wpAny_pure h
theorem Znd (xs : Array Value) (i k : Nat) : ((Zaa k).filterMap fun (m : Nat) => xs[((i : Int) + (m : Int) * 1).toNat]?).toArray = ((xs.toList.drop i).take k).toArray := by
 have e : (fun (m : Nat) => xs[((i : Int) + (m : Int) * 1).toNat]?) = fun m => xs[i + m]? := by
  funext m
  have : ((i : Int) + (m : Int) * 1).toNat = i + m := by omega
  rw [this]
 rw [e]
 have := pick_run xs i k
 rw [List.filterMap_map] at this
 have e2 : ((fun x => xs[x]?) ∘ fun x => i + x) = fun m => xs[i + m]? := rfl
 rw [e2] at this
 rw [this]
theorem getItem_tuple_cut {t sl : Addr} {items : Array Value} {vl vu : Value} {lo hi : Option Int} {Q : Value -> Shared -> Prop} (ht : IsTup s.heap t items) (hs : s.heap.IsSliceOf sl vl vu .none) (pl : IsPart vl lo) (pu : IsPart vu hi)
  (hw : ¬ (sIx items.size 0 lo = 0 /\ sIx items.size items.size hi = items.size))
  (h : Q (.ref s.heap.objs.size) { s with heap := s.heap.push { cls := .type "tuple", data := .seq ((items.toList.drop (sIx items.size 0 lo)).take (sIx items.size items.size hi - sIx items.size 0 lo)).toArray } })
  (hsz : items.size <= sizeLine) : wpAny (model prog w) A (getItem (.ref t) (.ref sl)) Q E s := by
 have htake : sizeOk (.seq ((items.toList.drop (sIx items.size 0 lo)).take (sIx items.size items.size hi - sIx items.size 0 lo)).toArray) := by
  show ((items.toList.drop (sIx items.size 0 lo)).take (sIx items.size items.size hi - sIx items.size 0 lo)).toArray.size <= sizeLine
  rw [ZaJ, Zax, ZaK, ZcB]
  omega
 have hj : sIx items.size items.size hi <= items.size := Zpt _ _ (ZbD _) hi
 obtain ⟨os, hos, hcs, hds⟩ := id hs
 have hTs : s.TypeIs (.ref sl) "slice" := ⟨os, hos, hcs⟩
 unfold getItem
 try with_reducible refine wpAny_holding ?_
 first | refine wpAny_bind (wpAny_pure ?_) | skip
 refine wpAny_bind (wpAny_sequenceKey ht.typeIs (by decide) ?_)
 refine wpAny_bind (wpAny_callSpecial?_slot (name := Str.ofString "__getitem__") ht.typeIs ZcT
  (wpAny_call_entry ZcT ht.typeIs entry_tuple_getitem ?_ (args_tuple_getitem _ _)))
 show wpAny _ _ (Builtin.Tuple.tupleItemsOf (.ref t) >>= _) _ _ s
 refine wpAny_bind (tupleItemsOf_ ht ?_)
 refine wpAny_bind (wpAny_typeOf hTs ?_)
 rw [if_pos (by decide)]
 refine wpAny_bind (Zhe hs pl pu ?_)
 have hno : ¬ ((((sIx items.size 0 lo : Nat) : Int) == 0 && (1 : Int) == 1 && (sIx items.size items.size hi - sIx items.size 0 lo) == items.size) = true) := by
  intro q
  rw [ZcA, ZcA] at q
  have q1 : ((sIx items.size 0 lo : Nat) : Int) = 0 := eq_of_beq q.1.1
  have q2 : sIx items.size items.size hi - sIx items.size 0 lo = items.size := eq_of_beq q.2
  exact hw ⟨by omega, by omega⟩
 show wpAny _ _ (if (((sIx items.size 0 lo : Nat) : Int) == 0 && (1 : Int) == 1 && (sIx items.size items.size hi - sIx items.size 0 lo) == items.size) = true then _ else _) _ _ s
 rw [if_neg hno, Znd]
 first
  | exact wpAny_bind (m := Builtin.Tuple.tupleExact _) (wpAny_newObj_type (wpAny_pure ⟨_, rfl, wpAny_pure h⟩) htake)
  | exact wpAny_bind (m := Builtin.Tuple.tupleExact _) (wpAny_newObj_type (wpAny_bind (wpAny_pure (wpAny_pure ⟨_, rfl, wpAny_pure h⟩))) htake)
  | exact wpAny_bind (wpAny_bind (m := Builtin.Tuple.tupleExact _) (wpAny_newObj_type (wpAny_pure (wpAny_pure ⟨_, rfl, wpAny_pure h⟩)) htake))
  | exact wpAny_bind (wpAny_bind (m := Builtin.Tuple.tupleExact _) (wpAny_newObj_type (wpAny_pure ⟨_, rfl, wpAny_pure h⟩) htake))
end
end HT.Internal
namespace L2.Internal
open PySem PySem.Spec PyProof.Rows
noncomputable abbrev TO := St -> Hp -> (Option Int -> Hp -> Prop) -> Prop
def PO (X : Cx) (e : Option Expr) (t : TO) : Prop :=
 ∀ (pins : List (Addr × Obj)) (s : Shared) (σ : St) (H : Hp) (Q : Option Int -> Hp -> Prop), Inv X pins σ H s -> t σ H Q ->
  wpAny (model X.prog X.w) X.A (evalPart e X.env) (fun u s' => ∃ o H', Inv X pins σ H' s' /\ IsPart u o /\ Q o H') X.xe s
def Zoj : TO := fun _ H Q => Q none H
def ZqJ (t : TE) : TO := fun σ H Q => t σ H fun x H1 => ∃ i, x = .int i /\ Q (some i) H1
theorem Zlw {ns : List Int} : ∀ {us : List Value}, Zem (ns.map V.int) us -> IntsAre us ns := by
 induction ns with
 | nil => intro us r; rw [ZaH] at r; cases r; exact .nil
 | cons n ns ih =>
  intro us r
  rw [Zaq] at r
  cases r with
  | cons r1 r2 =>
   obtain ⟨t, e⟩ := r1
   subst e
   exact .cons n t (ih r2)
section
variable {X : Cx} {e : Expr} {te : TE} {lo hi : Option Expr} {tl th : TO} {pos p2 : Pos}
theorem ZfY : PO X none Zoj := by
 intro pins s σ H Q I h
 rw [evalPart_none]
 exact wpAny_pure ⟨none, H, I, .none, h⟩
theorem Zfm (h : PE X e te) : PO X (some e) (ZqJ te) := by
 intro pins s σ H Q I hw
 rw [evalPart_some]
 refine thn (h pins s σ H _ I hw) fun u s1 ⟨x, H1, I1, r1, q1⟩ => ?_
 obtain ⟨i, rfl, q⟩ := q1
 obtain ⟨t, rfl⟩ := r1
 exact ⟨some i, H1, I1, .int i t, q⟩
def SlR (X : Cx) (r : V -> Option Int -> Option Int -> Hp -> VK -> Prop) : Prop :=
 ∀ (pins : List (Addr × Obj)) (s : Shared) (σ : St) (H : Hp) (x : V) (v vl vu : Value) (lo hi : Option Int) (sl : Addr) (Q : VK), Inv X pins σ H s -> ZdU x v -> s.heap.IsSliceOf sl vl vu .none -> IsPart vl lo -> IsPart vu hi -> r x lo hi H Q ->
  ∃ T id, typeLookup (.type T) "__getitem__" = pure (some (.builtin id)) /\ s.TypeIs v T /\ wpAny (model X.prog X.w) X.A (getItem v (.ref sl)) (EP X pins σ Q) X.xe s
def tSl (r : V -> Option Int -> Option Int -> Hp -> VK -> Prop) (te : TE) (tl th : TO) : TE := fun σ H Q => te σ H fun x H1 => tl σ H1 fun l H2 => th σ H2 fun u H3 => r x l u H3 Q
theorem Zfb {r : V -> Option Int -> Option Int -> Hp -> VK -> Prop} (hr : SlR X r) (he : PE X e te) (hl : PO X lo tl) (hu : PO X hi th) : PE X (.Subscript e (.Slice lo hi none p2) pos) (tSl r te tl th) := by
 intro pins s σ H Q I h
 refine Subscript_ (thn (he pins s σ H _ I h) fun v s1 ⟨x, H1, I1, r1, q1⟩ => ?_)
 refine wpAny_Slice (thn (hl pins s1 σ H1 _ I1 q1) fun vl s2 ⟨l, H2, I2, pl, q2⟩ => thn (hu pins s2 σ H2 _ I2 q2) fun vu s3 ⟨u, H3, I3, pu, q3⟩ => ?_)
 rw [evalPart_none]
 refine wpAny_pure ?_
 have I4 : Inv X pins σ H3 { s3 with heap := s3.heap.push { cls := .type "slice", data := .fields #[vl, vu, .none] } } := I3.kept (t' := s3.toks) fun b ob q => ZcP _ q
 obtain ⟨T, id, hT, ht, hg⟩ := hr pins { s3 with heap := s3.heap.push { cls := .type "slice", data := .fields #[vl, vu, .none] } } σ H3 x v vl vu l u s3.heap.objs.size Q I4 r1 (Heap.IsSliceOf.new ..) pl pu q3
 show wpAny (model X.prog X.w) X.A (subscriptTail e (.Slice lo hi none p2) v (.ref s3.heap.objs.size)) (EP X pins σ Q) X.xe { s3 with heap := s3.heap.push { cls := .type "slice", data := .fields #[vl, vu, .none] } }
 exact tail_any (ops := [.ref s3.heap.objs.size, v]) ht hT hg (by with_unfolding_all rfl)
noncomputable def Zhl (xs : List V) (lo hi : Option Int) : List V := (xs.drop (HT.Internal.sIx xs.length 0 lo)).take (HT.Internal.sIx xs.length xs.length hi - HT.Internal.sIx xs.length 0 lo)
theorem Zhx (xs : List V) (lo hi : Option Int) : (Zhl xs lo hi).length <= xs.length := by
 unfold Zhl
 rw [Zax, ZaK]
 omega
def Zrp (K : PySem.W.Frag) : V -> Option Int -> Option Int -> Hp -> VK -> Prop := fun x lo hi H Q => ∃ a xs, x = .ref a /\ SqT K H a xs /\
 ¬ (HT.Internal.sIx xs.length 0 lo = 0 /\ HT.Internal.sIx xs.length xs.length hi = xs.length) /\ ∀ p, H p = none -> Q (.ref p) (upd H p (.tup (Zhl xs lo hi)))
theorem Zmc : SlR X (Zrp X.K) := by
 intro pins s σ H x v vl vu lo hi sl Q I rx hs pl pu h
 obtain ⟨a, xs, rfl, hx, hw, q⟩ := h
 cases rx
 obtain ⟨its, r, ht, hz⟩ := I.tuple hx
 have hlen : its.toArray.size = xs.length := by rw [ZaJ]; exact r.length.symm
 refine ⟨"tuple", _, ZcT.lookup, ht.typeIs, ?_⟩
 refine HT.Internal.getItem_tuple_cut ht hs pl pu (by rw [hlen]; exact hw) ?_ (by rw [hlen]; exact hz)
 rw [hlen]
 refine ⟨.ref s.heap.objs.size, _, I.laid (t' := s.toks) (o := .tup (Zhl xs lo hi)) (fun b ob q => ZcP _ q) (ZbD _) ?_, rfl, q _ (I.hok.fresh (ZbD _))⟩
 exact ⟨ZbA (Zhx xs lo hi) hz, _, (r.drop (HT.Internal.sIx xs.length 0 lo)).take (HT.Internal.sIx xs.length xs.length hi - HT.Internal.sIx xs.length 0 lo), ZlM.new _ _⟩
def Zok (K : PySem.W.Frag) : R2 := fun x y H Q => ∃ a b xs ys, x = .ref a /\ y = .ref b /\ SqT K H a xs /\ SqT K H b ys /\ xs ≠ [] /\ xs.length + ys.length <= sizeLine /\
 (ys = [] -> Q (.ref a) H) /\ (ys ≠ [] -> ∀ p, H p = none -> Q (.ref p) (upd H p (.tup (xs ++ ys))))
theorem Zem.nil_iff {xs : List V} {us : List Value} (r : Zem xs us) : us = [] ↔ xs = [] := by
 cases r with
 | nil => simp
 | cons _ _ => simp
theorem Zka : OpR X (binaryOp .Add) (Zok X.K) := by
 intro pins s σ H x y v u Q I rx ry h
 obtain ⟨a, b, xs, ys, rfl, rfl, ha, hb, hx, hz, q1, q2⟩ := h
 cases rx
 cases ry
 obtain ⟨its, r1, p1, _⟩ := I.tuple ha
 obtain ⟨its2, r2, p2, _⟩ := I.tuple hb
 refine HT.Internal.cat_tup p1 p2 (fun z => hx (r1.nil_iff.mp z)) (fun z => ⟨.ref a, H, I, rfl, q1 (r2.nil_iff.mp z)⟩) (fun z => ?_) (by rw [<- r1.length, <- r2.length]; exact hz)
 refine ⟨.ref s.heap.objs.size, _, I.laid (t' := s.toks) (o := .tup (xs ++ ys)) (fun b ob q => ZcP _ q) (ZbD _) ?_, rfl, q2 (fun w => z (r2.nil_iff.mpr w)) _ (I.hok.fresh (ZbD _))⟩
 exact ⟨by rw [ZaC]; exact hz, _, r1.append r2, ZlM.new _ _⟩
end
end L2.Internal
namespace L2.Internal
open PySem PySem.Spec PyProof.Rows
noncomputable def ixN (n : Nat) (i : Int) : Option Nat := if 0 <= i then (if i < n then some i.toNat else none) else if -(n : Int) <= i then some (i + n).toNat else none
noncomputable def atI {α : Type} (xs : List α) (i : Int) : Option α := (ixN xs.length i).bind fun j => xs[j]?
theorem Zmd {n : Nat} {i : Int} {j : Nat} (h : ixN n i = some j) : seqIndex? i n = some j /\ j < n /\ -(n : Int) <= i /\ i < n := by
 unfold ixN at h
 by_cases h0 : 0 <= i
 ·rw [if_pos h0] at h
  by_cases h1 : i < n
  ·rw [if_pos h1] at h
   have e : i.toNat = j := ZbR.inj h
   exact ⟨by rw [seqIndex_of h0 h1, e], by omega, by omega, h1⟩
  ·rw [if_neg h1] at h; cases h
 ·rw [if_neg h0] at h
  by_cases h1 : -(n : Int) <= i
  ·rw [if_pos h1] at h
   have e : (i + n).toNat = j := ZbR.inj h
   exact ⟨by rw [seqIndex_neg (by omega) h1, e], by omega, h1, by omega⟩
  ·rw [if_neg h1] at h; cases h
theorem Zkb {α : Type} {xs : List α} {i : Int} {v : α} (h : atI xs i = some v) : ∃ j, seqIndex? i xs.length = some j /\ xs[j]? = some v /\ j < xs.length /\ -(xs.length : Int) <= i /\ i < xs.length := by
 unfold atI at h
 cases e : ixN xs.length i with
 | none => rw [e] at h; cases h
 | some j =>
  rw [e] at h
  obtain ⟨h1, h2, h3, h4⟩ := Zmd e
  exact ⟨j, h1, h, h2, h3, h4⟩
theorem ZcZ {α : Type} {xs : List α} {j : Nat} {v : α} (h : xs[j]? = some v) : atI xs (j : Int) = some v := by
 have hj : j < xs.length := (Zaj.mp h).1
 have e : ixN xs.length (j : Int) = some j := by
  unfold ixN
  rw [if_pos (by omega), if_pos (by omega)]; simp
 unfold atI; rw [e]; exact h
def Zol (b : Expr) : Prop := ∀ o i, subscripted b false o i = operate [o, i] (getItem o i)
def IxR (X : Cx) (r : R2) : Prop :=
 ∀ (value slice : Expr) (pins : List (Addr × Obj)) (s : Shared) (σ : St) (H : Hp) (x y : V) (v u : Value) (Q : VK), Inv X pins σ H s -> ZdU x v -> ZdU y u -> r x y H Q ->
  subscripted slice false v u = operate [v, u] (getItem v u) -> wpAny (model X.prog X.w) X.A (subscriptTail value slice v u) (EP X pins σ Q) X.xe s
def MtR (X : Cx) (id : String) (r : V -> List V -> Hp -> VK -> Prop) : Prop :=
 ∀ (pins : List (Addr × Obj)) (s : Shared) (σ : St) (H : Hp) (x : V) (xs : List V) (v : Value) (us : List Value) (Q : VK), Inv X pins σ H s -> ZdU x v -> Zem xs us -> r x xs H Q ->
  wpAny (model X.prog X.w) X.A (call (.builtin id) (v :: us)) (EP X pins σ Q) X.xe s
section
variable {X : Cx} {a b : Expr} {ta tb : TE} {pos : Pos}
theorem Zc8 {r : R2} (hr : IxR X r) (ha : PE X a ta) (hb : PE X b tb) (hs : Zol b) : PE X (.Subscript a b pos) (tOp r ta tb) := by
 intro pins s σ H Q I h
 exact Subscript_ (Zqz ha hb I h fun v u s2 x y H2 I2 rx ry q => hr a b pins s2 σ H2 x y v u Q I2 rx ry q (hs _ _))
def rIxL (K : PySem.W.Frag) : R2 := fun x y H Q => ∃ p xs i v, x = .ref p /\ y = .int i /\ SqL K H p xs /\ atI xs i = some v /\ Q v H
def rIxT (K : PySem.W.Frag) : R2 := fun x y H Q => ∃ p xs i v, x = .ref p /\ y = .int i /\ SqT K H p xs /\ atI xs i = some v /\ Q v H
def rIxS : R2 := fun x y H Q => ∃ z i c, x = .str z /\ y = .int i /\ z.length <= sizeLine /\ atI z.cps.toList i = some c /\ Q (.str ⟨#[c]⟩) H
theorem Zom : IxR X (rIxL X.K) := by
 intro value slice pins s σ H x y v u Q I rx ry h hs
 obtain ⟨p, xs, i, z, rfl, rfl, hq, he, q⟩ := h
 cases rx
 obtain ⟨t, rfl⟩ := ry
 obtain ⟨its, r, pl, hz⟩ := I.list hq
 obtain ⟨j, h1, h2, h3, h4, h5⟩ := Zkb he
 obtain ⟨w, ew, rw'⟩ := r.get h2
 have hl := r.length
 have hn := Zik
 have fin : EP X pins σ Q w s := ⟨z, H, I, rw', q⟩
 by_cases h0 : 0 <= i
 ·have hj : i.toNat = j := by
   rw [seqIndex_of h0 h5] at h1
   exact ZbR.inj h1
  exact item_listR pl.isList h0 (by omega) (by rw [hj]; simpa using ew) fin hs
 ·have hj : (i + (its.toArray.size : Int)).toNat = j := by
   rw [seqIndex_neg (by omega) h4] at h1
   rw [ZaJ, <- hl]
   exact ZbR.inj h1
  exact subscriptTail_builtinR (x := w) pl.isList.typeIs slot_list_getitem.lookup
   (wpAny_getItem_list_neg (Q := fun r s' => r = w /\ EP X pins σ Q r s') pl.isList (by omega) (by rw [ZaJ] <;> omega) (by omega) (by rw [hj]; simpa using ew) ⟨rfl, fin⟩) hs
theorem Zgi : IxR X (rIxT X.K) := by
 intro value slice pins s σ H x y v u Q I rx ry h hs
 obtain ⟨p, xs, i, z, rfl, rfl, hq, he, q⟩ := h
 cases rx
 obtain ⟨t, rfl⟩ := ry
 obtain ⟨its, r, pl, hz⟩ := I.tuple hq
 obtain ⟨j, h1, h2, h3, h4, h5⟩ := Zkb he
 obtain ⟨w, ew, rw'⟩ := r.get h2
 have hl := r.length
 have hn := Zik
 have fin : EP X pins σ Q w s := ⟨z, H, I, rw', q⟩
 exact subscriptTail_builtinR (x := w) pl.typeIs slot_tuple_getitem.lookup
  (getItem_tuple (j := j) (Q := fun r s' => r = w /\ EP X pins σ Q r s') pl (by omega) (by omega) (by rw [ZaJ, <- hl]; exact h1) (by simpa using ew) ⟨rfl, fin⟩) hs
theorem Zpu : IxR X rIxS := by
 intro value slice pins s σ H x y v u Q I rx ry h hs
 obtain ⟨z, i, c, rfl, rfl, hz, he, q⟩ := h
 obtain ⟨t, rfl⟩ := rx
 obtain ⟨t', rfl⟩ := ry
 obtain ⟨j, h1, h2, h3, h4, h5⟩ := Zkb he
 have hl : z.cps.toList.length = z.length := by simp [Str.length]
 rw [hl] at h1 h4 h5
 have hn := Zik
 exact tail_any (typeIs_str s z t) slot_str_getitem.lookup (getItem_str (c := c) (by
  have e1 : decide (i < -(2 ^ 63 : Int)) = false := decide_eq_false (by omega)
  have e2 : decide (i ≥ 2 ^ 63) = false := decide_eq_false (by omega)
  rw [e1, e2, Bool.or_false]) (by rw [h1]; simpa using h2) ⟨.str ⟨#[c]⟩, H, I.tok _, ⟨_, rfl⟩, q⟩) hs
theorem Zlx (its : List Value) (n j : Nat) (u : Value) : Obj.mapSeq (·.setIfInBounds j u) { cls := .type "list", data := .seq its.toArray n } = { cls := .type "list", data := .seq (its.set j u).toArray n } := by
 simp [Obj.mapSeq]
theorem Inv.lst {pins : List (Addr × Obj)} {σ : St} {H : Hp} {s : Shared} {p : Addr} {xs : List V} (I : Inv X pins σ H s) (h : H p = some (.lst xs)) :
  ∃ (its : List Value) (n : Nat), Zem xs its /\ s.heap.get? p = some { cls := .type "list", data := .seq its.toArray n } /\ xs.length <= sizeLine := by
 obtain ⟨z, its, n, r, e⟩ := I.hok p _ h
 exact ⟨its, n, r, e, z⟩
theorem Inv.lstUpd {pins : List (Addr × Obj)} {σ : St} {H : Hp} {s : Shared} {p : Addr} {xs ys : List V} {its its' : List Value} {n n' : Nat} {f : Obj -> Obj} (I : Inv X pins σ H s) (h : H p = some (.lst xs))
  (ho : s.heap.get? p = some { cls := .type "list", data := .seq its.toArray n }) (hf : f { cls := .type "list", data := .seq its.toArray n } = { cls := .type "list", data := .seq its'.toArray n' }) (r : Zem ys its') (hz : ys.length <= sizeLine) (t : Nat) :
  Inv X pins σ (upd H p (.lst ys)) { s with heap := s.heap.update p f, toks := t } := by
 have e : (s.heap.update p f).get? p = some { cls := .type "list", data := .seq its'.toArray n' } := by
  rw [Heap.get?_update_self f ho (by rw [hf] <;> rfl), hf]
 refine I.write (x := p) (e := p) (by rw [h]; trivial) (.inl rfl) (fun b u hb q => (ZcR _ _ (Ne.symm hb)).trans q) ⟨_, e⟩ ?_
 exact ⟨hz, its', n', r, e⟩
noncomputable def ZqK : V -> V -> V -> Hp -> (Hp -> Prop) -> Prop := fun o i v H Q => ∃ p xs k j, o = .ref p /\ i = .int k /\ H p = some (.lst xs) /\ ixN xs.length k = some j /\ Q (upd H p (.lst (xs.set j v)))
theorem Zne : Zrh X ZqK := by
 intro pins s σ H o i v ov iv u Q I ro ri rv h
 obtain ⟨p, xs, k, j, rfl, rfl, hp, hj, q⟩ := h
 cases ro
 obtain ⟨t, rfl⟩ := ri
 obtain ⟨its, n, r, ho, hz⟩ := I.lst hp
 obtain ⟨h1, h2, h3, h4⟩ := Zmd hj
 have hl := r.length
 have hn := Zik
 have I' : Inv X pins σ (upd H p (.lst (xs.set j v))) { s with heap := s.heap.update p (Obj.mapSeq (·.setIfInBounds j u)) } :=
  I.lstUpd hp ho (Zlx its n j u) (r.set rv j) (by rw [List.length_set]; exact hz) s.toks
 by_cases h0 : 0 <= k
 ·have hk : k.toNat = j := by
   rw [seqIndex_of h0 h4] at h1
   exact ZbR.inj h1
  exact PySem.W.ki_setAt ho h0 (by omega) (by rw [ZaJ, <- hl]; exact h4) (by rw [hk]; exact ⟨_, I', q⟩)
 ·have hk : (k + (its.toArray.size : Int)).toNat = j := by
   rw [seqIndex_neg (by omega) h3] at h1
   rw [ZaJ, <- hl]
   exact ZbR.inj h1
  exact PySem.W.ki_setBack ho (by omega) (by rw [ZaJ, <- hl]; exact h3) (by omega) (by rw [hk]; exact ⟨_, I', q⟩)
theorem Zjx (lo hi : Option Int) (n : Nat) : (sliceBounds lo hi none n).1 = ((HT.Internal.sIx n 0 lo : Nat) : Int) /\ (sliceBounds lo hi none n).2.1 = ((HT.Internal.sIx n n hi : Nat) : Int) /\ (sliceBounds lo hi none n).2.2 = 1 := by
 refine ⟨?_, ?_, rfl⟩
 ·cases lo with
  | none => simp [sliceBounds, HT.Internal.sIx]
  | some i =>
   simp only [sliceBounds, HT.Internal.sIx, Option.getD_none, show (1 : Int) > 0 by decide, if_true]
   by_cases h : i < 0
   ·simp only [h, if_true] <;> omega
   ·simp only [h, if_false] <;> omega
 ·cases hi with
  | none => simp [sliceBounds, HT.Internal.sIx]
  | some i =>
   simp only [sliceBounds, HT.Internal.sIx, Option.getD_none, show (1 : Int) > 0 by decide, if_true]
   by_cases h : i < 0
   ·simp only [h, if_true] <;> omega
   ·simp only [h, if_false] <;> omega
theorem ZiA (its : List Value) (lo hi : Option Int) : slicePick its.toArray lo hi none = ((its.drop (HT.Internal.sIx its.length 0 lo)).take (HT.Internal.sIx its.length its.length hi - HT.Internal.sIx its.length 0 lo)).toArray := by
 obtain ⟨h1, h2, h3⟩ := Zjx lo hi its.toArray.size
 unfold slicePick
 rw [h1, h2, h3]
 simp only [sliceRange_one, pick_run, ZaJ] <;> rfl
def rSlL (K : PySem.W.Frag) : V -> Option Int -> Option Int -> Hp -> VK -> Prop := fun x lo hi H Q => ∃ a xs, x = .ref a /\ SqL K H a xs /\ ∀ p, H p = none -> Q (.ref p) (upd H p (.lst (Zhl xs lo hi)))
theorem Zhy : SlR X (rSlL X.K) := by
 intro pins s σ H x v vl vu lo hi sl Q I rx hs pl pu h
 obtain ⟨a, xs, rfl, hx, q⟩ := h
 cases rx
 obtain ⟨its, r, ht, hz⟩ := I.list hx
 have hlen := r.length
 refine ⟨"list", _, slot_list_getitem.lookup, ht.isList.typeIs, ?_⟩
 refine wpAny_getItem_list_slice ht.isList hs pl pu .none (by simp) ?_ (by rw [ZaJ] <;> omega)
 rw [ZiA, <- hlen]
 refine ⟨.ref s.heap.objs.size, _, I.laid (t' := s.toks) (o := .lst (Zhl xs lo hi)) (fun b ob q => ZcP _ q) (ZbD _) ?_, rfl, q _ (I.hok.fresh (ZbD _))⟩
 exact ⟨ZbA (Zhx xs lo hi) hz, _, 0, (r.drop (HT.Internal.sIx xs.length 0 lo)).take (HT.Internal.sIx xs.length xs.length hi - HT.Internal.sIx xs.length 0 lo), ZcO _ rfl⟩
noncomputable def Znf : V -> Bool
 | .non => true
 | .bl _ => true
 | .int _ => true
 | .str _ => true
 | _ => false
noncomputable def eqV : V -> V -> Bool
 | .non, .non => true
 | .bl a, .bl b => a == b
 | .bl a, .int b => (if a then 1 else 0) == b
 | .int a, .bl b => a == (if b then 1 else 0)
 | .int a, .int b => a == b
 | .str a, .str b => a == b
 | _, _ => false
theorem ZnJ {A : Around} {s : Shared} {y x : V} {u v : Value} (ry : ZdU y u) (rx : ZdU x v) (fy : Znf y = true) (fx : Znf x = true) : SeqAt.EqAt A s u v (eqV y x) := by
 cases y with
 | non =>
  cases ry
  cases x with
  | non => cases rx; exact SeqAt.EqAt.same _
  | bl b => cases rx; exact SeqAt.EqAt.none_bool b
  | int b => obtain ⟨t, rfl⟩ := rx; exact SeqAt.EqAt.none_int b t
  | str b => obtain ⟨t, rfl⟩ := rx; exact SeqAt.EqAt.none_str b t
  | _ => exact absurd (show false = true from fx) Zcy
 | bl a =>
  cases ry
  cases x with
  | non => cases rx; exact SeqAt.EqAt.bool_none a
  | bl b => cases rx; exact SeqAt.EqAt.bool_bool a b
  | int b => obtain ⟨t, rfl⟩ := rx; exact SeqAt.EqAt.bool_int a b t
  | str b => obtain ⟨t, rfl⟩ := rx; exact SeqAt.EqAt.bool_str a b t
  | _ => exact absurd (show false = true from fx) Zcy
 | int a =>
  obtain ⟨t', rfl⟩ := ry
  cases x with
  | non => cases rx; exact SeqAt.EqAt.int_none a t'
  | bl b => cases rx; exact SeqAt.EqAt.int_bool a t' b
  | int b => obtain ⟨t, rfl⟩ := rx; exact SeqAt.EqAt.int_int a t' b t
  | str b => obtain ⟨t, rfl⟩ := rx; exact SeqAt.EqAt.int_str a t' b t
  | _ => exact absurd (show false = true from fx) Zcy
 | str a =>
  obtain ⟨t', rfl⟩ := ry
  cases x with
  | non => cases rx; exact SeqAt.EqAt.str_none a t'
  | bl b => cases rx; exact SeqAt.EqAt.str_bool a t' b
  | int b => obtain ⟨t, rfl⟩ := rx; exact SeqAt.EqAt.str_int a t' b t
  | str b => obtain ⟨t, rfl⟩ := rx; exact SeqAt.EqAt.str_str a t' b t
  | _ => exact absurd (show false = true from fx) Zcy
 | _ => exact absurd (show false = true from fy) Zcy
theorem Zdw : ZgD X (.builtin "len") (fun xs H Q => ∃ p ys, xs = [.ref p] /\ (SqL X.K H p ys \/ SqT X.K H p ys) /\ Q (.int ys.length) H) := by
 intro pins s σ H xs us Q I r h
 obtain ⟨p, ys, rfl, hq, q⟩ := h
 obtain ⟨u, rfl, rx⟩ := Zhc r
 cases rx
 have hn := Zik
 rcases hq with hq | hq
 ·obtain ⟨its, r', pl, hz⟩ := I.list hq
  have hlen := r'.length
  exact Calls.call_len_list pl.isList (by simp only [ZaJ] <;> omega) ⟨.int ys.length, H, I.tok _, ⟨s.toks + 1, by rw [ZaJ, hlen]⟩, q⟩
 ·obtain ⟨its, r', pl, hz⟩ := I.tuple hq
  have hlen := r'.length
  exact len_tuple pl (by simp only [ZaJ] <;> omega) ⟨.int ys.length, H, I.tok _, ⟨s.toks + 1, by rw [ZaJ, hlen]⟩, q⟩
theorem Zjy : ZgD X (.builtin "len") (fun xs H Q => ∃ z, xs = [.str z] /\ z.length <= sizeLine /\ Q (.int z.length) H) := by
 intro pins s σ H xs us Q I r h
 obtain ⟨z, rfl, hz, q⟩ := h
 obtain ⟨u, rfl, t, rfl⟩ := Zhc r
 have hn := Zik
 exact len_str (by omega) ⟨.int z.length, H, I.tok _, ⟨_, rfl⟩, q⟩
theorem Zfg : ZgD X (.type "list") (fun xs H Q => ∃ p ys, xs = [.ref p] /\ (SqL X.K H p ys \/ SqT X.K H p ys) /\ ∀ l, H l = none -> Q (.ref l) (upd H l (.lst ys))) := by
 intro pins s σ H xs us Q I r h
 obtain ⟨p, ys, rfl, hq, q⟩ := h
 obtain ⟨u, rfl, rx⟩ := Zhc r
 cases rx
 have fin : ∀ (its : List Value), Zem ys its -> ys.length <= sizeLine -> ∀ (h' : Heap) (c' : Nat), (∀ b o', s.heap.get? b = some o' -> h'.get? b = some o') ->
   h'.get? s.heap.objs.size = some { cls := .type "list", dict := none, data := .seq its.toArray c', slots := #[] } -> EP X pins σ Q (.ref s.heap.objs.size) { s with heap := h' } := fun its r' hz h' c' kp e =>
  ⟨.ref s.heap.objs.size, _, I.laid (t' := s.toks) kp (ZbD _) (show ZeN X.prog X.w _ h' _ (.lst ys) from ⟨hz, its, c', r', e⟩), rfl, q _ (I.hok.fresh (ZbD _))⟩
 rcases hq with hq | hq
 ·obtain ⟨its, r', pl, hz⟩ := I.list hq
  have hlen := r'.length
  obtain ⟨o, ho, hc, n, hd⟩ := pl.isList
  exact call_list_seq p (.inl rfl) ho hc hd (fun h' c' kp e => fin its r' hz h' c' kp e) (by simp only [ZaJ] <;> omega)
 ·obtain ⟨its, r', pl, hz⟩ := I.tuple hq
  have hlen := r'.length
  obtain ⟨o, ho, hc, n, hd⟩ := pl
  exact call_list_seq p (.inr rfl) ho hc hd (fun h' c' kp e => fin its r' hz h' c' kp e) (by simp only [ZaJ] <;> omega)
theorem ZiB : ZgD X (.type "tuple") (fun xs H Q => ∃ p ys, xs = [.ref p] /\ ((SqL X.K H p ys /\ ∀ l, H l = none -> Q (.ref l) (upd H l (.tup ys))) \/ (SqT X.K H p ys /\ Q (.ref p) H))) := by
 intro pins s σ H xs us Q I r h
 obtain ⟨p, ys, rfl, h⟩ := h
 obtain ⟨u, rfl, rx⟩ := Zhc r
 cases rx
 rcases h with ⟨hq, q⟩ | ⟨hq, q⟩
 ·obtain ⟨its, r', pl, hz⟩ := I.list hq
  have hlen := r'.length
  refine call_tuple_list pl.isList (fun h' kp => ?_) (by simp only [ZaJ] <;> omega)
  have I1 : Inv X pins σ H { s with heap := h' } := I.kept (t' := s.toks) kp
  have I2 : Inv X pins σ (upd H h'.objs.size (.tup ys)) { s with heap := h'.push { cls := .type "tuple", data := .seq its.toArray } } :=
   I1.laid (t' := s.toks) (fun b o e => ZcP _ e) (ZbD _) (show ZeN X.prog X.w _ _ _ (.tup ys) from ⟨hz, its, r', ZlM.new _ _⟩)
  exact ⟨.ref h'.objs.size, _, I2, rfl, q _ (I1.hok.fresh (ZbD _))⟩
 ·obtain ⟨its, r', pl, hz⟩ := I.tuple hq
  exact call_tuple_same pl ⟨.ref p, H, I, rfl, q⟩
def tyV (K : PySem.W.Frag) (T : String) (x : V) (H : Hp) : Prop := match x with
 | .str _ => T = "str"
 | .int _ => T = "int"
 | .ref p => (T = "list" /\ ∃ xs, SqL K H p xs) \/ (T = "tuple" /\ ∃ o, K.lookup p = some o /\ o.cls = .type "tuple" /\ o.dict = none) \/
   (T = "dict" /\ ((∃ kvs, H p = some (.dK kvs)) \/ ∃ kvs, H p = some (.dT kvs))) \/ (T = "set" /\ ∃ S n, H p = some (.set S n))
 | _ => False
theorem ZnK {pins : List (Addr × Obj)} {σ : St} {H : Hp} {s : Shared} {T : String} {x : V} {v : Value} (I : Inv X pins σ H s) (r : ZdU x v) (ty : tyV X.K T x H) :
  s.TypeIs v T /\ ∀ a, v = .ref a -> ∃ ob, s.heap.get? a = some ob /\ ob.dict = none := by
 cases x with
 | str z =>
  obtain ⟨t, rfl⟩ := r
  cases (show T = "str" from ty)
  exact ⟨typeIs_str s z t, fun _ e => nomatch e⟩
 | int i =>
  obtain ⟨t, rfl⟩ := r
  cases (show T = "int" from ty)
  exact ⟨typeIs_int s i t, fun _ e => nomatch e⟩
 | ref p =>
  cases r
  rcases ty with ⟨rfl, xs, hq⟩ | ⟨rfl, o, hk, hc, hd⟩ | ⟨rfl, hk⟩ | ⟨rfl, S, n, hk⟩
  ·obtain ⟨its, _, pl, _⟩ := I.list hq
   refine ⟨pl.isList.typeIs, fun a e => ?_⟩
   cases e
   obtain ⟨o, n, e, c, hd, _⟩ := pl
   exact ⟨o, e, hd⟩
  ·refine ⟨⟨o, I.kIn p o hk, hc⟩, fun a e => ?_⟩
   cases e
   exact ⟨o, I.kIn _ o hk, hd⟩
  ·have z : ∃ o, s.heap.get? p = some o /\ o.ExactDict := by
    rcases hk with ⟨kvs, hk⟩ | ⟨kvs, hk⟩
    ·obtain ⟨_, _, _, _, o, _, _, e, ex, _⟩ := I.hok p _ hk
     exact ⟨o, e, ex⟩
    ·obtain ⟨_, _, _, _, o, _, _, e, ex, _⟩ := I.hok p _ hk
     exact ⟨o, e, ex⟩
   obtain ⟨o, e, ex⟩ := z
   refine ⟨⟨o, e, ex.1⟩, fun a e2 => ?_⟩
   cases e2
   exact ⟨o, e, ex.2.1⟩
  ·obtain ⟨o, _, _, _, e, ex, _⟩ := I.hok p _ hk
   refine ⟨⟨o, e, ex.1⟩, fun a e2 => ?_⟩
   cases e2
   exact ⟨o, e, ex.2.1⟩
 | _ => exact False.elim ty
def tBM0 (K : PySem.W.Frag) (T : String) (r : V -> List V -> Hp -> VK -> Prop) (to : TE) : TE := fun σ H Q => to σ H fun x H1 => tyV K T x H1 /\ r x [] H1 Q
def tBM (K : PySem.W.Frag) (T : String) (r : V -> List V -> Hp -> VK -> Prop) (to : TE) (t : TA) : TE := fun σ H Q => to σ H fun x H1 => tyV K T x H1 /\ t σ H1 fun xs H2 => r x xs H2 Q
variable {o e : Expr} {es : List Expr} {to : TE} {t : TA} {name : Str} {apos cpos : Pos} {T id : String} {r : V -> List V -> Hp -> VK -> Prop}
theorem Zpv (pa : PlainAttrs T) (slot : Slot T name id) (hty : typeOf (.builtin id) = pure (.type "method_descriptor")) (hm : MtR X id r) (ho : PE X o to)
  (hbase : autoParam (attributeBase o name X.env (eval o X.env) = eval o X.env) L2.Internal.auR._auto_1) (hline : autoParam ((apos.endLine == cpos.line) = true) L2.Internal.auR._auto_1) : PE X (.Call (.Attribute o name apos) [] [] cpos) (tBM0 X.K T r to) := by
 intro pins s σ H Q I h
 refine wpAny_Call_method0_late hbase hline (thn (ho pins s σ H _ I h) fun v s1 ⟨x, H1, I1, r1, ty, q1⟩ => ?_)
 obtain ⟨h1, h2⟩ := ZnK I1 r1 ty
 exact ⟨T, id, pa, slot, hty, h1, h2, Calls.callWith_builtin rfl (PySem.evalArgs_none (hm pins s1 σ H1 x [] v [] Q I1 r1 .nil q1))⟩
theorem ZfT (pa : PlainAttrs T) (slot : Slot T name id) (hty : typeOf (.builtin id) = pure (.type "method_descriptor")) (hm : MtR X id r) (ho : PE X o to) (ha : PA X (e :: es) t)
  (hbase : autoParam (attributeBase o name X.env (eval o X.env) = eval o X.env) L2.Internal.auR._auto_1)
  (hfew : ((backTo cpos (starEach (e :: es) X.env)).all (fun x => !x.1) && (backToKw cpos (keywordEach [] X.env)).all (fun x => x.1.isSome)
   && decide ((e :: es).length + ([] : List Keyword).length + (if ([] : List Keyword).isEmpty then 0 else 1) < 30)) = true := by rfl)
  (hline : autoParam ((apos.endLine == cpos.line) = true) L2.Internal.auR._auto_1) (hs : autoParam (starEach (e :: es) X.env = (false, eval e X.env) :: starEach es X.env) L2.Internal.auR._auto_1) (hplain : autoParam ((backTo cpos (starEach es X.env)).any (·.1) = false) L2.Internal.auR._auto_1) :
  PE X (.Call (.Attribute o name apos) (e :: es) [] cpos) (tBM X.K T r to t) := by
 intro pins s σ H Q I h
 refine wpAny_Call_method_late hbase hfew hline rfl (thn (ho pins s σ H _ I h) fun v s1 ⟨x, H1, I1, r1, ty, q1⟩ => ?_)
 obtain ⟨h1, h2⟩ := ZnK I1 r1 ty
 refine ⟨T, id, pa, slot, hty, h1, h2, ?_⟩
 have hA := ha cpos pins s1 σ H1 _ I1 q1
 rw [hs] at hA ⊢
 refine Calls.callWith_builtin (by show (false || (backTo cpos (starEach es X.env)).any (·.1)) = false; rw [hplain] <;> rfl) (Calls.evalArgs_plain ?_)
 exact thn hA fun us s2 ⟨vs, H2, I2, r2, q2⟩ => hm pins s2 σ H2 x vs v us Q I2 r1 r2 q2
end
end L2.Internal
namespace L2.Internal
open PySem PySem.Spec PyProof.Rows
def MtM (X : Cx) (id : String) (r : V -> List V -> Hp -> VK -> Prop) : Prop :=
 ∀ (pins : List (Addr × Obj)) (s : Shared) (σ : St) (H : Hp) (x : V) (xs : List V) (v : Value) (us : List Value) (Q : VK), Inv X pins σ H s -> ZdU x v -> Zem xs us -> r x xs H Q ->
  wpAny (model X.prog X.w) X.A (call (.builtin id) (v :: us)) (EP X pins σ Q) X.xe s
theorem Zem.one : ∀ {x : V} {us : List Value}, Zem [x] us -> ∃ u, us = [u] /\ ZdU x u
 | _, _, .cons r .nil => ⟨_, rfl, r⟩
theorem Zem.zero : ∀ {us : List Value}, Zem [] us -> us = []
 | _, .nil => rfl
theorem Zem.dropLast {xs : List V} {us : List Value} (h : Zem xs us) : Zem xs.dropLast us.dropLast := by
 induction h with
 | nil => exact .nil
 | cons r t ih =>
  cases t with
  | nil => exact .nil
  | cons q t' => exact .cons r ih
theorem Zly {α : Type} (l : List α) : l.eraseIdx (l.length - 1) = l.dropLast := by
 induction l with
 | nil => rfl
 | cons a r ih =>
  cases r with
  | nil => rfl
  | cons b r =>
   have e : (a :: b :: r).length - 1 = ((b :: r).length - 1) + 1 := by
    have h1 : (a :: b :: r).length = r.length + 2 := rfl
    have h2 : (b :: r).length = r.length + 1 := rfl
    omega
   rw [e, List.eraseIdx_cons_succ, ih]
   all_goals rfl
section
variable {X : Cx} {pins : List (Addr × Obj)} {σ : St} {H : Hp} {s : Shared} {l b : Addr} {xs ys zs : List V}
theorem Inv.lset {its its' : List Value} {n : Nat} {f : Array Value -> Array Value} {t' : Nat} (I : Inv X pins σ H s) (hH : H l = some (.lst xs))
  (e : s.heap.get? l = some { cls := .type "list", data := .seq its.toArray n }) (hf : f its.toArray = its'.toArray) (hv : Zem ys its') (hz : ys.length <= sizeLine) :
  Inv X pins σ (upd H l (.lst ys)) { s with heap := s.heap.update l (Obj.mapSeq f), toks := t' } := by
 have q := PySem.IsL.update e f
 rw [hf] at q
 refine I.write (x := l) (e := l) (by rw [hH]; exact trivial) (.inl rfl) (fun b' u hb hu => (ZcR s.heap (Obj.mapSeq f) (Ne.symm hb)).trans hu) ⟨_, q⟩ ?_
 exact ⟨hz, its', _, hv, q⟩
theorem Inv.lnew {its : List Value} {t' : Nat} (I : Inv X pins σ H s) (hv : Zem ys its) (hz : ys.length <= sizeLine) :
  Inv X pins σ (upd H s.heap.objs.size (.lst ys)) { s with heap := s.heap.push { cls := .type "list", data := .seq its.toArray }, toks := t' } :=
 I.laid (fun _ _ q => ZcP _ q) (ZbD _) ⟨hz, its, 0, hv, ZcO _ rfl⟩
theorem Inv.fresh (I : Inv X pins σ H s) : H s.heap.objs.size = none := I.hok.fresh (ZbD _)
theorem Inv.lstM (I : Inv X pins σ H s) (hH : H l = some (.lst xs)) : xs.length <= sizeLine /\ ∃ (its : List Value) (n : Nat), Zem xs its /\ xs.length = its.length /\ s.heap.get? l = some { cls := .type "list", data := .seq its.toArray n } := by
 obtain ⟨z, its, n, r, e⟩ := I.hok l _ hH
 exact ⟨z, its, n, r, r.length, e⟩
end
section
variable {X : Cx}
def Zme : V -> List V -> Hp -> VK -> Prop := fun x vs H Q => ∃ l xs y, x = .ref l /\ vs = [y] /\ H l = some (.lst xs) /\ xs.length < sizeLine /\ Q .non (upd H l (.lst (xs ++ [y])))
theorem ZdA : MtM X "list.append" Zme := by
 intro pins s σ H x vs v us Q I rx rv h
 obtain ⟨l, xs, y, rfl, rfl, hH, hz, q⟩ := h
 cases rx
 obtain ⟨u, rfl, ru⟩ := rv.one
 obtain ⟨z, its, n, r, hl, e⟩ := I.lstM hH
 refine call_meets F.slot_list_append ⟨_, e, rfl⟩ F.entry_list_append (F.args_list_append_2 _ _) (PySem.list_append l its.toArray n u (by rw [ZaJ]; omega)) ⟨e, ?_⟩
 refine ⟨.non, _, I.lset (its' := its ++ [u]) hH e (by simp) (r.append (.cons ru .nil)) ?_, rfl, q⟩
 rw [ZaC, ZaL]
 omega
def rPop : V -> List V -> Hp -> VK -> Prop := fun x vs H Q => ∃ l xs y, x = .ref l /\ vs = [] /\ H l = some (.lst xs) /\ xs[xs.length - 1]? = some y /\ Q y (upd H l (.lst xs.dropLast))
theorem Zpw : MtM X "list.pop" rPop := by
 intro pins s σ H x vs v us Q I rx rv h
 obtain ⟨l, xs, y, rfl, rfl, hH, hy, q⟩ := h
 cases rx
 have hus := rv.zero
 subst hus
 obtain ⟨z, its, n, r, hl, e⟩ := I.lstM hH
 obtain ⟨u, hu, ru⟩ := r.get hy
 have hy' : its.toArray[its.toArray.size - 1]? = some u := by
  show its.toArray[its.length - 1]? = some u
  rw [<- ZcC, <- hl]
  exact hu
 refine call_meets F.slot_list_pop ⟨_, e, rfl⟩ F.entry_list_pop (F.args_list_pop_1 _) (MeetsSeq.list_pop_last l its.toArray n u hy' (by rw [ZaJ]; omega)) ⟨e, ?_⟩
 refine ⟨y, _, I.lset (its' := its.dropLast) hH e ?_ r.dropLast ?_, ru, q⟩
 ·show its.toArray.eraseIdxIfInBounds (its.toArray.size - 1) = its.dropLast.toArray
  rw [ZaJ, List.eraseIdxIfInBounds_toArray, Zly]
 ·rw [List.length_dropLast]
  omega
end
section
variable {prog : Program} {w : World} {A : Around} {E : Value -> Shared -> Prop} {s : Shared}
set_option maxRecDepth 100000 in
end
section
variable {X : Cx}
end
end L2.Internal
namespace Att.Internal
open PySem PySem.W PySem.Calls PyProof.Rows
theorem Zhz {P : Params} {h : Heap} : ∀ (ns : List Int) (vs : List Value), WellAll P h vs (ns.map WData.int) -> IntsAre vs ns := by
 intro ns
 induction ns with
 | nil =>
  intro vs w
  rw [ZaH] at w
  cases w
  exact .nil
 | cons n ns ih =>
  intro vs w
  rw [Zaq] at w
  cases w with
  | cons a b =>
   cases a
   exact .cons _ _ (ih _ b)
theorem Zmf {l : OpenLaw} {n : Nat} (hn : l.most = some n) {P : Params} {h : Heap} {args : List WData} {vals : List Value}
  (hpre : l.row.toRowW.claim.pre args = true) (hwl : WellAll P h vals args) :
  ∃ a vs ns, vals = [Value.ref a] /\ args = [WData.list (ns.map WData.int)] /\ h.get? a = some { cls := .type "list", data := .seq vs.toArray } /\ IntsAre vs ns /\ ns.length <= n := by
 have hsh : WShape.hasAll [] args [.list .int] = true := (pre_splitW hpre).1
 have hc : l.pre.holds [] { args := args } = true := (pre_splitW hpre).2
 obtain ⟨d, r, rfl, h1, h2⟩ := hasAllW_cons hsh
 obtain rfl := hasAllW_nil h2
 obtain ⟨xs, rfl, h3⟩ := hasW_list h1
 obtain ⟨ns, rfl⟩ := items_int h3
 have hlen : ns.length <= n := by
  unfold OpenLaw.pre at hc
  have h4 : (WTm.not (.lt (.lit (.int (n : Int))) (.len (.arg 0)))).holds [] { args := [.list (ns.map .int)] } = true := by
   have h4 := (holds_andW hc).1
   rw [hn] at h4
   exact h4
  have h5 := condW_of h4 (w_not (w_lt w_lit (w_len_list (w_arg rfl))))
  rw [Zar] at h5
  refine Nat.le_of_not_lt fun q => ?_
  have q' : (n : Int) < ((ns.length : Nat) : Int) := by omega
  first
   | (rw [decide_eq_true q'] at h5; exact absurd h5 (by decide))
   | (simp at h5; omega)
 cases hwl with
 | cons w1 w2 =>
  cases w2
  cases w1 with
  | list ho hall => exact ⟨_, _, ns, rfl, rfl, ho, Zhz ns _ hall, hlen⟩
theorem Zmg (l : OpenLaw) (args : List WData) : l.row.toRowW.claim.post args (.bool true) args = true :=
 postW_of (r := l.row.toRowW) (X := (true == true))
  (show WShape.has [] (.bool true) .bool = true by first | rfl | decide | simp [WShape.has, WShape.arms, WShape.armsAll])
  (show (WTm.eq .res (.lit (.bool true))).value [] { args := args, res := some (.bool true), after := args } = some (.bool (true == true)) from w_eq_bool (w_res rfl) w_lit) rfl
theorem attach_call {l : OpenLaw} {n : Nat} {q : Program} {loose : List Str} {XP : (Str -> Option Value) -> Heap -> Prop} {YP : World -> Heap -> Prop} {d : DefRec}
  (hn : l.most = some n) (hdf : d.params.defaults = [])
  (call : ∀ (w : World) (s₀ s₁ : Shared) (mg mb : Str -> Option Value) (fa : Addr) (o : Obj) (pm cd doc : Value) (a : Addr) (vs : List Value) (ns : List Int),
   Ground q loose [] XP w s₀ mg mb s₁.heap -> YP w s₁.heap ->
   s₁.heap.get? fa = some o -> o.data = .func (docDef d.name d.params d.body d.scope pm cd doc) -> s₁.heap.CodeRec cd d.name -> mg d.name = some (.ref fa) ->
   s₁.heap.get? a = some { cls := .type "list", data := .seq vs.toArray } -> IntsAre vs ns -> ns.length <= n -> s₁.gens = #[] ->
   codeAny (model l.prog w) callerA (.call (.ref fa) ⟨[.ref a], []⟩) (fun r s' => r = .ok (.ret (.bool true)) /\ OldK s₁.heap s'.heap /\ s'.os = s₁.os /\ AllBare s'.gens) s₁) :
  WalkO q loose XP YP l.row.toRowW d [] (fun f vs => PySem.call f vs) := by
 intro w s₀ s₁ mg mb G Y fa o pm cd doc dV kV ho hd hcd hD hmg hg args vals as hpre hlay hrd hwl hlo
 obtain rfl : dV = .none := Dflts.none hD hdf
 obtain rfl : kV = .none := Dflts.noKw hD
 obtain ⟨a, vs, ns, rfl, rfl, hobj, hints, hlen⟩ := Zmf hn hpre hwl
 refine enter_call (codeAny_mono (call w s₀ s₁ mg mb fa o pm cd doc a vs ns G Y ho (fd_plain hd) hcd hmg hobj hints hlen hg) fun r s' hq => ?_)
 obtain ⟨rfl, h2, h3, h4⟩ := hq
 exact ⟨.inl ⟨.bool true, .bool true, [], rfl, fun _ => rfl, .bool true, Zmg l _, fun _ => ⟨List.Pairwise.nil, fun _ hm => (nomatch hm)⟩⟩, h2, h3, h4⟩
section
variable {prog : Program} {w : World} {A : Around} {E : Value -> Shared -> Prop} {s : Shared} {K : Frag}
end
end Att.Internal
namespace L2.Internal
open PySem PySem.Spec PyProof.Rows
theorem Zjz : ∀ {vs : List Value} {ns : List Int}, IntsAre vs ns -> Zem (ns.map V.int) vs
 | _, _, .nil => .nil
 | _, _, .cons n t h => .cons ⟨t, rfl⟩ (Zjz h)
def ZqL (H : Hp) : Prop := ∀ b, H b = none \/ ∃ o xs, H b = some (.frz o (.lst xs))
theorem Zng {P : Program} {w : World} {K : PySem.W.Frag} {mg mb : Str -> Option Value} {CX : CXT} {k : Nat} {fa a : Addr} {fd : FuncData} {x : Str} {sp : Sp} {s₁ : Shared} {vs : List Value} {ns : List Int}
  (KX : K.In s₁.heap) (hns : s₁.heap.Ns mainGlobals mg) (hb : s₁.heap.Ns builtinsNs mb) (hbb : ∀ x : Str, x ≠ "__name__" -> mb x = bootBuiltins x) (hlim : s₁.heap.NoLimit) (hg : s₁.gens = #[])
  (ha : s₁.heap.get? a = some { cls := .type "list", data := .seq vs.toArray }) (hi : IntsAre vs ns) (hl : ns.length <= sizeLine) (hr : ZgC k callerA)
  (F : ∀ base : Heap, K.In base -> base.Ns mainGlobals mg -> Ze0 P w K mg base CX k fa fd [x] sp) (hbind : ∀ (s : Shared) (u : Value), BindsTo s fd ⟨[u], []⟩ [(x, u)])
  (hsp : ∀ H : Hp, ZqL H -> SqL K H a (ns.map V.int) -> sp [.ref a] H (fun v _ => v = .bl true) fun _ _ _ => False)
  (hCX : ∀ H e s', CX [] H s₁ (fun _ _ _ => False) e s' -> False) :
  codeAny (model P w) callerA (.call (.ref fa) ⟨[.ref a], []⟩) (fun r s' => r = .ok (.ret (.bool true)) /\ OldK s₁.heap s'.heap /\ s'.os = s₁.os /\ AllBare s'.gens) s₁ := by
 have rv := Zjz hi
 have lenV := hi.length
 have core : ∀ H : Hp, ZqL H -> SqL K H a (ns.map V.int) -> HOk P w H s₁.heap -> (∀ b, H b ≠ none -> b = a) -> (H a ≠ none -> K.lookup a = none) ->
   codeAny (model P w) callerA (.call (.ref fa) ⟨[.ref a], []⟩) (fun r s' => r = .ok (.ret (.bool true)) /\ OldK s₁.heap s'.heap /\ s'.os = s₁.os /\ AllBare s'.gens) s₁ := by
  intro H hO hS hok hA hK
  have base_of : ∀ {b : Addr} {o : Obj}, s₁.heap.get? b = some o -> H b = none -> (Zm3 s₁.heap H).get? b = some o := fun e n => Zm4 e n
  have noA : ∀ {b : Addr} {o : Obj} {es : Array DictEntry} {ep : Nat}, s₁.heap.get? b = some o -> o.data = .dict es ep -> H b = none := fun {b o es ep} e d => by
   cases q : H b with
   | none => rfl
   | some u =>
    have e' : b = a := hA b (by rw [q]; simp)
    subst e'
    rw [ha] at e; cases e
    have d' : Data.seq vs.toArray _ = Data.dict es ep := d
    cases d'
  have nsK : ∀ {b : Addr} {m : Str -> Option Value}, s₁.heap.Ns b m -> (Zm3 s₁.heap H).Ns b m := fun {b m} ⟨o, es, ep, e, d, r⟩ => ⟨o, es, ep, base_of e (noA e d), d, r⟩
  have hKb : K.In (Zm3 s₁.heap H) := fun b o e => base_of (KX b o e) (by
   cases q : H b with
   | none => rfl
   | some u =>
    have e' : b = a := hA b (by rw [q]; simp)
    subst e'
    rw [hK (by rw [q]; simp)] at e; cases e)
  have hM : Mod K mg (Zm3 s₁.heap H) := ⟨hKb, nsK hns, ⟨mb, nsK hb, hbb⟩, let ⟨mc, h1, h2⟩ := hlim; ⟨mc, nsK h1, h2⟩⟩
  have e0 : Zod P w K mg (Zm3 s₁.heap H) callerA [] s₁ H := ⟨rfl, hM, fun b o e => Zn5 e, ZbF (ZlR _ _), trivial, fun b hb => absurd (show b ∈ ([] : List Addr) from hb) (by simp), hok, .of_eq hg⟩
  refine codeAny_mono ((F _ hKb (nsK hns)).run callerA [] s₁ H ⟨[.ref a], []⟩ [.ref a] [.ref a] _ _ hr e0 (hbind s₁ (.ref a)) (.cons rfl .nil) (hsp H hO hS)) fun r s' h => ?_
  cases r with
  | error e => exact (hCX H e s' h).elim
  | ok fl =>
   cases fl with
   | next => exact False.elim h
   | brk => exact False.elim h
   | cont => exact False.elim h
   | ret u =>
    obtain ⟨v, H', os, bare, un, hok', r', q⟩ := h
    have q' : v = .bl true := q
    subst q'
    obtain rfl : u = Value.bool true := r'
    refine ⟨rfl, OldK.of_keep fun b o e => ?_, os, bare⟩
    cases q : H b with
    | none => exact un.keep b o e q (by intro z; exact absurd (show b ∈ ([] : List Addr) from z) (by simp)) (by simp)
    | some u =>
     rcases hO b with z | ⟨ob, xs, z⟩
     ·rw [q] at z; cases z
     ·have z2 := un.frzs b ob _ z
      obtain ⟨e1, _⟩ := hok b _ z
      obtain ⟨e2, _⟩ := hok' b _ z2
      rw [e] at e1; cases e1
      exact e2
 cases hk : K.lookup a with
 | some o =>
  have e := KX a o hk
  rw [ha] at e
  cases e
  refine core (fun _ => none) (fun _ => .inl rfl) (.inr ⟨_, vs.toArray, _, hk, rfl, rfl, rfl, by rw [ZaJ, lenV]; exact hl, by simpa using rv⟩) (fun b u z => by have z' : (none : Option HO) = some u := z; cases z') (fun b z => absurd rfl z) fun z => absurd rfl z
 | none =>
  refine core (fun b => if b = a then some (.frz { cls := .type "list", data := .seq vs.toArray } (.lst (ns.map V.int))) else none) (fun b => ?_) (.inl (.inr ⟨{ cls := .type "list", data := .seq vs.toArray }, if_pos rfl⟩)) (fun b u z => ?_) (fun b z => ?_) fun _ => hk
  ·by_cases hb : b = a
   ·exact .inr ⟨_, _, if_pos hb⟩
   ·exact .inl (if_neg hb)
  ·by_cases hb : b = a
   ·have z' := (if_pos hb).symm.trans z
    cases z'
    subst hb
    exact ⟨ha, by rw [Zar]; exact hl, vs, _, rv, ha⟩
   ·have z' := (if_neg hb).symm.trans z
    cases z'
  ·by_cases hb : b = a
   ·exact hb
   ·exact absurd (if_neg hb) z
end L2.Internal
namespace L2.Internal
open PySem PySem.Spec PyProof.Rows
theorem walk_of {l : PySem.W.OpenLaw} {n k : Nat} {q : Program} {loose : List Str} {XP : (Str -> Option Value) -> Heap -> Prop} {YP : World -> Heap -> Prop} {d : DefRec} {K : Params -> PySem.W.Frag} {CX : World -> CXT} {sp : World -> Sp} {x : Str}
  (hn : l.most = some n) (hn2 : n <= sizeLine) (hdf : d.params.defaults = []) (hr : ZgC k callerA)
  (hY : ∀ (w : World) (h : Heap), YP w h -> (K w.params).In h)
  (F : ∀ (w : World) (mg : Str -> Option Value) (fa : Addr) (h : Heap), (K w.params).In h -> h.Ns mainGlobals mg -> mg d.name = some (.ref fa) ->
   ∃ fd : FuncData, (∀ (s : Shared) (u : Value), BindsTo s fd ⟨[u], []⟩ [(x, u)]) /\
    ∀ base : Heap, (K w.params).In base -> base.Ns mainGlobals mg -> Ze0 l.prog w (K w.params) mg base (CX w) k fa fd [x] (sp w))
  (hsp : ∀ (w : World) (H : Hp) (a : Addr) (ns : List Int), ns.length <= n -> ZqL H -> SqL (K w.params) H a (ns.map V.int) -> sp w [.ref a] H (fun v _ => v = .bl true) fun _ _ _ => False)
  (hCX : ∀ (w : World) (H : Hp) (s : Shared) (e : Value) (s' : Shared), CX w [] H s (fun _ _ _ => False) e s' -> False) :
  PySem.W.WalkO q loose XP YP l.row.toRowW d [] (fun f vs => PySem.call f vs) := by
 refine Att.Internal.attach_call hn hdf fun w s₀ s₁ mg mb fa o pm cd doc a vs ns G Y ho hd hcd hmg hobj hints hlen hg => ?_
 have KX := hY w _ Y
 obtain ⟨fd, hb, hF⟩ := F w mg fa _ KX G.T.g hmg
 exact Zng KX G.T.g G.T.b G.T.builtins G.T.nolimit hg hobj hints (ZbA hlen hn2) hr hF hb (fun H hO hS => hsp w H a ns hlen hO hS) fun H e s' => hCX w H s₁ e s'
end L2.Internal
namespace L2.Internal
open PySem PySem.Spec PyProof.Rows
noncomputable def ZdM (s : Stmt) (j : Nat) : Stmt := match s with
 | .ClassDef _ _ _ body _ _ _ _ _ _ _ => body.getD j (.Pass ⟨0, 0, 0, 0⟩)
 | _ => .Pass ⟨0, 0, 0, 0⟩
noncomputable def Zdg (s : Stmt) : Arguments := match s with
 | .FunctionDef _ a _ _ _ _ _ _ _ _ => a
 | _ => { posonlyargs := [], args := [], vararg := none, kwonlyargs := [], kw_defaults := [], kwarg := none, defaults := [] }
noncomputable def Zdf (s : Stmt) : List Stmt := match s with
 | .FunctionDef _ _ b _ _ _ _ _ _ _ => b
 | _ => []
noncomputable def Zc5 (s : Stmt) : Scope := match s with
 | .FunctionDef _ _ _ _ _ _ sc _ _ _ => sc
 | _ => { kind := .function, names := [], isGenerator := false, isCoroutine := false }
noncomputable abbrev CX0 : CXT := fun _ _ _ _ _ _ => False
noncomputable abbrev E0 : XK := fun _ _ _ => False
theorem Zdp {X : Cx} : Zg9 CX0 X E0 := fun _ _ _ _ _ _ _ h => h.elim
structure Fun (K : PySem.W.Frag) (x qual : Str) (st : Stmt) (f : Addr) (fd : FuncData) : Prop where
 ex : ∃ (oc : Value) (od : Option Addr) (kV doc pm : Value) (an : Option Addr) (cdv ct : Value) (osl : Array (Option Value)),
  fd = Zci x qual (Zdg st) (Zdf st) (Zc5 st) .none kV doc pm an cdv ct /\ K.lookup f = some ⟨oc, od, .func fd, osl⟩ /\ Zcj K cdv qual = true
 kp : Zb8 K (.ref f) = true
section
variable {P : Program} {w : World} {K : PySem.W.Frag} {mg : Str -> Option Value} {base : Heap}
theorem Fun.ok {x qual : Str} {st : Stmt} {f : Addr} {fd : FuncData} {N ps : List Str} {k : Nat} {sp : Sp} (F : Fun K x qual st f fd) (S : Zdh N ps (Zc5 st)) (len : ∀ vs H Q E, sp vs H Q E -> vs.length = ps.length)
  (hbody : ∀ (cdv : Value) (A : Around) (outer : List Env) (s : Shared) (H : Hp) (vs : List V) (Q : VK) (E : XK), ZgC k (A.deeper (envOfC qual (Zc5 st) s.heap.objs.size f cdv)) -> sp vs H Q E ->
   ∃ t, PSs (Zo1 CX0 P w K mg base N qual (Zc5 st) f cdv A outer s H E).nox (Zdf st) t /\ t { nx := fun _ H' => Q .non H', rt := Q } (start N vs) H) : Ze0 P w K mg base CX0 (k + 1) f fd ps sp := by
 obtain ⟨oc, od, kV, doc, pm, an, cdv, ct, osl, rfl, lk, hcd⟩ := F.ex
 refine ZqE lk hcd S len fun A outer s H vs Q E hr hsp => ?_
 obtain ⟨t, h, q⟩ := hbody cdv A outer s H vs Q E hr hsp
 exact ⟨t, h.nox, q⟩
theorem Fun.binds {x qual : Str} {st : Stmt} {f : Addr} {fd : FuncData} {ps : List Str} (F : Fun K x qual st f fd)
  (h : ∀ (kV doc pm : Value) (an : Option Addr) (cdv ct : Value) (us : List Value), us.length = ps.length -> bindArgs (Zci x qual (Zdg st) (Zdf st) (Zc5 st) .none kV doc pm an cdv ct) ⟨us, []⟩ = pure (ps.zip us)) : ZdH K fd ps [] := by
 obtain ⟨oc, od, kV, doc, pm, an, cdv, ct, osl, rfl, lk, hcd⟩ := F.ex
 exact .all (h kV doc pm an cdv ct)
theorem Zda {x qual : Str} {st : Stmt} {f : Addr} {oc : Value} {od an : Option Addr} {osl : Array (Option Value)} {kV doc pm cdv ct : Value} (l : K.lookup f = some ⟨oc, od, .func (Zci x qual (Zdg st) (Zdf st) (Zc5 st) .none kV doc pm an cdv ct), osl⟩)
  (c : Zcj K cdv qual = true) (k : Zb8 K (.ref f) = true) : Fun K x qual st f (Zci x qual (Zdg st) (Zdf st) (Zc5 st) .none kV doc pm an cdv ct) := ⟨⟨oc, od, kV, doc, pm, an, cdv, ct, osl, rfl, l, c⟩, k⟩
end
theorem ZhA {A : Around} {k : Nat} (hr : ZgC k A) : A.units + 1 < cLine := Nat.lt_of_le_of_lt (Nat.add_le_add_left (by decide : 1 <= 64) _) hr.units
section
variable {X : Cx}
theorem pv (i : Nat) {x : Str} {pos : Pos} (hN : autoParam (X.N[i]? = some x) L2.Internal.auR._auto_1) (hv : Vis X.env.scope x := by first | exact Or.inl rfl | exact Or.inr (.inl rfl) | exact Or.inr (.inr rfl)) (hd : autoParam ((x == ("__debug__" : Str)) = false) L2.Internal.auD._auto_1)
  (hcd : autoParam ((x == ("__classdict__" : Str)) = false) L2.Internal.auD._auto_1) : PE X (.Name x pos) (Zre i) := Zo7 hN hv hd hcd
end
theorem Zen {A B : Prop} (h : B) : if false = true then A else B := by
 rw [if_neg Zcy]
 exact h
theorem Zfh {A B : Prop} (h : A) : if true = true then A else B := by
 rw [if_pos rfl]
 exact h
theorem Zql {c A B : Prop} [Decidable c] (h1 : c -> A) (h2 : ¬ c -> B) : if c then A else B := by
 by_cases h : c
 ·rw [if_pos h]
  exact h1 h
 ·rw [if_neg h]
  exact h2 h
def Zdj (H H' : Hp) : Prop := ∀ b o, H b = some o -> H' b = some o
theorem Zdj.refl (H : Hp) : Zdj H H := fun _ _ h => h
theorem Zdj.trans {H H1 H2 : Hp} (a : Zdj H H1) (b : Zdj H1 H2) : Zdj H H2 := fun c o h => b c o (a c o h)
theorem Zdj.free {H H' : Hp} (e : Zdj H H') {l : Addr} (h : H' l = Option.none) : H l = Option.none := by
 cases q : H l with
 | none => rfl
 | some o =>
  rw [e l o q] at h
  cases h
theorem Zdj.seq {K : PySem.W.Frag} {H H' : Hp} {a : Addr} {xs : List V} (e : Zdj H H') (h : SqL K H a xs) : SqL K H' a xs := by
 rcases h with (h | ⟨o, h⟩) | h
 ·exact .inl (.inl (e _ _ h))
 ·exact .inl (.inr ⟨o, e _ _ h⟩)
 ·exact .inr h
section
variable {X : Cx}
end
section
variable {κ : Type} [DecidableEq κ]
theorem Zkc : ∀ {l : List κ} {k : κ}, l.Nodup -> ¬ k ∈ l -> (l ++ [k]).Nodup
 | [], k, _, _ => by simp
 | a :: r, k, h, hk => by
  obtain ⟨h1, h2⟩ := Zat.mp h
  show (a :: (r ++ [k])).Nodup
  refine Zat.mpr ⟨fun m => ?_, Zkc h2 fun m => hk (Zag.mpr (Or.inr m))⟩
  rcases Zah.mp m with q | q
  ·exact h1 q
  ·exact hk (Zag.mpr (Or.inl (ZaM.mp q).symm))
end
end L2.Internal
namespace L2.Internal
open PySem PySem.Spec PyProof.Rows
section
variable {X : Cx}
theorem Znh {x : Str} {a : Addr} {pos : Pos} (hg : Gl X x) (hm : X.mg x = some (.ref a)) (hd : autoParam ((x == ("__debug__" : Str)) = false) L2.Internal.auD._auto_1) : PE X (.Name x pos) (tC (.ref a)) := Zn6 hg hm (show ZdU (.ref a) _ from rfl) hd
theorem ZhB {x : Str} {n : String} {pos : Pos} (hg : Gl X x) (hm : X.mg x = none) (hv : bootBuiltins x = some (.type n)) (hn : autoParam (x ≠ "__name__") L2.Internal.auD._auto_1) (hd : autoParam ((x == ("__debug__" : Str)) = false) L2.Internal.auD._auto_1) : PE X (.Name x pos) (tC (.ty n)) := Zn7 hg hm hv (show ZdU (.ty n) _ from rfl) hn hd
end
theorem Zfo : bootBuiltins "len" = some (.builtin "len") := by decide +kernel
theorem ZnL : bootBuiltins "all" = some (.builtin "all") := by decide +kernel
theorem Zmh : bootBuiltins "sum" = some (.builtin "sum") := by decide +kernel
theorem Zee : bootBuiltins "isinstance" = some (.builtin "isinstance") := by decide +kernel
theorem Zpx : bootBuiltins "int" = some (.type "int") := by decide +kernel
theorem Zpy : bootBuiltins "str" = some (.type "str") := by decide +kernel
theorem Zon : bootBuiltins "bool" = some (.type "bool") := by decide +kernel
theorem Zgr : bootBuiltins "list" = some (.type "list") := by decide +kernel
theorem ZiC : bootBuiltins "tuple" = some (.type "tuple") := by decide +kernel
theorem Zkd : bootBuiltins "dict" = some (.type "dict") := by decide +kernel
noncomputable def Its (x : Str) : It := ⟨fun i _ => i < x.cps.size, fun i H v H' => H' = H /\ ∃ c, x.cps[i]? = some c /\ v = .str ⟨#[c]⟩, fun i _ => i = x.cps.size⟩
theorem ZkS {P : Program} {w : World} {K : PySem.W.Frag} {tg : Expr} (it : Addr) (T : String) (x : Str) (t : Tok)
  (hT : ["enumerate", "zip", "dict_itemiterator", "dict_reverseitemiterator", "odict_iterator", "itertools.zip_longest", "itertools.pairwise"].contains T = false)
  (W : ∀ A : Around, A.handled = none -> Walks P w A it [it] [it] x.cps.size (SignAt x) (fun i h => h.IsStrIter it T x t i))
  (hself : ∀ (A : Around) (i : Nat) (s : Shared) (Q : Value -> Shared -> Prop) (E : Value -> Shared -> Prop), s.heap.IsStrIter it T x t i -> Q (.ref it) s -> wpAny (model P w) A (pyIter (.ref it)) Q E s) :
  ZoZ P w K tg (Its x) [it] it (fun i h => h.IsStrIter it T x t i) where
 mem := by simp
 obj := fun i h st b hb => by
  have e : b = it := by simpa using hb
  subst e
  obtain ⟨o, e, c, d⟩ := st
  exact ⟨o, e, fun v z => by rw [d] at z; cases z⟩
 keep := fun i h h' st k => by
  obtain ⟨o, e, r⟩ := st
  exact ⟨o, k it (by simp) o e, r⟩
 item := by
  intro X hP hw hK hc i pins s σ H E I hf st hg
  subst hP hw hK
  obtain ⟨f0, f1, f2, f3, f4, f5⟩ := hf it (by simp)
  refine (W X.A (I.ok.hd hc)).item i s _ _ hg st fun v h' tk hv st' kk => ?_
  obtain ⟨c, u, hc', rfl⟩ := hv
  have I1 : Inv X pins σ H { s with heap := h', toks := tk } := I.turned (fun b o hb e => kk b o (by simpa using hb) e) f0 f1 f3 f4 f5
  obtain ⟨o, e, c1, d⟩ := id st'
  exact ⟨_, rfl, Zm5 (s := { s with heap := h', toks := tk }) e c1 d hT ⟨.str ⟨#[c]⟩, H, I1, ⟨u, rfl⟩, ⟨rfl, c, hc', rfl⟩, st', fun b hb => (hf b hb).1⟩⟩
 done := by
  intro X hP hw hK hc i pins s σ H E I hf st hg
  subst hP hw hK
  obtain ⟨f0, f1, f2, f3, f4, f5⟩ := hf it (by simp)
  have hg' : i = x.cps.size := hg
  subst hg'
  exact (W X.A (I.ok.hd hc)).done s _ _ st fun h' tk kk => ⟨rfl, I.turned (fun b o hb e => kk b o (by simpa using hb) e) f0 f1 f3 f4 f5⟩
 self := fun A i s Q E st h => hself A i s Q E st h
section
variable {X : Cx} {tg : Expr}
def iStr (tl : TE) : TI := fun σ H R => tl σ H fun v H1 => ∃ x, v = .str x /\ R (Its x) H1
theorem Zpz {l : Expr} {tl : TE} (hl : PE X l tl) : PI X tg l (iStr tl) := by
 intro pins s σ H R I h
 refine thn (hl pins s σ H _ I h) fun v s1 ⟨y, H1, I1, r1, q1⟩ => ?_
 obtain ⟨x, e, q⟩ := q1
 subst e
 obtain ⟨t, rfl⟩ := r1
 have fp : ∀ b ∈ [s1.heap.objs.size], ZkL X pins H1 b := fun b hb => by
  have e : b = s1.heap.objs.size := by simpa using hb
  subst e
  exact I1.fpOk (ZbD _) (I1.hok.fresh (ZbD _))
 cases ha : x.cps.all (· < 128)
 ·refine wpAny_pyIter_wide ha ?_
  exact ⟨s1.heap.objs.size, [s1.heap.objs.size], _, _, H1, rfl, I1.kept (t' := s1.toks) fun b o e => ZcP _ e,
   ZkS _ "str_iterator" x t (by decide) (fun A hA => Walks.strWide hA _ x t) (fun _ _ _ _ _ st h => wpAny_pyIter_striter_wide st h), ⟨_, ZcO _ rfl, rfl, rfl⟩, fp, q⟩
 ·refine wpAny_pyIter_ascii ha ?_
  exact ⟨s1.heap.objs.size, [s1.heap.objs.size], _, _, H1, rfl, I1.kept (t' := s1.toks) fun b o e => ZcP _ e,
   ZkS _ "str_ascii_iterator" x t (by decide) (fun A hA => Walks.strAscii hA _ x t) (fun _ _ _ _ _ st h => wpAny_pyIter_striter_ascii st h), ⟨_, ZcO _ rfl, rfl, rfl⟩, fp, q⟩
end
noncomputable def blk (X : Cx) (N : List Str) (scope : Scope) (cl : List (Str × Addr)) (C : Addr) (s₀ : Shared) (H₀ : Hp) (ex : List Addr) (pins : List (Addr × Obj)) : Cx :=
 { X with N := N, s₀ := s₀, H₀ := H₀, env := compEnvC scope cl C X.env, outer := X.stack, stack := X.stack, ex := ex, fn := fun _ => false, pn := X.pn ++ pins, xe := fun _ _ => False }
def PTs (X : Cx) (cs : List Expr) (t : TT) : Prop :=
 ∀ (pins : List (Addr × Obj)) (s : Shared) (σ : St) (H : Hp) (Q : Bool -> Hp -> Prop), Inv X pins σ H s -> t σ H Q ->
  wpAny (model X.prog X.w) X.A (forIn cs true fun c r => if r = true then do let ok <- isTrue c X.env (eval c X.env); pure (ForInStep.yield ok) else pure (ForInStep.yield r)) (TP X pins σ Q) X.xe s
def Zke : TT := fun _ H Q => Q true H
theorem Ze3 {X : Cx} : PTs X [] Zke := fun pins s σ H Q I h => wpAny_pure ⟨H, I, h⟩
structure Zmi (X : Cx) (N : List Str) (scope : Scope) (cl : List (Str × Addr)) (f : St -> St) (i : Nat) (x : Str) : Prop where
 kind : scope.kind = .function
 cell : ∀ y ∈ scope.names, y.2 ≠ .cell
 names : ∀ y ∈ scope.names, y.2 = .local -> scope.names.lookup y.1 = some .local
 clos : closureFor scope X.env = pure cl
 lk : ∀ y c, cl.lookup y = some c -> X.env.cells.lookup y = some c
 has : ∀ y, ((relabel scope X.env).names.lookup y = some .cell \/ (relabel scope X.env).names.lookup y = some .free) -> ∃ c, cl.lookup y = some c
 nd : N.Nodup
 ix : N[i]? = some x
 loc : scope.names.lookup x = some .local
 len : ∀ σ, σ.length = X.N.length -> (f σ).length = N.length
 val : ∀ (σ : St) (k : Nat) (y : Str) (v : V), N[k]? = some y -> (f σ)[k]? = some (some v) -> ∃ j : Nat, X.N[j]? = some y /\ σ[j]? = some (some v) /\ X.env.scope.names.lookup y = some .cell /\ (relabel scope X.env).names.lookup y = some .cell
theorem Zmj {X : Cx} {N : List Str} {scope : Scope} {cl : List (Str × Addr)} {f : St -> St} {i : Nat} {x : Str} (B : Zmi X N scope cl f i x) {pins : List (Addr × Obj)} {σ : St} {H : Hp} {s : Shared} {h₁ : Heap} {tk : Nat} {m : Str -> Option Value} {ex : List Addr}
  (I : Inv X pins σ H s) (hex : ∀ b ∈ ex, ZkL X pins H b /\ b < s.heap.objs.size) (keep : ∀ b o, s.heap.get? b = some o -> h₁.get? b = some o) (hn : h₁.Ns s.heap.objs.size m) :
  Inv (blk X N scope cl s.heap.objs.size s H ex pins) [] (f σ) H { s with heap := h₁, toks := tk } := by
 have nst : ∀ b, b ≠ X.env.locals -> b ∉ X.fs -> b ∉ frs X.stack := fun b h1 h2 hb => (Zag.mp (I.stkSub b hb)).elim h1 h2
 have ltC : ∀ y c, X.env.cells.lookup y = some c -> c < s.heap.objs.size := fun y c e => by
  obtain ⟨v, o, ho, _⟩ := I.cell y c e
  exact ZcN ho
 refine ⟨⟨I.ok.mod, B.kind, I.ok.glob, I.ok.blt, ZbD _, fun y z c h1 h2 => I.ok.inj y z c (B.lk y c h1) (B.lk z c h2), fun y hy => B.has y hy, fun y c h => (nomatch h), I.ok.hd, I.ok.frames, .inl rfl, fun b hb => ?_, I.bs, ZbA I.ok.bsz I.sz, fun b o e hb => ?_, fun b hb => ?_, I.stack, I.stkFree⟩,
  rfl, I.bare, Un.kept keep, ⟨m, hn, fun k y v e1 e2 e3 => ?_⟩, fun y c e => ?_, I.hok.fresh (ZbD _), fun y c e => I.freeC y c (B.lk y c e), fun p hp => ?_, I.hok.kept keep, B.len σ I.len⟩
 ·obtain ⟨⟨_, _, _, _, hc, _⟩, lt⟩ := hex b hb
  exact ⟨Zbz lt, fun y c e => hc y c (B.lk y c e)⟩
 ·obtain ⟨⟨_, _, _, h4, _, _⟩, _⟩ := hex b hb
  rcases h4 with z | z
  ·exact I.ok.noex b o e z
  ·exact absurd (Zbx (ZcN (I.ok.bs b o e).1) z) (Zby _)
 ·obtain ⟨⟨_, h2, h3, _, _, _⟩, _⟩ := hex b hb
  exact nst b h2 h3
 ·obtain ⟨j, h1, h2, h3, h4⟩ := B.val σ k y v e1 e2
  obtain ⟨m', _, hl⟩ := I.loc
  obtain ⟨u, r, l⟩ := hl j y v h1 h2 (.inr (.inl h3))
  refine ⟨u, r, ?_⟩
  rcases l with ⟨hk, _⟩ | ⟨_, c, hc, z⟩
  ·have hk' : X.env.scope.names.lookup y = some .local := hk
   rw [h3] at hk'
   cases hk'
  ·obtain ⟨c', hc'⟩ := B.has y (.inl h4)
   have e : c' = c := ZbR.inj ((B.lk y c' hc').symm.trans hc)
   subst e
   obtain ⟨o, ho, hd⟩ := z
   exact .inr ⟨.inl h4, c', hc', o, keep _ o ho, hd⟩
 ·obtain ⟨v, o, ho, hd⟩ := I.cell y c (B.lk y c e)
  exact ⟨v, o, keep _ o ho, hd⟩
 ·rw [Zas] at hp
  obtain ⟨e, n, ne, nf, d⟩ := I.pin p hp
  exact ⟨keep _ _ e, n, Zbz (ZcN e), nst _ ne nf, d⟩
theorem ZeQ {env : Env} : ∀ {names : List (Str × NameKind)} {x : Str} {k : NameKind},
  (names.map fun (n, k) => if (k == NameKind.free && env.scope.kind == .function && env.kindOf n == some .cell) then (n, NameKind.cell) else (n, k)).lookup x = some k ->
  ∃ k0, names.lookup x = some k0 /\ (k = k0 \/ (k0 = .free /\ k = .cell))
 | [], _, _, h => by simp at h
 | (n, k0) :: r, x, k, h => by
  have ih := @ZeQ env r x k
  have h : Zap x ((if (k0 == NameKind.free && env.scope.kind == .function && env.kindOf n == some .cell) = true then (n, NameKind.cell) else (n, k0)) :: (r.map fun (n, k) => if (k == NameKind.free && env.scope.kind == .function && env.kindOf n == some .cell) then (n, NameKind.cell) else (n, k))) = some k := h
  cases hx : x == n with
  | true =>
   by_cases hc : (k0 == NameKind.free && env.scope.kind == .function && env.kindOf n == some .cell) = true
   ·rw [if_pos hc] at h
    simp only [ZaN, hx] at h ⊢
    have hf : k0 = .free := by
     have hc' := hc
     simp only [ZcA] at hc'
     exact eq_of_beq hc'.1.1
    exact ⟨k0, rfl, .inr ⟨hf, (ZbR.inj h).symm⟩⟩
   ·rw [if_neg hc] at h
    simp only [ZaN, hx] at h ⊢
    exact ⟨k0, rfl, .inl (ZbR.inj h).symm⟩
  | false =>
   have h2 : (r.map fun (n, k) => if (k == NameKind.free && env.scope.kind == .function && env.kindOf n == some .cell) then (n, NameKind.cell) else (n, k)).lookup x = some k := by
    by_cases hc : (k0 == NameKind.free && env.scope.kind == .function && env.kindOf n == some .cell) = true
    ·rw [if_pos hc] at h; simp only [ZaN, hx] at h; exact h
    ·rw [if_neg hc] at h; simp only [ZaN, hx] at h; exact h
   obtain ⟨k1, e1, e2⟩ := ih h2
   exact ⟨k1, by simp only [ZaN, hx]; exact e1, e2⟩
theorem Zft {env : Env} (hk : env.scope.kind = .function) : ∀ {names : List (Str × NameKind)} {x : Str}, env.scope.names.lookup x = some .cell -> names.lookup x = some .free ->
  (names.map fun (n, k) => if (k == NameKind.free && env.scope.kind == .function && env.kindOf n == some .cell) then (n, NameKind.cell) else (n, k)).lookup x = some .cell
 | [], _, _, h => by simp at h
 | (n, k0) :: r, x, hc, h => by
  have ih := @Zft env hk r x hc
  show Zap x ((if (k0 == NameKind.free && env.scope.kind == .function && env.kindOf n == some .cell) = true then (n, NameKind.cell) else (n, k0)) :: _) = _
  cases hx : x == n with
  | true =>
   simp only [ZaN, hx] at h
   cases h
   have e : x = n := eq_of_beq hx
   have hc' : env.kindOf n = some .cell := by rw [<- e]; exact hc
   simp [ZaN, hx, hk, hc']
  | false =>
   simp only [ZaN, hx] at h
   by_cases hq : (k0 == NameKind.free && env.scope.kind == .function && env.kindOf n == some .cell) = true
   ·rw [if_pos hq]; simp only [ZaN, hx]; exact ih h
   ·rw [if_neg hq]; simp only [ZaN, hx]; exact ih h
theorem blk0 {X : Cx} {scope : Scope} {x : Str} (hk : scope.kind = .function) (hn : ∀ p ∈ scope.names, p.2 ≠ .cell /\ p.2 ≠ .free) (hl : ∀ y ∈ scope.names, y.2 = .local -> scope.names.lookup y.1 = some .local)
  (hx : scope.names.lookup x = some .local) (hc : closureFor scope X.env = pure []) : Zmi X [x] scope [] (fun _ => [none]) 0 x where
 kind := hk
 cell := fun y hy => (hn y hy).1
 names := hl
 clos := hc
 lk := fun y c h => by simp at h
 has := fun y h => by
  rcases h with h | h
  ·obtain ⟨k0, e, z⟩ := ZeQ h
   have m := hn _ (PySem.mem_of_lookup e)
   rcases z with z | ⟨z, _⟩
   ·exact absurd z.symm m.1
   ·exact absurd z m.2
  ·obtain ⟨k0, e, z⟩ := ZeQ h
   have m := hn _ (PySem.mem_of_lookup e)
   rcases z with z | ⟨z, _⟩
   ·exact absurd z.symm m.2
   ·exact absurd z m.2
 nd := by simp
 ix := rfl
 loc := hx
 len := fun _ _ => rfl
 val := fun σ k y v h1 h2 => by
  cases k with
  | zero => simp at h2
  | succ k => simp at h2
def LcP (J : It) (i : Nat) (tt : TT) (te : TE) (Q : VK) (τ : St) (H1 : Hp) (D : Addr) : Prop :=
 ∃ W : Nat -> Nat -> St -> Hp -> Prop, (∃ m, W 0 m τ (upd H1 D (.lst []))) /\ ∀ k m σ' H2, W k m σ' H2 ->
  (J.stop k H2 /\ Q (.ref D) H2) \/ (J.go k H2 /\ ∀ v H3, J.yld k H2 v H3 -> tt (σ'.set i (some v)) H3 fun ok H4 => if ok = true
   then te (σ'.set i (some v)) H4 fun y H5 => ∃ xs, H5 D = some (.lst xs) /\ xs.length < sizeLine /\ ∃ m', m' < m /\ W (k + 1) m' (σ'.set i (some v)) (upd H5 D (.lst (xs ++ [y])))
   else ∃ m', m' < m /\ W (k + 1) m' (σ'.set i (some v)) H4)
def tLC (wi : TI) (f : St -> St) (i : Nat) (tt : TT) (te : TE) : TE := fun σ H Q => wi σ H fun J H1 => ∀ D, H1 D = none -> LcP J i tt te Q (f σ) H1 D
theorem ZiD {X : Cx} {elt iter : Expr} {x : Str} {px : Pos} {ifs : List Expr} {scope : Scope} {pos : Pos} {N : List Str} {cl : List (Str × Addr)} {f : St -> St} {i : Nat} {wi : TI} {tt : TT} {te : TE}
  (hc : X.calm = true) (B : Zmi X N scope cl f i x) (hi : PI X (.Name x px) iter wi)
  (htt : ∀ C s₀ H₀ ex pins, PTs (blk X N scope cl C s₀ H₀ ex pins) ifs tt) (hte : ∀ C s₀ H₀ ex pins, PE (blk X N scope cl C s₀ H₀ ex pins) elt te)
  (hs : autoParam (∀ x, foldedSetIterable iter X.env x = pure x) L2.Internal.auI._auto_1) : PE X (.ListComp elt [⟨.Name x px, iter, ifs, 0⟩] scope pos) (tLC wi f i tt te) := by
 intro pins s σ H Q I h
 rw [eval_ListComp]
 refine wpAny_comprehension_free (use := none) rfl hs B.clos B.kind B.names (thn (hi pins s σ H _ I h) fun xv s1 h1 => thn h1 fun itv s2 h2 => ?_)
 obtain ⟨it, fp, tn, J, H2, rfl, I2, T, st2, f2, q⟩ := h2
 have hD : H2 s2.heap.objs.size = none := I2.fresh
 obtain ⟨W, ⟨m0, w0⟩, turn⟩ := q _ hD
 refine wpAny_newObj_type (wpAny_newFunctionEnv B.cell (by intro y hy; simp at hy) (fun h₁ hns₁ hsb₁ => ?_) B.kind)
 have I3 : Inv X pins σ (upd H2 s2.heap.objs.size (.lst [])) { s2 with heap := s2.heap.push { cls := .type "list", data := .seq ([] : List Value).toArray } } := I2.lnew (its := []) (ys := []) (t' := s2.toks) .nil (ZbE _)
 have lt2 : ∀ b ∈ fp, b < s2.heap.objs.size := fun b hb => by
  obtain ⟨o, ho, _⟩ := T.obj _ _ st2 b hb
  exact ZcN ho
 have fp3 : ∀ b ∈ fp, ZkL X pins (upd H2 s2.heap.objs.size (.lst [])) b := fun b hb => by
  refine ⟨?_, (f2 b hb).2⟩
  rw [Zc6 (Zbz (lt2 b hb))]
  exact (f2 b hb).1
 generalize hs3 : ({ s2 with heap := s2.heap.push { cls := .type "list", data := .seq ([] : List Value).toArray } } : Shared) = s3 at I3 hns₁ hsb₁ ⊢
 have eh : s2.heap.push { cls := .type "list", data := .seq ([] : List Value).toArray } = s3.heap := by rw [<- hs3]
 have lt3 : ∀ b ∈ fp, b < s3.heap.objs.size := fun b hb => by
  rw [<- eh, ZcQ]
  exact ZbH (lt2 b hb)
 have old : ∀ b o, s3.heap.get? b = some o -> h₁.get? b = some o := fun b o e => hsb₁.extBut b o (Zbz (ZcN e)) (ZcP _ e)
 have I4 := Zmj (tk := s3.toks + ([] : List (Str × Value)).length) B I3 (ex := fp) (fun b hb => ⟨fp3 b hb, lt3 b hb⟩) old hns₁
 have st4 : tn 0 h₁ := T.keep _ _ _ st2 fun b _ o e => old b o (by rw [<- eh]; exact ZcP _ e)
 have fpB : ∀ {H' : Hp}, (∀ b ∈ fp, H' b = none) -> ∀ b ∈ fp, ZkL (blk X N scope cl s3.heap.objs.size s3 (upd H2 s2.heap.objs.size (.lst [])) fp pins) [] H' b := fun {H'} hn b hb => by
  obtain ⟨_, g2, g3, g4, g5, g6⟩ := f2 b hb
  refine ⟨hn b hb, Zbz (lt3 b hb), fun z => (Zag.mp (I3.stkSub b z)).elim g2 g3, .inl hb, fun y c e => g5 y c (B.lk y c e), fun p hp => ?_⟩
  rw [Zas] at hp
  exact g6 p hp
 have loop : ∀ s4 : Shared, s4 = { s3 with heap := h₁, toks := s3.toks + ([] : List (Str × Value)).length } ->
   codeAny (model X.prog X.w) X.A (.compLoop (.ListComp elt [⟨.Name x px, iter, ifs, 0⟩] scope pos) 0 (.ref it) (.ref s2.heap.objs.size) (compEnvC scope cl s3.heap.objs.size X.env))
    (compPost (model X.prog X.w) X.A X.xe none (EP X pins σ Q) (.ref s2.heap.objs.size) s3.heap.objs.size) s4 := by
  rintro s4 rfl
  refine codeAny_compLoop_tests (I := fun n s' => ∃ k σ' H', Inv (blk X N scope cl s3.heap.objs.size s3 (upd H2 s2.heap.objs.size (.lst [])) fp pins) [] σ' H' s' /\ tn k s'.heap /\ (∀ b ∈ fp, H' b = none) /\ W k n σ' H') ?_ m0
   ⟨0, f σ, _, I4, st4, fun b hb => (fp3 b hb).1, w0⟩
  rintro n s5 ⟨k, σ5, H5, I5, st5, fr5, w5⟩
  rcases turn k n σ5 H5 w5 with ⟨stop, qn⟩ | ⟨go, step⟩
  ·refine wpAny_mono (T.done (blk X N scope cl s3.heap.objs.size s3 (upd H2 s2.heap.objs.size (.lst [])) fp pins) rfl rfl rfl hc k [] s5 σ5 H5 _ I5 (fpB fr5) st5 stop) (fun r s6 h6 => ?_) fun _ _ z => z
   obtain ⟨hr, I6⟩ := h6
   subst hr
   obtain ⟨m6, hn6, _⟩ := id I6.loc
   refine ⟨m6, hn6, fun h' sb => ?_⟩
   have nC : ∀ b o, s3.heap.get? b = some o -> b ≠ s3.heap.objs.size := fun b o e => Zbz (ZcN e)
   have u6 : Un (frs X.stack) fp (upd H2 s2.heap.objs.size (.lst [])) H5 s3.heap s6.heap := I6.base
   have u7 : Un (frs X.stack) fp (upd H2 s2.heap.objs.size (.lst [])) H5 s3.heap h' :=
    ⟨fun b o e z1 z2 z3 => (sb.2 b (nC b o e)).trans (u6.keep b o e z1 z2 z3), fun b o e z1 z2 z3 => by
     obtain ⟨sl, e1⟩ := u6.slot b o e z1 z2 z3
     exact ⟨sl, (sb.2 b (nC b o e)).trans e1⟩, u6.free, fun b o e z => by
     obtain ⟨o', e1⟩ := u6.there b o e z
     exact ⟨o', (sb.2 b (nC b o e)).trans e1⟩, u6.tups, u6.frzs, u6.tbls⟩
   have hok7 : HOk X.prog X.w H5 h' := fun b o e => (I6.hok b o e).stay (fun c w' hcc e1 => (sb.2 c (fun z => by
     have fr : H5 s3.heap.objs.size = none := I6.free
     rcases hcc with y | y
     ·rw [<- y, z, fr] at e; cases e
     ·rw [z, fr] at y; cases y)).trans e1) (fun _ z => z) fun _ _ z => z
   have I7 : Inv X pins σ H5 { s6 with heap := h' } := I3.call' (s' := { s6 with heap := h' }) (ch := fp) I6.os u7 hok7 I6.bare fun b hb => by
    obtain ⟨_, g2, g3, g4, g5, g6⟩ := f2 b hb
    exact ⟨g4, g2, g5, g6⟩
   exact ⟨.ref s2.heap.objs.size, H5, I7, rfl, qn⟩
  ·refine wpAny_mono (T.item (blk X N scope cl s3.heap.objs.size s3 (upd H2 s2.heap.objs.size (.lst [])) fp pins) rfl rfl rfl hc k [] s5 σ5 H5 _ I5 (fpB fr5) st5 go) (fun r s6 h6 => ?_) fun _ _ z => z
   obtain ⟨u, hr, h6⟩ := h6
   subst hr
   show wpAny _ _ (pure () >>= fun _ => assign (.Name x px) (compEnvC scope cl s3.heap.objs.size X.env) u) _ _ s6
   refine wpAny_bind (wpAny_mono (show wpAny _ _ (pure ()) _ _ s6 from h6) (fun _ s7 h7 => ?_) fun _ _ z => z)
   obtain ⟨v, H7, I7, r7, y7, st7, fr7⟩ := h7
   have I7' := I7.pinned (fpB fr7) (T.obj _ _ st7)
   refine wpAny_assign_Name (Zgb (X := blk X N scope cl s3.heap.objs.size s3 (upd H2 s2.heap.objs.size (.lst [])) fp pins) I7' B.nd B.ix (.inl (lookup_relabel_local B.loc)) r7 (fun s8 I8 => ?_) (.inr (lookup_relabel_local B.loc)))
   have back : ∀ {σ9 : St} {H9 : Hp} {s9 : Shared}, Inv (blk X N scope cl s3.heap.objs.size s3 (upd H2 s2.heap.objs.size (.lst [])) fp pins) ([] ++ Zij fp s7.heap) σ9 H9 s9 -> (∃ m', m' < n /\ W (k + 1) m' σ9 H9) ->
     ∃ m', m' < n /\ ∃ k σ' H', Inv (blk X N scope cl s3.heap.objs.size s3 (upd H2 s2.heap.objs.size (.lst [])) fp pins) [] σ' H' s9 /\ tn k s9.heap /\ (∀ b ∈ fp, H' b = none) /\ W k m' σ' H' := fun {σ9 H9 s9} I9 q9 => by
    obtain ⟨m', hm, w9⟩ := q9
    refine ⟨m', hm, k + 1, σ9, H9, I9.unpinned, T.keep _ _ _ st7 fun b hb o e => (I9.pin (b, o) (Zan _ (Zan _ (Zfq hb e)))).1, fun b hb => ?_, w9⟩
    obtain ⟨o, e, d⟩ := T.obj _ _ st7 b hb
    exact (I9.pin (b, o) (Zan _ (Zan _ (Zfq hb e)))).2.1
   refine wpAny_mono (htt _ _ _ _ _ _ s8 _ H7 _ I8 (step v H7 y7)) (fun ok s9 h9 => ?_) fun _ _ z => False.elim z
   obtain ⟨H9, I9, q9⟩ := h9
   cases ok with
   | false =>
    rw [if_neg Zcy]
    rw [if_neg Zcy] at q9
    exact back I9 q9
   | true =>
    rw [if_pos rfl]
    rw [if_pos rfl] at q9
    refine wpAny_mono (hte _ _ _ _ _ _ s9 _ H9 _ I9 q9) (fun y s10 h10 => ?_) fun _ _ z => False.elim z
    obtain ⟨v10, H10, I10, r10, xs, hx10, hz, q10⟩ := h10
    refine wpAny_mono (ZdA (X := blk X N scope cl s3.heap.objs.size s3 (upd H2 s2.heap.objs.size (.lst [])) fp pins) _ s10 _ H10 (.ref s2.heap.objs.size) [v10] _ [y] (fun _ H11 => H11 = upd H10 s2.heap.objs.size (.lst (xs ++ [v10]))) I10 rfl (.cons r10 .nil) ⟨_, xs, v10, rfl, rfl, hx10, hz, rfl⟩) (fun _ s11 h11 => ?_) fun _ _ z => False.elim z
    obtain ⟨_, H11, I11, _, e11⟩ := h11
    subst e11
    exact back I11 q10
 exact codeAny_compStart_list (loop _ rfl) (T.self _ 0 _ _ _ st4 (loop _ rfl))
section
variable {X : Cx}
theorem Zni {bs : List Bool} : ∀ {us : List Value}, Zem (bs.map V.bl) us -> us = bs.map Value.bool := by
 induction bs with
 | nil => intro us r; rw [ZaH] at r; cases r; rfl
 | cons n ns ih =>
  intro us r
  rw [Zaq] at r
  cases r with
  | cons r1 r2 =>
   cases (show _ = Value.bool n from r1)
   rw [ih r2]
   rfl
theorem Zlz (bs : List Bool) : ((Zaa bs.length).all fun i => (bs[i]?).getD true) = bs.all id := by
 induction bs with
 | nil => rfl
 | cons b r ih =>
  rw [Zao, ZaO, ZaP, List.all_map, ZaP, <- ih]
  rfl
theorem ZlA {h h' : Heap} {o : Obj} (hk : ∀ b x, b ∉ [h.objs.size] -> (h.push o).get? b = some x -> h'.get? b = some x) : ∀ b x, h.get? b = some x -> h'.get? b = some x :=
 fun b x e => hk b x (fun hm => by rw [ZaM.mp hm] at e; exact Zby _ (ZcN e)) (ZcP _ e)
theorem ZkT (hc : X.calm = true) : ZgD X (.builtin "all") (fun xs H Q => ∃ (a : Addr) (bs : List Bool), xs = [.ref a] /\ SqL X.K H a (bs.map V.bl) /\ Q (.bl (bs.all id)) H) := by
 intro pins s σ H xs us Q I r h
 obtain ⟨a, bs, rfl, ha, q⟩ := h
 obtain ⟨u, rfl, ru⟩ := Zhc r
 cases ru
 obtain ⟨its, rv, pl, hz⟩ := I.list ha
 have ei := Zni rv
 subst ei
 have hl : s.heap.IsList a (bs.map Value.bool).toArray := pl.isList
 have hlt : a < s.heap.objs.size := by obtain ⟨_, e, _⟩ := hl; exact ZcN e
 refine call_all_walk (wpAny_pyIter_list hl ?_)
 refine ⟨s.heap.objs.size, [s.heap.objs.size, a], [s.heap.objs.size], (bs.map Value.bool).toArray.size, _, _, fun i => (bs[i]?).getD true, rfl, Walks.list (A := X.A.in1) (I.ok.hd hc) _ a (Zbz hlt) (bs.map Value.bool).toArray,
  ⟨⟨_, ZcO _ rfl, rfl, rfl⟩, hl.push _⟩, fun i v s' Q' E' hP hQ => ?_, fun h' tk hk => ?_⟩
 ·have hv : (bs.map Value.bool)[i]? = some v := by simpa using hP
  rw [ZaA] at hv
  cases e : bs[i]? with
  | none => rw [e] at hv; cases hv
  | some b =>
   rw [e] at hv
   have e2 : v = Value.bool b := (ZbR.inj hv).symm
   subst e2
   simp only [e, Option.getD_some] at hQ
   exact wpAny_truthy_bool hQ
 ·have e : ((Zaa (bs.map Value.bool).toArray.size).all fun i => (bs[i]?).getD true) = bs.all id := by
   rw [ZaJ, Zar]; exact Zlz bs
  rw [e]
  exact ⟨.bl (bs.all id), H, I.kept (ZlA hk), rfl, q⟩
def rSlS : V -> Option Int -> Option Int -> Hp -> VK -> Prop := fun x lo hi H Q => ∃ z, x = .str z /\ z.length <= sizeLine /\ Q (.str (Txt.slice z lo hi)) H
theorem ZnM : SlR X rSlS := by
 intro pins s σ H x v vl vu lo hi sl Q I rx hs pl pu h
 obtain ⟨z, rfl, hz, q⟩ := h
 obtain ⟨t, rfl⟩ := rx
 refine ⟨"str", _, F.slot_str_getitem.lookup, typeIs_str _ _ _, ?_⟩
 have fin : ∀ t' k, EP X pins σ Q (.str (Txt.slice z lo hi) t') { s with toks := k } := fun t' k => ⟨.str _, H, I.tok k, ⟨t', rfl⟩, q⟩
 cases pl with
 | none =>
  cases pu with
  | none => exact wpAny_getItem_str_slice (l := none) (u := none) (st := none) hs rfl (post_val_or_str ⟨ZbA (Txt.slice_le z _ _) hz, fun t' k => fin t' k⟩)
  | int j u => exact wpAny_getItem_str_slice (l := none) (u := some (j, u)) (st := none) hs rfl (post_val_or_str ⟨ZbA (Txt.slice_le z _ _) hz, fun t' k => fin t' k⟩)
 | int i u' =>
  cases pu with
  | none => exact wpAny_getItem_str_slice (l := some (i, u')) (u := none) (st := none) hs rfl (post_val_or_str ⟨ZbA (Txt.slice_le z _ _) hz, fun t' k => fin t' k⟩)
  | int j u => exact wpAny_getItem_str_slice (l := some (i, u')) (u := some (j, u)) (st := none) hs rfl (post_val_or_str ⟨ZbA (Txt.slice_le z _ _) hz, fun t' k => fin t' k⟩)
theorem ZfI : ZgD X (.builtin "isinstance") (fun xs H Q => ∃ x v c t b, xs = [x, v] /\ (∀ u, ZdU v u -> u = c) /\ Zhv X.K H x t /\ PySem.W.kitOne X.K t c = some b /\ Q (.bl b) H) := by
 intro pins s σ H xs us Q I r h
 obtain ⟨x, v, c, t, b, rfl, hc, ht, hk, q⟩ := h
 obtain ⟨u, u', rfl, ru, ru'⟩ := Zpl r
 cases hc u' ru'
 exact Zl4 I ru ht hk fun tk => ⟨.bl b, H, I.tok tk, rfl, q⟩
end
end L2.Internal
namespace L2.Internal
open PySem PySem.Spec PyProof.Rows
section
variable {X : Cx}
open Builtin Builtin.Str in
def PE1 (X : Cx) (e : Expr) (t : TE) : Prop :=
 ∀ (pins : List (Addr × Obj)) (s : Shared) (σ : St) (H : Hp) (Q : VK), Inv X pins σ H s -> 1 <= s.toks -> t σ H Q -> wpAny (model X.prog X.w) X.A (eval e X.env) (fun u s' => 1 <= s'.toks /\ EP X pins σ Q u s') X.xe s
theorem PE.one {e : Expr} {t : TE} (h : PE X e t) : PE1 X e t := fun pins s σ H Q I ht hw => wpAny_mono (wpAny_toks_of ht (h pins s σ H Q I hw)) (fun _ _ z => z) fun _ _ z => z.2
end
end L2.Internal
namespace L2.Internal
open PySem PySem.Spec PyProof.Rows
section
variable {X : Cx} {st : Stmt} {rest : List Stmt} {t u : TS.Internal}
noncomputable def tMid (N : St -> Hp -> Prop) (t u : TS.Internal) : TS.Internal := fun D σ H => t { D with nx := N } σ H /\ ∀ σ' H', N σ' H' -> u D σ' H'
theorem Zoo (N : St -> Hp -> Prop) (h1 : PS X st t) (h2 : PSs X rest u) : PSs X (st :: rest) (tMid N t u) := by
 intro pins s σ H D I h
 refine wpAny_execs_cons (thn (h1 pins s σ H { D with nx := N } I h.1) fun f s1 q => ?_)
 cases f with
 | next =>
  obtain ⟨σ', H', I', q⟩ := q
  exact h2 pins s1 σ' H' D I' (h.2 σ' H' q)
 | ret v => exact q
 | brk => exact q
 | cont => exact q
end
end L2.Internal
namespace L2.Internal
open PySem PySem.Spec PyProof.Rows
section
variable {P : Program} {w : World} {H H' : Hp} {h h' : Heap} {a : Addr} {o : HO}
theorem ZeN.there (x : ZeN P w H h a o) : ∃ ob, h.get? a = some ob := by
 cases o with
 | lst xs => obtain ⟨_, _, _, _, e⟩ := x; exact ⟨_, e⟩
 | tup xs => obtain ⟨_, _, _, ⟨ob, e, _⟩⟩ := x; exact ⟨ob, e⟩
 | dK kvs => obtain ⟨_, _, _, _, ob, _, _, e, _⟩ := x; exact ⟨ob, e⟩
 | dT kvs => obtain ⟨_, _, _, _, ob, _, _, e, _⟩ := x; exact ⟨ob, e⟩
 | set S n => obtain ⟨ob, _, _, _, e, _⟩ := x; exact ⟨ob, e⟩
 | ins C dx fs => obtain ⟨_, _, _, e, _⟩ := x; exact ⟨_, e⟩
 | own y => exact x
 | xd fs => obtain ⟨_, ⟨ob, _, _, e, _⟩, _⟩ := x; exact ⟨ob, e⟩
 | rng lo hi => obtain ⟨_, _, _, e⟩ := x; exact ⟨_, e⟩
 | frz ob u => obtain ⟨e, _⟩ := x; exact ⟨_, e⟩
 | tbl ps => exact ⟨_, x⟩
 | met f y => exact ⟨_, x⟩
 | ext φ => exact x.2.1
end
section
variable {X : Cx} {pins : List (Addr × Obj)} {σ : St} {H H' : Hp} {s s' : Shared} {B h : Heap}
theorem Inv.track {ea : Addr} {o : HO} (I : Inv X pins σ H s) (hn : H ea = none) (h0 : X.s₀.heap.get? ea = none) (hL : ea ≠ X.env.locals) (hC : ∀ x c, X.env.cells.lookup x = some c -> c ≠ ea) (hP : ∀ p ∈ X.pn ++ pins, p.1 ≠ ea)
  (new : ZeN X.prog X.w (upd H ea o) s.heap ea o) : Inv X pins σ (upd H ea o) s := by
 have ne : ∀ b u, H b = some u -> b ≠ ea := fun b u e z => by rw [z, hn] at e; cases e
 refine ⟨I.ok, I.os, I.bare, ⟨I.base.keep, I.base.slot, fun b ob e n hx => ?_, I.base.there, fun b xs e => ?_, fun b ob u e => ?_, fun b ps e => ?_⟩, I.loc, I.cell, ?_, fun x c e => ?_, fun p hp => ?_, fun b u e => ?_, I.len⟩
 ·rw [Zc6 (fun z => by rw [z, h0] at e; cases e)]
  exact I.base.free b ob e n hx
 ·have e1 := I.base.tups b xs e
  rw [Zc6 (ne b _ e1)]
  exact e1
 ·have e1 := I.base.frzs b ob u e
  rw [Zc6 (ne b _ e1)]
  exact e1
 ·obtain ⟨more, e1⟩ := I.base.tbls b ps e
  exact ⟨more, by rw [Zc6 (ne b _ e1)]; exact e1⟩
 ·rw [Zc6 (Ne.symm hL)]
  exact I.free
 ·rw [Zc6 (hC x c e)]
  exact I.freeC x c e
 ·obtain ⟨e, n, n2, nf, d⟩ := I.pin p hp
  exact ⟨e, by rw [Zc6 (hP p hp)]; exact n, n2, nf, d⟩
 ·by_cases hb : b = ea
  ·subst hb
   rw [ZcX] at e
   cases e
   exact new
  ·rw [Zc6 hb] at e
   exact (I.hok b u e).stay (fun _ _ _ q => q) (fun c z => by rw [Zc6 (ne c _ z)]; exact z) fun c xs z => by rw [Zc6 (ne c _ z)]; exact z
end
section
variable {P : Program} {w : World} {K : PySem.W.Frag} {mg : Str -> Option Value} {base : Heap} {N : List Str} {qual : Str} {scope : Scope} {f : Addr} {cd : Value} {A : Around} {outer : List Env} {s₀ : Shared} {H₀ : Hp} {E : XK}
end
section
variable {X : Cx} {C : Addr} {E : XK} {x : Str} {np cpos pos : Pos} {e : Expr} {es : List Expr} {t : TA}
end
section
variable {P : Program} {w : World} {K : PySem.W.Frag} {mg : Str -> Option Value} {base : Heap}
end
section
variable {X : Cx} {pins : List (Addr × Obj)} {σ : St} {H : Hp} {s : Shared}
end
section
variable {X : Cx} {CX : CXT} {k : Nat} {f Y : Addr} {fd : FuncData} {ps : List Str} {sp : Sp} {dvs : List V} {ds : List Value} {E : XK} {x y n : Str} {p pos pos' py hpos tpos : Pos} {e : Expr} {es : List Expr} {t : TA} {b₀ : Stmt} {body : List Stmt} {tb : TS.Internal} {i : Nat}
end
section
variable {X : Cx} {e : Expr} {es : List Expr} {te : TE} {pos : Pos}
end
end L2.Internal
namespace L2.Internal
open PySem PySem.Spec PyProof.Rows
section
variable {X : Cx}
end
inductive Dt where
 | flat (v : V)
 | tup (l : List Dt)
 | lst (l : List Dt)
mutual
inductive At (K : PySem.W.Frag) (H : Hp) : V -> Dt -> Prop where
 | flat {v : V} (h : Znf v = true) : At K H v (.flat v)
 | tup {a : Addr} {xs : List V} {ds : List Dt} (h : SqT K H a xs) (hs : Ats K H xs ds) : At K H (.ref a) (.tup ds)
 | lst {a : Addr} {xs : List V} {ds : List Dt} (h : SqL K H a xs) (hs : Ats K H xs ds) : At K H (.ref a) (.lst ds)
inductive Ats (K : PySem.W.Frag) (H : Hp) : List V -> List Dt -> Prop where
 | nil : Ats K H [] []
 | cons {x : V} {d : Dt} {xs : List V} {ds : List Dt} (h : At K H x d) (hs : Ats K H xs ds) : Ats K H (x :: xs) (d :: ds)
end
mutual
noncomputable def eqD : Dt -> Dt -> Bool
 | .flat a, .flat b => eqV a b
 | .tup l, .tup m => Zha l m
 | .lst l, .lst m => Zha l m
 | _, _ => false
noncomputable def Zha : List Dt -> List Dt -> Bool
 | [], [] => true
 | x :: xs, y :: ys => eqD x y && Zha xs ys
 | _, _ => false
end
mutual
noncomputable def ZfU : Dt -> Dt -> Bool
 | .flat _, .flat _ => true
 | .tup l, .tup m => ZfA l m
 | .lst l, .lst m => if l.length = m.length then ZfA l m else true
 | _, _ => false
noncomputable def ZfA : List Dt -> List Dt -> Bool
 | x :: xs, y :: ys => ZfU x y && ZfA xs ys
 | _, _ => true
end
mutual
noncomputable def ZgI : Dt -> Nat
 | .flat _ => 0
 | .tup l => ZfC l + 1
 | .lst l => ZfC l + 1
noncomputable def ZfC : List Dt -> Nat
 | [] => 0
 | x :: xs => max (ZgI x) (ZfC xs)
end
theorem Ats.length {K : PySem.W.Frag} {H : Hp} : ∀ {xs : List V} {ds : List Dt}, Ats K H xs ds -> xs.length = ds.length
 | _, _, .nil => rfl
 | _, _, .cons _ t => by rw [Zao, Zao, Ats.length t]
theorem Ats.get {K : PySem.W.Frag} {H : Hp} : ∀ {xs : List V} {ds : List Dt} {j : Nat} {x : V}, Ats K H xs ds -> xs[j]? = some x -> ∃ d, ds[j]? = some d /\ At K H x d
 | _, _, 0, _, .cons h _, e => ⟨_, rfl, by cases e; exact h⟩
 | _, _, j + 1, _, .cons _ t, e => Ats.get (j := j) t e
 | _, _, _, _, .nil, e => by simp at e
theorem ZiE : ∀ (l m : List Dt), l.length ≠ m.length -> Zha l m = false
 | [], [], h => absurd rfl h
 | x :: xs, y :: ys, h => by
  rw [Zha, ZiE xs ys (fun e => h (by rw [Zao, Zao, e])), Bool.and_false]
 | [], y :: ys, _ => by rw [Zha]; all_goals simp
 | x :: xs, [], _ => by rw [Zha]; all_goals simp
noncomputable def ZlB (l m : List Dt) (j : Nat) : Bool := match l[j]?, m[j]? with
 | some a, some b => eqD a b
 | _, _ => false
theorem Zg0 : ∀ (l m : List Dt), l.length = m.length -> ((Zaa l.length).all fun j => ZlB l m j) = Zha l m
 | [], [], _ => by rw [Zha]; rfl
 | x :: xs, y :: ys, h => by
  have ih := Zg0 xs ys (by simpa using h)
  rw [Zao, ZaO, ZaP, List.all_map, Zha, <- ih]
  rfl
 | [], _ :: _, h => by simp at h
 | _ :: _, [], h => by simp at h
theorem ZfZ : ∀ {l m : List Dt} {j : Nat} {a b : Dt}, ZfA l m = true -> l[j]? = some a -> m[j]? = some b -> ZfU a b = true
 | x :: xs, y :: ys, 0, a, b, h, e1, e2 => by
  rw [ZfA, ZcA] at h
  cases e1
  cases e2
  exact h.1
 | x :: xs, y :: ys, j + 1, a, b, h, e1, e2 => by
  rw [ZfA, ZcA] at h
  exact ZfZ (j := j) h.2 e1 e2
 | [], _, _, _, _, _, e1, _ => by simp at e1
 | _ :: _, [], _, _, _, _, _, e2 => by simp at e2
theorem Zf0 : ∀ {l : List Dt} {j : Nat} {a : Dt}, l[j]? = some a -> ZgI a <= ZfC l
 | x :: xs, 0, a, e => by cases e; rw [ZfC]; exact Nat.le_max_left ..
 | x :: xs, j + 1, a, e => by rw [ZfC]; exact ZbA (Zf0 (j := j) e) (Nat.le_max_right ..)
 | [], _, _, e => by simp at e
theorem Zmk {v : V} (h : Znf v = true) : eqV v v = true := by
 cases v with
 | non => rfl
 | bl b => show (b == b) = true; simp
 | int i => show (i == i) = true; simp
 | str x => show (x == x) = true; simp
 | _ => exact absurd h Zcy
section
variable {X : Cx} {pins : List (Addr × Obj)} {σ : St} {H : Hp} {s : Shared}
mutual
theorem At.same (I : Inv X pins σ H s) : ∀ {x : V} {d e : Dt}, At X.K H x d -> At X.K H x e -> ZfU d e = true -> eqD d e = true
 | _, _, _, .flat h, .flat _, _ => by rw [eqD]; exact Zmk h
 | _, _, _, .tup h hs, .tup h' hs', c => by
  have e := I.tuple_inj h h'
  subst e
  rw [ZfU] at c
  rw [eqD]
  exact Ats.same I hs hs' c
 | _, _, _, .lst h hs, .lst h' hs', c => by
  have e := I.list_inj h h'
  subst e
  rw [ZfU, if_pos (hs.length.symm.trans hs'.length)] at c
  rw [eqD]
  exact Ats.same I hs hs' c
 | _, _, _, .flat h, .tup _ _, _ => absurd h Zcy
 | _, _, _, .flat h, .lst _ _, _ => absurd h Zcy
 | _, _, _, .tup _ _, .flat h, _ => absurd h Zcy
 | _, _, _, .lst _ _, .flat h, _ => absurd h Zcy
 | _, _, _, .tup _ _, .lst _ _, c => by simp [ZfU] at c
 | _, _, _, .lst _ _, .tup _ _, c => by simp [ZfU] at c
theorem Ats.same (I : Inv X pins σ H s) : ∀ {xs : List V} {l m : List Dt}, Ats X.K H xs l -> Ats X.K H xs m -> ZfA l m = true -> Zha l m = true
 | _, _, _, .nil, .nil, _ => by rw [Zha]
 | _, _, _, .cons h t, .cons h' t', c => by
  rw [ZfA, ZcA] at c
  rw [Zha, At.same I h h' c.1, Ats.same I t t' c.2]
  rfl
end
def Els (K : PySem.W.Frag) (H : Hp) (A : Around) (s : Shared) (ds es : List Dt) : Prop :=
 ∀ (j : Nat) (d1 d2 : Dt) (x y : V) (u v : Value), ds[j]? = some d1 -> es[j]? = some d2 -> ZdU x u -> ZdU y v -> At K H x d1 -> At K H y d2 -> SeqAt.EqAt A s u v (eqD d1 d2)
theorem els {A : Around} {xs ys : List V} {its its2 : List Value} {ds es : List Dt} (r : Zem xs its) (r2 : Zem ys its2) (hs : Ats X.K H xs ds) (hs' : Ats X.K H ys es) (EL : Els X.K H A s ds es) :
  ∀ j (h1 : j < its.toArray.size) (h2 : j < its2.toArray.size), SeqAt.EqAt A s its.toArray[j] its2.toArray[j] (ZlB ds es j) := fun j h1 h2 => by
 have l1 := r.length
 have l2 := r2.length
 have h1' : j < xs.length := by simp only [ZaJ] at h1; omega
 have h2' : j < ys.length := by simp only [ZaJ] at h2; omega
 obtain ⟨w1, e1, q1⟩ := r.get (ZaQ h1')
 obtain ⟨w2, e2, q2⟩ := r2.get (ZaQ h2')
 obtain ⟨d1, f1, p1⟩ := hs.get (ZaQ h1')
 obtain ⟨d2, f2, p2⟩ := hs'.get (ZaQ h2')
 have g1 : its.toArray[j] = w1 := by simpa using (Zaj.mp e1).2
 have g2 : its2.toArray[j] = w2 := by simpa using (Zaj.mp e2).2
 have ed : ZlB ds es j = eqD d1 d2 := by unfold ZlB; rw [f1, f2]
 rw [g1, g2, ed]
 exact EL j d1 d2 _ _ _ _ f1 f2 q1 q2 p1 p2
theorem Zop {ds es : List Dt} {n m : Nat} (h1 : n = ds.length) (h2 : m = es.length) : ((Zaa (min n m)).all (ZlB ds es) && n == m) = eqD (.tup ds) (.tup es) := by
 subst h1 h2
 rw [eqD]
 by_cases hl : ds.length = es.length
 ·rw [<- Zg0 ds es hl, <- hl, Nat.min_self]
  simp
 ·rw [ZiE ds es hl, beq_eq_false_iff_ne.mpr hl, Bool.and_false]
theorem Zoq {ds es : List Dt} {n : Nat} (h1 : n = ds.length) (h : ds.length = es.length) : ((Zaa n).all (ZlB ds es)) = eqD (.lst ds) (.lst es) := by
 subst h1
 rw [eqD, <- Zg0 ds es h]
theorem ZnN {A : Around} {a b : Addr} {xs ys : List V} {ds es : List Dt} (I : Inv X pins σ H s) (h : SqT X.K H a xs) (hs : Ats X.K H xs ds) (h' : SqT X.K H b ys) (hs' : Ats X.K H ys es) (hu : A.units < cLine) (EL : Els X.K H A.in1 s ds es) :
  SeqAt.RcAt A s (.ref a) (.ref b) (eqD (.tup ds) (.tup es)) /\ SeqAt.RcNeAt A s (.ref a) (.ref b) (!eqD (.tup ds) (.tup es)) := by
 obtain ⟨its, r, pl, _⟩ := I.tuple h
 obtain ⟨its2, r2, pl2, _⟩ := I.tuple h'
 have e := els r r2 hs hs' EL
 have l1 : its.toArray.size = ds.length := by rw [ZaJ, <- r.length, hs.length]
 have l2 : its2.toArray.size = es.length := by rw [ZaJ, <- r2.length, hs'.length]
 have k1 := SeqAt.RcAt.tuples (A := A) (s := s) pl pl2 hu e
 have k2 := SeqAt.RcNeAt.tuples (A := A) (s := s) pl pl2 hu e
 rw [Zop l1 l2] at k1 k2
 exact ⟨k1, k2⟩
theorem ZnO {A : Around} {a b : Addr} {xs ys : List V} {ds es : List Dt} (I : Inv X pins σ H s) (h : SqL X.K H a xs) (hs : Ats X.K H xs ds) (h' : SqL X.K H b ys) (hs' : Ats X.K H ys es) (hu : A.units < cLine) (EL : ds.length = es.length -> Els X.K H A.in1 s ds es) :
  SeqAt.RcAt A s (.ref a) (.ref b) (eqD (.lst ds) (.lst es)) /\ SeqAt.RcNeAt A s (.ref a) (.ref b) (!eqD (.lst ds) (.lst es)) := by
 obtain ⟨its, r, pl, _⟩ := I.list h
 obtain ⟨its2, r2, pl2, _⟩ := I.list h'
 have l1 : its.toArray.size = ds.length := by rw [ZaJ, <- r.length, hs.length]
 have l2 : its2.toArray.size = es.length := by rw [ZaJ, <- r2.length, hs'.length]
 by_cases hl : ds.length = es.length
 ·have e := els r r2 hs hs' (EL hl)
  have k1 := SeqAt.RcAt.lists (A := A) (s := s) pl.isList pl2.isList (by rw [l1, l2, hl]) hu e
  have k2 := SeqAt.RcNeAt.lists (A := A) (s := s) pl.isList pl2.isList (by rw [l1, l2, hl]) hu e
  rw [Zoq l1 hl] at k1 k2
  exact ⟨k1, k2⟩
 ·have hne : (its.toArray.size != its2.toArray.size) = true := by rw [l1, l2]; exact bne_iff_ne.mpr hl
  have k1 := SeqAt.RcAt.lists_lengths (A := A) (s := s) pl.isList pl2.isList hne hu
  have k2 := SeqAt.RcNeAt.lists_lengths (A := A) (s := s) pl.isList pl2.isList hne hu
  rw [eqD, ZiE ds es hl]
  exact ⟨k1, k2⟩
theorem ZkU (I : Inv X pins σ H s) : ∀ (n : Nat) (A : Around) {x y : V} {u v : Value} {d e : Dt}, ZdU x u -> ZdU y v -> At X.K H x d -> At X.K H y e -> ZfU d e = true -> ZgI d <= n -> A.units + n < cLine -> SeqAt.EqAt A s u v (eqD d e) := by
 intro n
 induction n with
 | zero =>
  intro A x y u v d e rx ry hx hy c hd hu
  cases hx with
  | flat h =>
   cases hy with
   | flat h' => rw [eqD]; exact ZnJ rx ry h h'
   | tup _ _ => simp [ZfU] at c
   | lst _ _ => simp [ZfU] at c
  | tup _ _ => rw [ZgI] at hd; omega
  | lst _ _ => rw [ZgI] at hd; omega
 | succ n ih =>
  intro A x y u v d e rx ry hx hy c hd hu
  cases hx with
  | flat h =>
   cases hy with
   | flat h' => rw [eqD]; exact ZnJ rx ry h h'
   | tup _ _ => simp [ZfU] at c
   | lst _ _ => simp [ZfU] at c
  | @tup a xs ds h hs =>
   cases hy with
   | flat _ => simp [ZfU] at c
   | lst _ _ => simp [ZfU] at c
   | @tup b ys es h' hs' =>
    cases rx
    cases ry
    by_cases hab : a = b
    ·subst hab
     rw [At.same I (.tup h hs) (.tup h' hs') c]
     exact SeqAt.EqAt.same _
    ·rw [ZfU] at c
     rw [ZgI] at hd
     refine SeqAt.EqAt.of_refs hab (ZnN I h hs h' hs' (by omega) fun j d1 d2 x y u v f1 f2 q1 q2 p1 p2 => ?_).1
     exact ih A.in1 q1 q2 p1 p2 (ZfZ c f1 f2) (ZbA (Zf0 f1) (by omega)) (by show A.units + 1 + n < cLine; omega)
  | @lst a xs ds h hs =>
   cases hy with
   | flat _ => simp [ZfU] at c
   | tup _ _ => simp [ZfU] at c
   | @lst b ys es h' hs' =>
    cases rx
    cases ry
    by_cases hab : a = b
    ·subst hab
     rw [At.same I (.lst h hs) (.lst h' hs') c]
     exact SeqAt.EqAt.same _
    ·rw [ZgI] at hd
     refine SeqAt.EqAt.of_refs hab (ZnO I h hs h' hs' (by omega) fun hl j d1 d2 x y u v f1 f2 q1 q2 p1 p2 => ?_).1
     rw [ZfU, if_pos hl] at c
     exact ih A.in1 q1 q2 p1 p2 (ZfZ c f1 f2) (ZbA (Zf0 f1) (by omega)) (by show A.units + 1 + n < cLine; omega)
def Zrq (K : PySem.W.Frag) (neg : Bool) : R2 := fun x y H Q => ∃ a b d e, x = .ref a /\ y = .ref b /\ At K H x d /\ At K H y e /\ ZfU d e = true /\ ZgI d <= 100 /\ Q (.bl (if neg then !eqD d e else eqD d e)) H
theorem rcD (I : Inv X pins σ H s) {A : Around} {a b : Addr} {d e : Dt} (hx : At X.K H (.ref a) d) (hy : At X.K H (.ref b) e) (c : ZfU d e = true) (hd : ZgI d <= 100) (hu : A.units + 101 < cLine) :
  SeqAt.RcAt A s (.ref a) (.ref b) (eqD d e) /\ SeqAt.RcNeAt A s (.ref a) (.ref b) (!eqD d e) := by
 cases hx with
 | flat h => exact absurd h Zcy
 | @tup a xs ds h hs =>
  cases hy with
  | flat h => exact absurd h Zcy
  | lst _ _ => simp [ZfU] at c
  | @tup b ys es h' hs' =>
   rw [ZfU] at c
   rw [ZgI] at hd
   refine ZnN I h hs h' hs' (by omega) fun j d1 d2 x y u v f1 f2 q1 q2 p1 p2 => ?_
   exact ZkU I 100 A.in1 q1 q2 p1 p2 (ZfZ c f1 f2) (ZbA (Zf0 f1) (by omega)) (by show A.units + 1 + 100 < cLine; omega)
 | @lst a xs ds h hs =>
  cases hy with
  | flat h => exact absurd h Zcy
  | tup _ _ => simp [ZfU] at c
  | @lst b ys es h' hs' =>
   rw [ZgI] at hd
   refine ZnO I h hs h' hs' (by omega) fun hl j d1 d2 x y u v f1 f2 q1 q2 p1 p2 => ?_
   rw [ZfU, if_pos hl] at c
   exact ZkU I 100 A.in1 q1 q2 p1 p2 (ZfZ c f1 f2) (ZbA (Zf0 f1) (by omega)) (by show A.units + 1 + 100 < cLine; omega)
end
section
variable {X : Cx}
theorem ZkV {k : Nat} (hr : ZgC k X.A) : OpR X (compareOp .Eq) (Zrq X.K false) := by
 intro pins s σ H x y v u Q I rx ry h
 obtain ⟨a, b, d, e, rfl, rfl, hx, hy, c, hd, q⟩ := h
 cases rx
 cases ry
 have hu := hr.un
 exact (rcD I hx hy c hd (by omega)).1 _ _ _ _ ⟨.bl _, H, I, rfl, q⟩
theorem ZnP {k : Nat} (hr : ZgC k X.A) : OpR X (compareOp .NotEq) (Zrq X.K true) := by
 intro pins s σ H x y v u Q I rx ry h
 obtain ⟨a, b, d, e, rfl, rfl, hx, hy, c, hd, q⟩ := h
 cases rx
 cases ry
 have hu := hr.un
 exact (rcD I hx hy c hd (by omega)).2 _ _ _ _ ⟨.bl _, H, I, rfl, q⟩
end
end L2.Internal
namespace L2.Internal
open PySem PySem.Spec PyProof.Rows
section
variable {X : Cx} {o i : Expr} {pos : Pos} {td ty : TE} {a : Addr} {kvs : List (Key × V)}
end
end L2.Internal
namespace L2.Internal
open PySem PySem.Spec PyProof.Rows
section
variable {X : Cx}
noncomputable def ZpA (x : Str) (n : Nat) : Str := ⟨(Zav n x.cps).foldl (· ++ ·) #[]⟩
theorem Zml (a : Array Nat) : ∀ (k : Nat) (acc : Array Nat), ((Zav k a).foldl (· ++ ·) acc).size = acc.size + k * a.size
 | 0, acc => by simp
 | k + 1, acc => by
  rw [List.replicate_succ, ZaR, Zml a k, Array.size_append, Nat.succ_mul]
  omega
theorem Zmm (x : Str) (k : Nat) : (ZpA x k).length = k * x.length := by
 have z := Zml x.cps k #[]
 have e0 : (#[] : Array Nat).size = 0 := rfl
 rw [e0, ZbI] at z
 exact z
theorem ZlC : OpR X (binaryOp .Mult) (fun x y H Q => ∃ (i : Str) (n : Int), x = .str i /\ y = .int n /\ 2 <= n /\ n < 100 /\ 1 <= i.length /\ i.length <= 1000 /\ Q (.str (ZpA i n.toNat)) H) := by
 intro pins s σ H x y v u Q I rx ry h
 obtain ⟨i, n, rfl, rfl, h2, h9, hl, hm, q⟩ := h
 obtain ⟨t, rfl⟩ := rx
 obtain ⟨t', rfl⟩ := ry
 refine PySem.P.mul_str (by simp only [Bool.or_eq_false_iff, decide_eq_false_iff_not]; omega) (fun _ _ => ?_) (fun _ _ => ?_) ?_
 ·intro z
  have z' : (2 ^ 63 - 1 : Int) / n < (i.length : Int) := z
  rw [Int.ediv_lt_iff_lt_mul (by omega)] at z'
  have : (i.length : Int) * n <= 1000 * 100 := Int.mul_le_mul (by omega) (by omega) (by omega) (by omega)
  omega
 ·show decide _ = false
  refine decide_eq_false ?_
  have sl : sizeLine = 16777216 := sizeLine_eq
  have : i.length * n.toNat <= 1000 * 100 := Nat.mul_le_mul hm (by omega)
  omega
 ·rw [if_neg (by omega), if_neg (by simp; omega)]
  refine ⟨?_, .str (ZpA i n.toNat), H, I.tok _, ⟨_, rfl⟩, q⟩
  have sl : sizeLine = 16777216 := sizeLine_eq
  have e : (ZpA i n.toNat).length = n.toNat * i.length := Zmm i _
  have e2 : n.toNat * i.length <= 100 * 1000 := Nat.mul_le_mul (by omega) hm
  show (ZpA i n.toNat).length <= _
  omega
end
section
variable {X : Cx} {k : Nat} {f Y : Addr} {fd : FuncData} {ps : List Str} {sp : Sp} {dvs : List V} {ds : List Value} {x y n : Str} {p pos pos' py hpos tpos pn : Pos} {e : Expr} {es : List Expr} {t : TA} {b₀ : Stmt} {body : List Stmt} {tb : TS.Internal} {i : Nat}
end
end L2.Internal
namespace L2.Internal
end L2.Internal
namespace L2.Internal
open PySem PySem.Spec PyProof.Rows
noncomputable def Zmn : List Expr -> Option (List Int)
 | [] => some []
 | .Constant (.int x) _ _ :: r => (Zmn r).map (x :: ·)
 | _ => none
def ZpB (xs : List Int) : TA := fun _ H Q => Q (xs.map V.int) H
theorem Zkf {X : Cx} : ∀ {es : List Expr} {xs : List Int}, Zmn es = some xs -> PA X es (ZpB xs)
 | [], xs, h => by
  have e : xs = [] := (ZbR.inj h).symm
  subst e
  exact Zc1
 | .Constant (.int x) k p :: r, xs, h => by
  have h' : (Zmn r).map (x :: ·) = some xs := h
  obtain ⟨ys, hy, e⟩ := ZbV.mp h'
  subst e
  have ih := Zkf (X := X) hy
  intro pos pins s σ H Q I q
  exact ZcW (te := tC (.int x)) (t := ZpB ys) ZcY ih rfl pos pins s σ H Q I q
end L2.Internal
namespace L2.Internal
open PySem PySem.Spec PyProof.Rows
section
variable {X : Cx} {pins : List (Addr × Obj)} {σ : St} {H : Hp} {s : Shared} {h' : Heap}
theorem Inv.turnedL {t' : Nat} {ch : List Addr} (I : Inv X pins σ H s) (k : ∀ b o, b ∉ ch -> s.heap.get? b = some o -> h'.get? b = some o) (hf : ∀ b ∈ ch, ZkL X pins H b) : Inv X pins σ H { s with heap := h', toks := t' } := by
 have nit : ∀ b u, H b = some u -> b ∉ ch := fun b u e z => by
  have q := (hf b z).1
  rw [q] at e; cases e
 refine I.step (g' := s.gens) (d' := s.drawn) (ch := ch) (fun b hb => ?_) (fun b o _ _ hc e _ => k b o hc e) (fun b o _ _ hc e _ => ⟨o.slots, k b o hc e⟩) (fun _ _ _ _ n => n)
  (fun b o hc e => ⟨o, k b o hc e⟩) (fun _ _ e => e) (fun _ _ _ e => e) (fun b ps e => ⟨#[], by rw [e]; simp⟩) (fun m hm => ?_) (fun b u e => ?_) I.bare
 ·obtain ⟨_, f1, _, f3, f4, f5⟩ := hf b hb
  exact ⟨f3, f1, f4, f5⟩
 ·obtain ⟨o, es, ep, ho, r⟩ := hm
  exact ⟨o, es, ep, k _ o (fun z => (hf _ z).2.1 rfl) ho, r⟩
 ·refine (I.hok b u e).stay (fun c v hc q => k c v ?_ q) (fun _ q => q) fun _ _ q => q
  rcases hc with z | z
  ·rw [z]; exact nit b u e
  ·exact nit c _ z
theorem Inv.pairNew {T : Addr} {h : Heap} {tk : Nat} {ux uy : Value} {x y : V} (I : Inv X pins σ H s) (hT : s.heap.objs.size <= T) (J : Inv X pins σ H { s with heap := h, toks := tk }) (ht : ZlM h T #[ux, uy]) (rx : ZdU x ux) (ry : ZdU y uy) :
  H T = none /\ Inv X pins σ (upd H T (.tup [x, y])) { s with heap := h, toks := tk } := by
 have f := I.fpOk (H' := H) hT (I.hok.fresh hT)
 refine ⟨f.1, J.track f.1 ?_ f.2.1 f.2.2.2.2.1 f.2.2.2.2.2 ⟨by show 2 <= sizeLine; decide, [ux, uy], .cons rx (.cons ry .nil), ht⟩⟩
 cases q : X.s₀.heap.get? T with
 | none => rfl
 | some o => exact absurd (Zbx (ZcN q) (ZbA I.sz hT)) (Zby _)
end
theorem ZjA : bootBuiltins "enumerate" = some (.type "enumerate") := by decide +kernel
theorem SqL.old {X : Cx} {pins : List (Addr × Obj)} {σ : St} {H : Hp} {s : Shared} {a : Addr} {xs : List V} (I : Inv X pins σ H s) (h : SqL X.K H a xs) : a < s.heap.objs.size := by
 obtain ⟨its, _, p, _⟩ := I.list h
 obtain ⟨o, e, _⟩ := p.isList
 exact ZcN e
section
variable {X : Cx}
end
noncomputable def Ite (K : PySem.W.Frag) (a : Addr) : It :=
 ⟨fun i H => ∃ xs x, SqL K H a xs /\ xs[i]? = some x,
   fun i H v H' => ∃ T x, v = .ref T /\ H T = none /\ H' = upd H T (.tup [.int (i : Int), x]) /\ ∀ xs, SqL K H a xs -> xs[i]? = some x,
   fun i H => ∃ xs, SqL K H a xs /\ i = xs.length⟩
def ESt (e it a : Addr) (i : Nat) (h : Heap) : Prop := (∃ old, IsEnum h e it i old) /\ h.IsListIter it a i
theorem Zmo {P : Program} {w : World} {K : PySem.W.Frag} {es : List Expr} {kk : Nat} {tp : Pos} {a e it : Addr} (h1 : e ≠ it) (h2 : a ≠ e) (h3 : a ≠ it) : ZoZ P w K (.Tuple es kk tp) (Ite K a) [e, it] e (ESt e it a) where
 mem := by simp
 obj := fun i h st c hc => by
  obtain ⟨⟨old, g1⟩, ⟨o4, g4, _, d4⟩⟩ := st
  simp only [Zag, ZaS, or_false] at hc
  rcases hc with q | q <;> subst q
  ·exact ⟨_, g1, fun v q => nomatch q⟩
  ·exact ⟨_, g4, fun v q => by rw [d4] at q; cases q⟩
 keep := fun i h h' st k => by
  obtain ⟨⟨old, g1⟩, g4⟩ := st
  exact ⟨⟨old, k e (by simp) _ g1⟩, g4.at fun o q => k it (by simp) o q⟩
 item := by
  intro X hP hw hK hc i pins s σ H E I hf st hg
  subst hP hw hK
  obtain ⟨xs, x, qx, ex⟩ := hg
  obtain ⟨i1s, r1, p1, z1⟩ := I.list qx
  obtain ⟨g1, g4⟩ := st
  obtain ⟨old, g1'⟩ := g1
  obtain ⟨ux, hux, rr1⟩ := r1.get ex
  have lte : e < s.heap.objs.size := ZcN g1'
  refine wpAny_pyNext_enum_item g1' g4 p1.isList (x := ux) (by simpa using hux) h1 fun k1 ho hit' hT hsz hk => ?_
  have kk1 : ∀ c o, c ∉ [e, it] -> s.heap.get? c = some o -> k1.get? c = some o := fun c o hc q => hk c o (fun z => hc (by simp [z])) (fun z => hc (by simp [z])) q
  have J1 : Inv X pins σ H { s with heap := k1, toks := s.toks + 1 } := I.turnedL kk1 hf
  refine ⟨.ref s.heap.objs.size, rfl, wpAny_letOwnedTupleGo_enum ho fun k2 he' sb => ?_⟩
  have J2 : Inv X pins σ H { s with heap := k2, toks := s.toks + 1 } := Inv.turnedL (s := { s with heap := k1, toks := s.toks + 1 }) (h' := k2) (t' := s.toks + 1) (ch := [e]) J1 (fun c o hc q => (sb.2 c (fun z => hc (by simp [z]))).trans q) fun c hc => hf c (by simp only [Zag, ZaS, or_false] at hc ⊢; simp [hc])
  have ht2 : ZlM k2 s.heap.objs.size #[.int i s.toks, ux] := ⟨_, (sb.2 _ (ZbC lte)).trans hT, rfl, _, rfl, rfl⟩
  obtain ⟨fT, J3⟩ := I.pairNew (x := .int (i : Int)) (ZbD _) J2 ht2 ⟨s.toks, rfl⟩ rr1
  refine ⟨.ref s.heap.objs.size, _, J3, rfl, ⟨_, x, rfl, fT, rfl, fun l hl => by rw [I.list_inj hl qx]; exact ex⟩, ⟨⟨_, by simpa using he'⟩, hit'.at fun o y => (sb.2 it h1.symm).trans y⟩, fun c hc => ?_⟩
  rw [Zc6 (fun q => ?_)]
  ·exact (hf c hc).1
  ·have lt : c < s.heap.objs.size := by
    obtain ⟨o4, e4, _⟩ := g4
    simp only [Zag, ZaS, or_false] at hc
    rcases hc with q | q <;> subst q
    ·exact lte
    ·exact ZcN e4
   exact absurd lt (by rw [q]; exact Zby _)
 done := by
  intro X hP hw hK hc i pins s σ H E I hf st hg
  subst hP hw hK
  obtain ⟨xs, qx, ei⟩ := hg
  obtain ⟨i1s, r1, p1, z1⟩ := I.list qx
  obtain ⟨g1, g4⟩ := st
  have W := WalksT.enumerate (prog := X.prog) (w := X.w) (I.ok.hd hc) e it a h1 h2 h3 i1s.toArray
  have l1 := r1.length
  have q : i = i1s.toArray.size := by simp only [ZaJ]; omega
  subst q
  exact W.done s _ _ ⟨g1, g4, p1.isList⟩ fun h1 tk hk => ⟨rfl, I.turnedL hk hf⟩
 self := fun _ _ _ _ _ st h => by
  obtain ⟨⟨old, g1⟩, _⟩ := st
  exact wpAny_pyIter_enum g1 h
def ZqM (K : PySem.W.Frag) (ta : TA) : TI := fun σ H R => ta σ H fun vs H1 => ∃ a, vs = [.ref a] /\ (∃ xs, SqL K H1 a xs) /\ R (Ite K a) H1
section
variable {X : Cx}
theorem ZhC {es : List Expr} {kk : Nat} {tp : Pos} {a : Expr} {ta : TA} {p pos : Pos} (hg : Gl X "enumerate") (hm : X.mg "enumerate" = none) (ha : PA X [a] ta) (hs : autoParam (starEach [a] X.env = [(false, eval a X.env)]) L2.Internal.auR._auto_1) :
  PI X (.Tuple es kk tp) (.Call (.Name "enumerate" p) [a] [] pos) (ZqM X.K ta) := by
 intro pins s σ H R I h
 refine Call_ (Zjn I hg hm ZjA (ZcS (thn (ha pos pins s σ H _ I h) fun us s1 ⟨vs, H1, I1, r1, q1⟩ => ?_) hs rfl))
 obtain ⟨l1, e, ⟨xs, q1⟩, q⟩ := q1
 subst e
 obtain ⟨u, rfl, ru⟩ := Zhc r1
 cases ru
 obtain ⟨i1s, w1, p1, z1⟩ := I1.list q1
 have o1 : @LT.lt Nat _ l1 s1.heap.objs.size := SqL.old I1 q1
 refine call_enumerate_list p1.isList fun h1 hE hi1 hsz hk => wpAny_pyIter_enum hE ?_
 refine ⟨_, _, _, _, H1, rfl, I1.kept (t' := s1.toks) hk, Zmo (fun (h : @Eq Nat _ _) => by omega) (fun (h : @Eq Nat _ _) => by omega) (fun (h : @Eq Nat _ _) => by omega), ⟨⟨_, hE⟩, hi1⟩, fun c hc => ?_, q⟩
 have ge : s1.heap.objs.size <= c := by
  simp only [Zag, ZaS, or_false] at hc
  rcases hc with h | h <;> rw [h] <;> first | exact ZbD _ | exact Nat.le_add_right _ _
 exact I1.fpOk ge (I1.hok.fresh ge)
end
theorem Zio {z : Str} : ∀ {cap : List (Str × Nat × Addr)}, z ∈ cap.map (·.1) -> ∃ c, (cap.map fun p => (p.1, p.2.2)).lookup z = some c
 | [], h => by simp at h
 | p :: r, h => by
  cases e : z == p.1 with
  | true => exact ⟨p.2.2, by simp only [Zaq, ZaN, e]⟩
  | false =>
   have q : z ∈ r.map (·.1) := by
    rcases Zag.mp h with y | y
    ·rw [y] at e; simp at e
    ·exact y
   obtain ⟨c, hc⟩ := Zio q
   exact ⟨c, by simp only [Zaq, ZaN, e]; exact hc⟩
theorem ZlO {X : Cx} {scope : Scope} {x : Str} (ns : List Str) (cap : List (Str × Nat × Addr)) (hns : cap.map (·.1) = ns) (hk : scope.kind = .function) (hn : ∀ p ∈ scope.names, p.2 ≠ .cell /\ (p.2 = .free -> p.1 ∈ ns)) (hl : ∀ y ∈ scope.names, y.2 = .local -> scope.names.lookup y.1 = some .local)
  (hx : scope.names.lookup x = some .local) (hnd : (x :: ns).Nodup) (hc : closureFor scope X.env = pure (cap.map fun p => (p.1, p.2.2))) (hok : X.env.scope.kind = .function)
  (h : ∀ p ∈ cap, scope.names.lookup p.1 = some .free /\ X.env.cells.lookup p.1 = some p.2.2 /\ X.env.scope.names.lookup p.1 = some .cell /\ X.N[p.2.1]? = some p.1) :
  Zmi X (x :: ns) scope (cap.map fun p => (p.1, p.2.2)) (fun σ => none :: cap.map fun p => σ.getD p.2.1 none) 0 x where
 kind := hk
 cell := fun y hy => (hn y hy).1
 names := hl
 clos := hc
 lk := fun z c q => by
  have m := PySem.mem_of_lookup q
  obtain ⟨p, hp, e⟩ := ZaT.mp m
  cases e
  exact (h p hp).2.1
 has := fun z q => by
  refine Zio ?_
  rw [hns]
  rcases q with q | q
  ·obtain ⟨k0, e, q⟩ := ZeQ q
   have m := hn _ (PySem.mem_of_lookup e)
   rcases q with q | ⟨q, _⟩
   ·exact absurd q.symm m.1
   ·exact m.2 q
  ·obtain ⟨k0, e, q⟩ := ZeQ q
   have m := hn _ (PySem.mem_of_lookup e)
   rcases q with q | ⟨q, _⟩
   ·exact m.2 q.symm
   ·exact m.2 q
 nd := hnd
 ix := rfl
 loc := hx
 len := fun _ _ => by simp [<- hns]
 val := fun σ k z v h1 h2 => by
  cases k with
  | zero => simp at h2
  | succ k =>
   rw [<- hns, ZaU, ZaA] at h1
   rw [ZaU, ZaA] at h2
   cases e : cap[k]? with
   | none => rw [e] at h1; cases h1
   | some p =>
    rw [e] at h1 h2
    have ez : p.1 = z := ZbR.inj h1
    have ev : σ.getD p.2.1 none = some v := ZbR.inj h2
    subst ez
    obtain ⟨a1, a2, a3, a4⟩ := h p (ZaB e)
    rw [ZaV] at ev
    refine ⟨p.2.1, a4, ?_, a3, Zft hok a3 a1⟩
    cases q : σ[p.2.1]? with
    | none => rw [q] at ev; cases ev
    | some o => rw [q] at ev; exact congrArg some ev
section
variable {X : Cx}
end
structure Zrr (K : PySem.W.Frag) (C : Addr) (m : Str) (f : Addr) : Prop where
 ga : Zb9 K (.ref C) "__getattribute__" = some (some (.builtin "type.__getattribute__"))
 rd : ∃ mc, PySem.W.readsIn K C mc = true /\ PySem.W.findCls K (.ref C) mc m = some (.val (.ref f))
 kp : Zb8 K (.ref f) = true
section
variable {X : Cx} {CX : CXT} {k : Nat} {f C : Addr} {fd : FuncData} {ps : List Str} {sp : Sp} {dvs : List V} {ds : List Value} {E : XK} {m : Str} {pos apos : Pos} {e o : Expr} {es : List Expr} {t : TA}
theorem ZiF {pl : Sem Bool} (he : PE X o (tC (.ref C))) (c : Zrr X.K C m f) (F : Ze0 X.prog X.w X.K X.mg X.base CX k f fd ps sp) (hr : ZgC k X.A) (hb : ZdH X.K fd ps ds) (hd : Zem dvs ds) (hx : Zg9 CX X E) (ha : PA X (e :: es) t)
  (hst : autoParam (starEach (e :: es) X.env = (false, eval e X.env) :: starEach es X.env) L2.Internal.auR._auto_1) (hpl : autoParam ((backTo pos (starEach es X.env)).any (·.1) = false) L2.Internal.auR._auto_1)
  (ht : eval (.Call (.Attribute o m apos) (e :: es) [] pos) X.env = (do
   let ov <- eval o X.env
   standAt apos.atName
   let (f, first) <- holding [ov] (getMethod ov m pl)
   callWith pos f first (backTo pos (starEach (e :: es) X.env)) (backToKw pos (keywordEach [] X.env))) := by rfl) :
  PE X (.Call (.Attribute o m apos) (e :: es) [] pos) (Zl5 sp dvs E t) := by
 intro pins s σ H Q I h
 refine Zcg (pl := pl) (thn (he pins s σ H (fun v H1 => v = .ref C /\ Zl5 sp dvs E t σ H1 Q) I ⟨rfl, h⟩) fun u s1 ⟨x, H1, I1, rx, ex, q⟩ => ?_) ht
 subst ex
 obtain rfl : u = Value.ref C := rx
 obtain ⟨mc, hr1, hf⟩ := c.rd
 refine PySem.W.method_cls I1.kIn c.ga (PySem.W.cls_value I1.kIn hr1 hf rfl ?_)
 refine Zcf (first := []) (h₀ := X.base) I.ok.mod.kin c.kp (thn (ha pos pins _ σ H1 _ (I1.tok (s1.toks + 1)) q) fun us s2 ⟨vs, H2, I2, r, q2⟩ => ⟨I2.kIn, ?_⟩) hst hpl
 exact Zl6 (us := us) (vs := vs) F hr hb hd hx I2 r q2
theorem PE.or {X : Cx} {e : Expr} {t u : TE} (h : PE X e t) (h' : PE X e u) : PE X e (fun σ H Q => t σ H Q \/ u σ H Q) := fun pins s σ H Q I hw => hw.elim (h pins s σ H Q I) (h' pins s σ H Q I)
end
section
variable {X : Cx}
theorem ZhD (hc : X.calm = true) : ZgD X (.builtin "sum") (fun xs H Q => ∃ (a : Addr) (ns : List Int), xs = [.ref a] /\ SqL X.K H a (ns.map V.int) /\ ∀ n, Q (.int n) H) := by
 intro pins s σ H xs us Q I r h
 obtain ⟨a, ns, rfl, hq, q⟩ := h
 obtain ⟨u, rfl, ru⟩ := Zhc r
 cases ru
 obtain ⟨its, rv, p, hz⟩ := I.list hq
 obtain ⟨zs, e⟩ := (Zlw rv).allInts.items
 have l := p.isList
 rw [e] at l
 exact sum_intListG (I.ok.hd hc) l fun h' tk t' hk => ⟨.int _, H, I.kept (t' := tk) hk, ⟨_, rfl⟩, q _⟩
end
theorem Zhm {X : Cx} {elt iter : Expr} {x y : Str} {j : Nat} {py spos : Pos} {px : Pos} {ifs : List Expr} {scope : Scope} {pos : Pos} {N : List Str} {cl : List (Str × Addr)} {f : St -> St} {i : Nat} {wi : TI} {tt : TT} {te : TE}
  (hc : X.calm = true) (B : Zmi X N scope cl f i x) (hi : PI X (.Name x px) iter wi)
  (htt : ∀ C s₀ H₀ ex pins, PTs (blk X N scope cl C s₀ H₀ ex pins) ifs tt) (hte : ∀ C s₀ H₀ ex pins, PE (blk X N scope cl C s₀ H₀ ex pins) elt te)
  (hN : X.N.Nodup) (hj : X.N[j]? = some y) (hy : Loc X.env.scope y) (hsw : autoParam (swapsWith (.ListComp elt [⟨.Name x px, iter, ifs, 0⟩] scope pos) (some (.Name y py)) spos.line X.env = pure true) L2.Internal.auR._auto_1) (hs : autoParam (∀ x, foldedSetIterable iter X.env x = pure x) L2.Internal.auI._auto_1)
  (hf : autoParam (X.fn y = true \/ X.env.scope.names.lookup y = some .local) L2.Internal.auL._auto_1) : PS X (.Assign [.Name y py] (.ListComp elt [⟨.Name x px, iter, ifs, 0⟩] scope pos) spos) (Zqj (tLC wi f i tt te) (Zeq j)) := by
 intro pins s σ H En I h
 rw [exec_Assign_Name_used _ _ _ _ hsw]
 refine wpAny_bind (wpAny_standAt (wpAny_bind ?_))
 show wpAny _ X.A (do let _ <- comprehension (.ListComp elt [⟨.Name x px, iter, ifs, 0⟩] scope pos) scope X.env _ (newList []) false (eval iter X.env) (some (assign (.Name y py) X.env))) _ _ s
 refine wpAny_bind (wpAny_mono (wpAny_comprehension_free (use := some (assign (.Name y py) X.env)) (Q := fun _ s' => SP X pins En .next s') rfl hs B.clos B.kind B.names (thn (hi pins s σ H _ I h) fun xv s1 h1 => thn h1 fun itv s2 h2 => ?_)) (fun _ s' hq => wpAny_pure (wpAny_pure hq)) fun _ _ e => e)
 obtain ⟨it, fp, tn, J, H2, rfl, I2, T, st2, f2, q⟩ := h2
 have hD : H2 s2.heap.objs.size = none := I2.fresh
 obtain ⟨W, ⟨m0, w0⟩, turn⟩ := q _ hD
 refine wpAny_newObj_type (wpAny_newFunctionEnv B.cell (by intro y hy; simp at hy) (fun h₁ hns₁ hsb₁ => ?_) B.kind)
 have I3 : Inv X pins σ (upd H2 s2.heap.objs.size (.lst [])) { s2 with heap := s2.heap.push { cls := .type "list", data := .seq ([] : List Value).toArray } } := I2.lnew (its := []) (ys := []) (t' := s2.toks) .nil (ZbE _)
 have lt2 : ∀ b ∈ fp, b < s2.heap.objs.size := fun b hb => by
  obtain ⟨o, ho, _⟩ := T.obj _ _ st2 b hb
  exact ZcN ho
 have fp3 : ∀ b ∈ fp, ZkL X pins (upd H2 s2.heap.objs.size (.lst [])) b := fun b hb => by
  refine ⟨?_, (f2 b hb).2⟩
  rw [Zc6 (Zbz (lt2 b hb))]
  exact (f2 b hb).1
 generalize hs3 : ({ s2 with heap := s2.heap.push { cls := .type "list", data := .seq ([] : List Value).toArray } } : Shared) = s3 at I3 hns₁ hsb₁ ⊢
 have eh : s2.heap.push { cls := .type "list", data := .seq ([] : List Value).toArray } = s3.heap := by rw [<- hs3]
 have lt3 : ∀ b ∈ fp, b < s3.heap.objs.size := fun b hb => by
  rw [<- eh, ZcQ]
  exact ZbH (lt2 b hb)
 have old : ∀ b o, s3.heap.get? b = some o -> h₁.get? b = some o := fun b o e => hsb₁.extBut b o (Zbz (ZcN e)) (ZcP _ e)
 have I4 := Zmj (tk := s3.toks + ([] : List (Str × Value)).length) B I3 (ex := fp) (fun b hb => ⟨fp3 b hb, lt3 b hb⟩) old hns₁
 have st4 : tn 0 h₁ := T.keep _ _ _ st2 fun b _ o e => old b o (by rw [<- eh]; exact ZcP _ e)
 have fpB : ∀ {H' : Hp}, (∀ b ∈ fp, H' b = none) -> ∀ b ∈ fp, ZkL (blk X N scope cl s3.heap.objs.size s3 (upd H2 s2.heap.objs.size (.lst [])) fp pins) [] H' b := fun {H'} hn b hb => by
  obtain ⟨_, g2, g3, g4, g5, g6⟩ := f2 b hb
  refine ⟨hn b hb, Zbz (lt3 b hb), fun z => (Zag.mp (I3.stkSub b z)).elim g2 g3, .inl hb, fun y c e => g5 y c (B.lk y c e), fun p hp => ?_⟩
  rw [Zas] at hp
  exact g6 p hp
 have loop : ∀ s4 : Shared, s4 = { s3 with heap := h₁, toks := s3.toks + ([] : List (Str × Value)).length } ->
   codeAny (model X.prog X.w) X.A (.compLoop (.ListComp elt [⟨.Name x px, iter, ifs, 0⟩] scope pos) 0 (.ref it) (.ref s2.heap.objs.size) (compEnvC scope cl s3.heap.objs.size X.env))
    (compPost (model X.prog X.w) X.A X.xe (some (assign (.Name y py) X.env)) (fun _ s' => SP X pins En .next s') (.ref s2.heap.objs.size) s3.heap.objs.size) s4 := by
  rintro s4 rfl
  refine codeAny_compLoop_tests (I := fun n s' => ∃ k σ' H', Inv (blk X N scope cl s3.heap.objs.size s3 (upd H2 s2.heap.objs.size (.lst [])) fp pins) [] σ' H' s' /\ tn k s'.heap /\ (∀ b ∈ fp, H' b = none) /\ W k n σ' H') ?_ m0
   ⟨0, f σ, _, I4, st4, fun b hb => (fp3 b hb).1, w0⟩
  rintro n s5 ⟨k, σ5, H5, I5, st5, fr5, w5⟩
  rcases turn k n σ5 H5 w5 with ⟨stop, qn⟩ | ⟨go, step⟩
  ·refine wpAny_mono (T.done (blk X N scope cl s3.heap.objs.size s3 (upd H2 s2.heap.objs.size (.lst [])) fp pins) rfl rfl rfl hc k [] s5 σ5 H5 _ I5 (fpB fr5) st5 stop) (fun r s6 h6 => ?_) fun _ _ z => z
   obtain ⟨hr, I6⟩ := h6
   subst hr
   obtain ⟨m6, hn6, _⟩ := id I6.loc
   have I7 : Inv X pins σ H5 s6 := I3.call' (s' := s6) (ch := fp) I6.os I6.base I6.hok I6.bare fun b hb => by
    obtain ⟨_, g2, g3, g4, g5, g6⟩ := f2 b hb
    exact ⟨g4, g2, g5, g6⟩
   obtain ⟨oC, es, ep, hoC, hdC, hkC⟩ := id hn6
   have hCL : s3.heap.objs.size ≠ X.env.locals := ZbC I3.lt
   have I8 : Inv X (pins ++ [(s3.heap.objs.size, oC)]) σ H5 s6 := I7.pins_of fun p hp => (Zah.mp hp).elim (fun z => I7.pin p (Zan _ z)) fun z => by
    have ez : p = (s3.heap.objs.size, oC) := by simpa using z
    subst ez
    exact ⟨hoC, I6.free, hCL, I3.nofs (ZbD _), fun v q => by rw [hdC] at q; cases q⟩
   show wpAny _ X.A (assign (.Name y py) X.env (.ref s2.heap.objs.size)) _ _ s6
   refine wpAny_assign_Name (Zgb (X := X) I8 hN hj hy (v := .ref s2.heap.objs.size) rfl (fun s7 I9 => ?_) hf)
   have pC := I9.pin (s3.heap.objs.size, oC) (Zan _ (Zan _ (by simp)))
   refine ⟨m6, ⟨oC, es, ep, pC.1, hdC, hkC⟩, fun h' sb => ?_⟩
   refine ⟨σ.set j (some (.ref s2.heap.objs.size)), H5, ?_, qn⟩
   exact Inv.turned (h' := h') (t' := s7.toks) (it := s3.heap.objs.size) I9.unpinned (fun b o hb e => (sb.2 b hb).trans e) pC.2.1 hCL (.inr I3.sz) (fun z c e q => by
    obtain ⟨v, q2⟩ := I3.cell z c e
    exact absurd (q ▸ q2.lt) (Zby _)) fun p hp q => absurd (q ▸ ZcN (I3.pin p hp).1) (Zby _)
  ·refine wpAny_mono (T.item (blk X N scope cl s3.heap.objs.size s3 (upd H2 s2.heap.objs.size (.lst [])) fp pins) rfl rfl rfl hc k [] s5 σ5 H5 _ I5 (fpB fr5) st5 go) (fun r s6 h6 => ?_) fun _ _ z => z
   obtain ⟨u, hr, h6⟩ := h6
   subst hr
   show wpAny _ _ (pure () >>= fun _ => assign (.Name x px) (compEnvC scope cl s3.heap.objs.size X.env) u) _ _ s6
   refine wpAny_bind (wpAny_mono (show wpAny _ _ (pure ()) _ _ s6 from h6) (fun _ s7 h7 => ?_) fun _ _ z => z)
   obtain ⟨v, H7, I7, r7, y7, st7, fr7⟩ := h7
   have I7' := I7.pinned (fpB fr7) (T.obj _ _ st7)
   refine wpAny_assign_Name (Zgb (X := blk X N scope cl s3.heap.objs.size s3 (upd H2 s2.heap.objs.size (.lst [])) fp pins) I7' B.nd B.ix (.inl (lookup_relabel_local B.loc)) r7 (fun s8 I8 => ?_) (.inr (lookup_relabel_local B.loc)))
   have back : ∀ {σ9 : St} {H9 : Hp} {s9 : Shared}, Inv (blk X N scope cl s3.heap.objs.size s3 (upd H2 s2.heap.objs.size (.lst [])) fp pins) ([] ++ Zij fp s7.heap) σ9 H9 s9 -> (∃ m', m' < n /\ W (k + 1) m' σ9 H9) ->
     ∃ m', m' < n /\ ∃ k σ' H', Inv (blk X N scope cl s3.heap.objs.size s3 (upd H2 s2.heap.objs.size (.lst [])) fp pins) [] σ' H' s9 /\ tn k s9.heap /\ (∀ b ∈ fp, H' b = none) /\ W k m' σ' H' := fun {σ9 H9 s9} I9 q9 => by
    obtain ⟨m', hm, w9⟩ := q9
    refine ⟨m', hm, k + 1, σ9, H9, I9.unpinned, T.keep _ _ _ st7 fun b hb o e => (I9.pin (b, o) (Zan _ (Zan _ (Zfq hb e)))).1, fun b hb => ?_, w9⟩
    obtain ⟨o, e, d⟩ := T.obj _ _ st7 b hb
    exact (I9.pin (b, o) (Zan _ (Zan _ (Zfq hb e)))).2.1
   refine wpAny_mono (htt _ _ _ _ _ _ s8 _ H7 _ I8 (step v H7 y7)) (fun ok s9 h9 => ?_) fun _ _ z => False.elim z
   obtain ⟨H9, I9, q9⟩ := h9
   cases ok with
   | false =>
    rw [if_neg Zcy]
    rw [if_neg Zcy] at q9
    exact back I9 q9
   | true =>
    rw [if_pos rfl]
    rw [if_pos rfl] at q9
    refine wpAny_mono (hte _ _ _ _ _ _ s9 _ H9 _ I9 q9) (fun y s10 h10 => ?_) fun _ _ z => False.elim z
    obtain ⟨v10, H10, I10, r10, xs, hx10, hz, q10⟩ := h10
    refine wpAny_mono (ZdA (X := blk X N scope cl s3.heap.objs.size s3 (upd H2 s2.heap.objs.size (.lst [])) fp pins) _ s10 _ H10 (.ref s2.heap.objs.size) [v10] _ [y] (fun _ H11 => H11 = upd H10 s2.heap.objs.size (.lst (xs ++ [v10]))) I10 rfl (.cons r10 .nil) ⟨_, xs, v10, rfl, rfl, hx10, hz, rfl⟩) (fun _ s11 h11 => ?_) fun _ _ z => False.elim z
    obtain ⟨_, H11, I11, _, e11⟩ := h11
    subst e11
    exact back I11 q10
 exact codeAny_compStart_list (loop _ rfl) (T.self _ 0 _ _ _ st4 (loop _ rfl))
end L2.Internal
namespace L2.Internal
open PySem PySem.Spec PyProof.Rows
section
variable {prog : Program} {w : World} {A : Around} {E : Value -> Shared -> Prop} {s : Shared}
end
section
variable {prog : Program} {w : World} {A : Around} {E : Value -> Shared -> Prop} {s : Shared}
end
section
variable {X : Cx}
end
end L2.Internal
namespace L2.Internal
open PySem PySem.Spec PyProof.Rows
theorem ZlD : typeLookup (.type "tuple") "keys" = pure none := by rw [typeLookup_type, builtinLookup_eq_fast]; kernel_rfl
section
variable {prog : Program} {w : World} {A : Around} {E : Value -> Shared -> Prop} {s : Shared}
theorem Zor {a : Addr} {xs : Array Value} {k : Nat} {sl : Array (Option Value)} {Q : Option Value -> Shared -> Prop} (hx : s.heap.get? a = some { cls := .type "tuple", dict := none, data := .seq xs k, slots := sl }) (hA : A.handled = none)
  (q : ∀ h' tk, (∀ b o, s.heap.get? b = some o -> h'.get? b = some o) -> Q none { s with heap := h', toks := tk }) : wpAny (model prog w) A (getAttr? (.ref a) "keys") Q E s := by
 obtain ⟨hp, g, d, tk, os⟩ := s
 have hT : ∀ tk', (⟨hp, g, d, tk', os⟩ : Shared).TypeIs (.ref a) "tuple" := fun _ => ⟨_, hx, rfl⟩
 have f1 := sub_AttributeError
 have f3 := F.slot_tuple_getattribute.lookup
 have f4 := F.slot_tuple_getattribute.bind (.ref a)
 have f5 := am_tuple_getattr_none
 unfold getAttr? getAttrBy? getAttrBy
 repeat (any_goals (first | assumption | exact hT _ | ((with_reducible show wpAny _ _ (call (Value.builtin "tuple.__getattribute__") _ _) _ _ _); refine call_meets F.slot_tuple_getattribute (hT _) am_entry_tuple_getattribute (F.args_tuple_getattribute_2 _ _) (meets_getattribute_miss_tuple a xs k sl "keys" _ ZlD (by decide +kernel) (by decide +kernel)) ⟨hx, hA, fun h' tk' e hx' => ?_⟩) | wp_step))
 obtain ⟨t', u', he⟩ := hx'.there
 show wpAny _ _ (getattributeRaised _ _ _ _ _ _ _) _ _ _
 unfold getattributeRaised
 repeat (any_goals (first | assumption | wp_step))
 exact q h' tk' hx'.keeps
end
inductive Prs (H : Hp) : List V -> List (Str × V) -> Prop
 | nil : Prs H [] []
 | cons {a : Addr} {p : Str × V} {l : List V} {m : List (Str × V)} : H a = some (.tup [.str p.1, p.2]) -> Prs H l m -> Prs H (.ref a :: l) (p :: m)
theorem Zgj : entryFor table "dict.update.loop" = some Builtin.«dict.update.loop» := entryFor_of_tree (by kernel_rfl)
noncomputable def kf (p : Str × V) : Key × V := (Sum.inr p.1, p.2)
section
variable {X : Cx} {pins : List (Addr × Obj)} {σ : St} {H : Hp} {d it t : Addr} {vs : List V} {A : Around} {R : Result -> Shared -> Prop}
theorem ZjB (hA : A.handled = none) (hd : H d = none) (ht : H t = some (.tup vs)) : ∀ (rest : List (Str × V)) (ys : List V) (i : Nat) (acc : List (Key × V)) (s : Shared),
  Inv X pins σ (upd H d (.dK acc)) s -> ZkL X pins (upd H d (.dK acc)) it -> s.heap.IsTupleIter it t i -> vs.drop i = ys -> Prs H ys rest -> acc.length + rest.length <= 1000 ->
  (∀ s', Inv X pins σ (upd H d (.dK (Zd5 acc (rest.map kf)))) s' -> R (.ok (.ret .none)) s') ->
  codeAny (model X.prog X.w) A (.builtin "dict.update.loop" ⟨[.ref d, .ref it, .int (i : Int) 0, .none], []⟩) R s
 | [], ys, i, acc, s, I, f, st, ey, hp, hn, k => by
  cases hp
  have ht' : (upd H d (.dK acc)) t = some (.tup vs) := by rw [Zc6 (Zc9 ht hd)]; exact ht
  obtain ⟨its, rv, p, hz⟩ := I.tuple (SqT.of ht')
  obtain ⟨f0, f1, f2, f3, f4, f5⟩ := f
  have hl := rv.length
  have hi : vs.length <= i := ZaW.mp ey
  refine codeAny_builtin Zgj ?_
  unfold Builtin.«dict.update.loop»
  show wpAny _ _ (pyNext (.ref it) >>= _) _ _ s
  refine wpAny_bind (wpAny_pyNext_tuple_end (by exact hA) st (show s.heap.IsTuple t its.toArray from p) (by simp; omega) fun h' eb => ?_)
  have I1 : Inv X pins σ (upd H d (.dK acc)) { s with heap := h' } := I.turned (t' := s.toks) (fun b o hb e => eb b o hb e) f0 f1 f3 f4 f5
  exact wpAny_bind (wpAny_pure (wpAny_pure (k _ I1)))
 | pr :: rest, ys, i, acc, s, I, f, st, ey, hp0, hn, k => by
  obtain ⟨a, l, rfl, ha, hp⟩ : ∃ a l, ys = .ref a :: l /\ H a = some (.tup [.str pr.1, pr.2]) /\ Prs H l rest := by
   cases hp0 with
   | cons h1 h2 => exact ⟨_, _, rfl, h1, h2⟩
  have ht' : (upd H d (.dK acc)) t = some (.tup vs) := by rw [Zc6 (Zc9 ht hd)]; exact ht
  have ha' : (upd H d (.dK acc)) a = some (.tup [.str pr.1, pr.2]) := by rw [Zc6 (Zc9 ha hd)]; exact ha
  obtain ⟨its, rv, p, hz⟩ := I.tuple (SqT.of ht')
  have ff := f
  obtain ⟨f0, f1, f2, f3, f4, f5⟩ := f
  have hvi : vs[i]? = some (.ref a) := by
   have := congrArg (·[0]?) ey
   simpa using this
  obtain ⟨u, hu, ru⟩ := rv.get hvi
  cases ru
  refine codeAny_builtin Zgj ?_
  unfold Builtin.«dict.update.loop»
  show wpAny _ _ (pyNext (.ref it) >>= _) _ _ s
  refine wpAny_bind (wpAny_pyNext_tuple_item st (show s.heap.IsTuple t its.toArray from p) (x := .ref a) (by simpa using hu) fun h' st' sb => ?_)
  have I1 : Inv X pins σ (upd H d (.dK acc)) { s with heap := h' } := I.turned (t' := s.toks) (fun b o hb e => (sb.2 b hb).trans e) f0 f1 f3 f4 f5
  obtain ⟨its2, rv2, ⟨ob, hob, hoc, on, hod⟩, _⟩ := I1.tuple (SqT.of ha')
  obtain ⟨kx, vx, rfl, ⟨tk, rfl⟩, rvx⟩ := Zpl rv2
  obtain ⟨z, hds, vs2, rel, dd⟩ := Zna I1.hok (show (upd H d (.dK acc)) d = some (.dK acc) from ZcX)
  refine wpAny_bind (wpAny_holding (wpAny_bind (wpAny_tryCatch ?_)))
  unfold Builtin.Dict.pairItems
  refine wpAny_bind (wpAny_typeOf (T := "tuple") ⟨ob, hob, hoc⟩ ?_)
  rw [if_pos (by decide)]
  refine wpAny_bind (wpAny_seqItems hob hod ?_)
  refine wpAny_pure ?_
  show wpAny _ _ (holding [Value.str pr.1 tk, vx] (dictSet d (.str pr.1 tk) vx)) _ _ _
  have hv2 : vs2.length <= sizeLine := by rw [<- rel.length]; exact z
  have hn' : acc.length + (rest.length + 1) <= 1000 := hn
  have hl : (Zfa acc (Sum.inr pr.1) pr.2).length <= 1000 := by have := ZdP acc (Sum.inr pr.1) pr.2; omega
  have hl2 : (Zfa acc (Sum.inr pr.1) pr.2).length + rest.length <= 1000 := by have := ZdP acc (Sum.inr pr.1) pr.2; omega
  refine wpAny_holding (wpAny_dictSet_pairs (hsz := hv2) (k := (Sum.inr pr.1 : Key)) (Ziy (k := (Sum.inr pr.1 : Key)) (show ZdU (kV (Sum.inr pr.1)) _ from ⟨tk, rfl⟩)) dd fun h2 dd2 sb2 => ?_)
  have he : ∃ q, h2.get? d = some q := let ⟨q, _, _, hq, _⟩ := dd2; ⟨q, hq⟩
  have I2 := Zhw (t' := s.toks + 1) I1 (by rw [ZcX]; exact True.intro) sb2 he (Zjw (kvs := Zfa acc (Sum.inr pr.1) pr.2) (ZbA hl (by decide)) hds (rel.put (Sum.inr pr.1) rvx) dd2)
  rw [ZdZ] at I2
  have hid : it ≠ d := fun e => by rw [e, ZcX] at f0; exact nomatch f0
  obtain ⟨oi, hoi, ri⟩ := st'
  have st2 : h2.IsTupleIter it t (i + 1) := ⟨oi, (sb2.2 it hid).trans hoi, ri⟩
  refine wpAny_pure ⟨Code.quiet_builtin _ (by decide +kernel), ?_⟩
  have ey2 : vs.drop (i + 1) = l := by rw [<- List.tail_drop, ey]; rfl
  exact ZjB hA hd ht rest l (i + 1) (Zfa acc (Sum.inr pr.1) pr.2) _ I2 ⟨by rw [Zc6 hid] at f0 ⊢; exact f0, f1, f2, f3, f4, f5⟩ st2 ey2 hp hl2 k
end
section
variable {X : Cx}
theorem Zg1 (hc : X.calm = true) : ZgD X (.type "dict") (fun xs H Q => ∃ (t : Addr) (vs : List V) (kvs : List (Str × V)), xs = [.ref t] /\ H t = some (.tup vs) /\ Prs H vs kvs /\ kvs.length <= 1000 /\ ∀ d, H d = none -> Q (.ref d) (upd H d (.dK (Zd5 [] (kvs.map kf))))) := by
 intro pins s σ H xs us Q I r h
 obtain ⟨t, vs, kvs, rfl, ht, hp, hn, q⟩ := h
 obtain ⟨u, rfl, ru⟩ := Zhc r
 cases ru
 obtain ⟨_, its, rv, o, ho, hcl, n, hd, hdd⟩ := (show ZeN X.prog X.w H s.heap t (.tup vs) from I.hok t _ ht)
 obtain ⟨oc, od, odt, osl⟩ := o
 cases (show oc = _ from hcl)
 cases (show odt = _ from hd)
 cases (show od = _ from hdd)
 refine callType_codes (Q₁ := fun obj s₁ => obj = .ref s.heap.objs.size /\ s₁ = { s with heap := s.heap.push { cls := .type "dict", data := .dict #[] } }) F.kt_called_dict (F.kt_typeCall_dict_1 _) F.entry_dict_init (kt_code_dict_new _ ⟨rfl, rfl⟩) ?_
 rintro obj s₁ ⟨rfl, rfl⟩
 have hnew : (s.heap.push { cls := .type "dict", data := .dict #[] }).DictOf (Zd4 X.prog X.w) s.heap.objs.size [] := Heap.DictOf.new s.heap
 refine ⟨hnew.typeIs, F.args_dict_init_2 _ _, ?_⟩
 unfold Builtin.«dict.__init__»
 refine wpAny_bind ?_
 unfold Builtin.Dict.selfAndRest
 refine wpAny_bind (wpAny_notOrdered_dict hnew.typeIs ?_)
 show wpAny _ _ (pure (s.heap.objs.size, [Value.ref t])) _ _ _
 refine wpAny_pure ?_
 show wpAny _ _ (Builtin.Dict.updateFrom "dict.__init__" s.heap.objs.size (.ref t) [] .none) _ _ _
 unfold Builtin.Dict.updateFrom
 have ho1 := ZcP { cls := .type "dict", data := .dict #[] } ho
 refine wpAny_bind (wpAny_typeOf (T := "tuple") ⟨_, ho1, rfl⟩ ?_)
 rw [if_pos (by decide)]
 refine wpAny_bind (Zor ho1 (by exact I.ok.hd hc) fun h1 tk1 kp1 => ?_)
 rw [if_pos (by rfl)]
 refine wpAny_bind (wpAny_rule ?_)
 have I1 : Inv X pins σ (upd H s.heap.objs.size (.dK [])) { s with heap := h1, toks := tk1 } := by
  refine I.laid (fun b u e => kp1 b u (ZcP _ e)) (ZbD _) (Zjw (by decide) ?_ .nil ?_)
  ·have hb := I.big
   exact beq_false_of_ne (ZbC hb)
  ·obtain ⟨o, es, ep, ho, r⟩ := hnew
   exact ⟨o, es, ep, kp1 _ _ ho, r⟩
 have ho2 : h1.IsTuple t its.toArray := ⟨_, kp1 _ _ ho1, rfl, n, rfl⟩
 refine wpAny_bind (wpAny_pyIter_tuple (show ({ s with heap := h1, toks := tk1 } : Shared).heap.IsTuple t its.toArray from ho2) ?_)
 have f := I1.fpOk (ZbD _) (I1.hok.fresh (ZbD _))
 have I2 : Inv X pins σ (upd H s.heap.objs.size (.dK [])) { s with heap := h1.push { cls := .type "tuple_iterator", data := .fields #[.ref t, .int 0 0] }, toks := tk1 } := I1.kept (t' := tk1) fun b o e => ZcP _ e
 refine wpAny_pure ⟨Code.quiet_builtin _ (by decide +kernel), ?_⟩
 refine ZjB (A := X.A.in1) (by exact I.ok.hd hc) (I.hok.fresh (ZbD _)) ht kvs vs 0 [] _ I2 f ⟨_, ZcO _ rfl, rfl, rfl⟩ rfl hp (by simpa using hn) fun s' J => ?_
 exact ⟨rfl, .ref s.heap.objs.size, _, J, rfl, q _ (I.hok.fresh (ZbD _))⟩
end
end L2.Internal
namespace BO.Internal
open PySem L2.Internal
theorem sz {n : Nat} (h : n <= 100000) : n <= sizeLine := ZbA h (by decide)
theorem Zc2 {H : Hp} {p : Addr} (h : H p = none) (o : HO) : Zdj H (upd H p o) := fun b u q => by rw [Zc6 (Zc9 q h)]; exact q
theorem ZnQ {α : Type} (l : List α) (i : Int) (h0 : 0 <= i) (h1 : i < (l.length : Int)) : ∃ c, atI l i = some c /\ c ∈ l := by
 have e : i = ((i.toNat : Nat) : Int) := by omega
 have hi : i.toNat < l.length := by omega
 refine ⟨l[i.toNat], ?_, List.getElem_mem hi⟩
 have z : atI l ((i.toNat : Nat) : Int) = some l[i.toNat] := ZcZ (ZaQ hi)
 rw [<- e] at z
 exact z
noncomputable def flN : V -> Bool
 | .non => true
 | .int _ => true
 | .str _ => true
 | _ => false
mutual
inductive Im (H : Hp) : V -> Dt -> Prop where
 | flat {v : V} (h : flN v = true) : Im H v (.flat v)
 | tup {a : Addr} {xs : List V} {ds : List Dt} (h : H a = some (.tup xs)) (hs : Ims H xs ds) : Im H (.ref a) (.tup ds)
inductive Ims (H : Hp) : List V -> List Dt -> Prop where
 | nil : Ims H [] []
 | cons {x : V} {d : Dt} {xs : List V} {ds : List Dt} (h : Im H x d) (hs : Ims H xs ds) : Ims H (x :: xs) (d :: ds)
end
mutual
inductive Dta (H : Hp) : V -> Dt -> Prop where
 | flat {v : V} (h : flN v = true) : Dta H v (.flat v)
 | tup {a : Addr} {xs : List V} {ds : List Dt} (h : H a = some (.tup xs)) (hs : Zos H xs ds) : Dta H (.ref a) (.tup ds)
 | lst {a : Addr} {xs : List V} {ds : List Dt} (h : H a = some (.lst xs)) (hs : Zos H xs ds) : Dta H (.ref a) (.lst ds)
inductive Zos (H : Hp) : List V -> List Dt -> Prop where
 | nil : Zos H [] []
 | cons {x : V} {d : Dt} {xs : List V} {ds : List Dt} (h : Dta H x d) (hs : Zos H xs ds) : Zos H (x :: xs) (d :: ds)
end
def TK (H H' : Hp) : Prop := ∀ a xs, H a = some (.tup xs) -> H' a = some (.tup xs)
theorem Zdj.tk {H H' : Hp} (s : Zdj H H') : TK H H' := fun a xs e => s a _ e
mutual
theorem Im.mono {H H' : Hp} (k : TK H H') : ∀ {v : V} {d : Dt}, Im H v d -> Im H' v d
 | _, _, .flat h => .flat h
 | _, _, .tup h hs => .tup (k _ _ h) (Ims.mono k hs)
theorem Ims.mono {H H' : Hp} (k : TK H H') : ∀ {v : List V} {d : List Dt}, Ims H v d -> Ims H' v d
 | _, _, .nil => .nil
 | _, _, .cons h hs => .cons (Im.mono k h) (Ims.mono k hs)
end
mutual
theorem Im.da {H : Hp} : ∀ {v : V} {d : Dt}, Im H v d -> Dta H v d
 | _, _, .flat h => .flat h
 | _, _, .tup h hs => .tup h (Ims.das hs)
theorem Ims.das {H : Hp} : ∀ {v : List V} {d : List Dt}, Ims H v d -> Zos H v d
 | _, _, .nil => .nil
 | _, _, .cons h hs => .cons (Im.da h) (Ims.das hs)
end
theorem Ims.length {H : Hp} : ∀ {xs : List V} {ds : List Dt}, Ims H xs ds -> xs.length = ds.length
 | _, _, .nil => rfl
 | _, _, .cons _ t => by rw [Zao, Zao, Ims.length t]
theorem Ims.app {H : Hp} : ∀ {xs ys : List V} {ds es : List Dt}, Ims H xs ds -> Ims H ys es -> Ims H (xs ++ ys) (ds ++ es)
 | _, _, _, _, .nil, h => h
 | _, _, _, _, .cons a b, h => .cons a (Ims.app b h)
inductive ZgJ {α β : Type} (F : α -> β -> Prop) : List α -> List β -> Prop
 | nil : ZgJ F [] []
 | cons {a : α} {b : β} {l : List α} {m : List β} : F a b -> ZgJ F l m -> ZgJ F (a :: l) (b :: m)
theorem ZgJ.imp {α β : Type} {F G : α -> β -> Prop} (f : ∀ a b, F a b -> G a b) : ∀ {l : List α} {m : List β}, ZgJ F l m -> ZgJ G l m
 | _, _, .nil => .nil
 | _, _, .cons h t => .cons (f _ _ h) (ZgJ.imp f t)
theorem ZgJ.snoc {α β : Type} {F : α -> β -> Prop} {a : α} {b : β} (h : F a b) : ∀ {l : List α} {m : List β}, ZgJ F l m -> ZgJ F (l ++ [a]) (m ++ [b])
 | _, _, .nil => .cons h .nil
 | _, _, .cons x t => .cons x (ZgJ.snoc h t)
theorem ZgJ.length {α β : Type} {F : α -> β -> Prop} : ∀ {l : List α} {m : List β}, ZgJ F l m -> l.length = m.length
 | _, _, .nil => rfl
 | _, _, .cons _ t => by rw [Zao, Zao, ZgJ.length t]
theorem ZgJ.get {α β : Type} {F : α -> β -> Prop} : ∀ {l : List α} {m : List β} {j : Nat} {x : α}, ZgJ F l m -> l[j]? = some x -> ∃ y, m[j]? = some y /\ F x y
 | _, _, 0, _, .cons h _, e => ⟨_, rfl, by cases e; exact h⟩
 | _, _, j + 1, _, .cons _ t, e => by
  rw [ZaU] at e
  obtain ⟨d, e1, e2⟩ := ZgJ.get t e
  exact ⟨d, by rw [ZaU]; exact e1, e2⟩
mutual
noncomputable def okD : Dt -> Prop
 | .flat _ => True
 | .tup l => l.length <= 100000 /\ ZpC l
 | .lst l => l.length <= 100000 /\ ZpC l
noncomputable def ZpC : List Dt -> Prop
 | [] => True
 | x :: xs => okD x /\ ZpC xs
end
theorem ZkW {α : Type} {f : α -> Dt} : ∀ {l : List α}, (∀ x ∈ l, okD (f x)) -> ZpC (l.map f)
 | [], _ => trivial
 | x :: xs, h => ⟨h x (by simp), ZkW fun y hy => h y (by simp [hy])⟩
theorem ZgK {α : Type} {f : α -> Dt} {n : Nat} : ∀ {l : List α}, (∀ x ∈ l, ZgI (f x) <= n) -> ZfC (l.map f) <= n
 | [], _ => ZbE _
 | x :: xs, h => Nat.max_le.mpr ⟨h x (by simp), ZgK fun y hy => h y (by simp [hy])⟩
noncomputable def prL (p : Str × Int) : Dt := .tup [.flat (.str p.1), .flat (.int p.2)]
noncomputable def prD (l : List (Str × Int)) : Dt := .tup (l.map prL)
inductive Us where
 | num (a p s : Int)
 | call (a p s x y : Int)
 | take (a p s : Int) (l : List (Str × Int))
 | case (a p s : Int) (l : List (Str × Int))
 | row (a p s x : Int)
noncomputable def hdD (n : Str) (a p s : Int) : List Dt := [.flat (.str n), .flat (.int a), .flat (.int p), .flat (.int s)]
noncomputable def Us.d : Us -> Dt
 | .num a p s => .tup (hdD "num" a p s)
 | .call a p s x y => .tup (hdD "call" a p s ++ [.flat (.int x), .flat (.int y)])
 | .take a p s l => .tup (hdD "take" a p s ++ [prD l])
 | .case a p s l => .tup (hdD "case" a p s ++ [prD l])
 | .row a p s x => .tup (hdD "row" a p s ++ [.flat (.int x)])
noncomputable def Us.ok : Us -> Prop
 | .take _ _ _ l => l.length <= 10
 | .case _ _ _ l => l.length <= 10
 | _ => True
structure Mkg where
 s : Str
 f : Dt
 a : Int
 p : Int
noncomputable def Mkg.d (m : Mkg) : Dt := .tup [.flat (.str m.s), m.f, .flat (.int m.a), .flat (.int m.p)]
theorem Zot (l : List (Str × Int)) : ZgI (prD l) <= 2 := by
 have h : ∀ l : List (Str × Int), ZfC (l.map prL) <= 1 := by
  intro l
  induction l with
  | nil => exact ZbE _
  | cons x t ih => exact Nat.max_le.mpr ⟨by simp [prL, ZgI, ZfC], ih⟩
 exact ZbJ (h l)
theorem ZpD {l : List (Str × Int)} (h : l.length <= 10) : okD (prD l) := ⟨by rw [Zar]; omega, ZkW fun x _ => ⟨by show 2 <= 100000; decide, trivial, trivial, trivial⟩⟩
noncomputable def fU (a p s : V) : List (Str × V) := [("at", a), ("place", p), ("slot", s)]
noncomputable def fU1 (n : Str) (a p s x : V) : List (Str × V) := [("at", a), ("place", p), ("slot", s), (n, x)]
noncomputable def fU2 (a p s x y : V) : List (Str × V) := [("at", a), ("place", p), ("slot", s), ("arg", x), ("out", y)]
noncomputable def fM (s f a p : V) : List (Str × V) := [("shape", s), ("parts", f), ("at", a), ("place", p)]
noncomputable def fB (p0 p1 p2 p3 : Addr) (r : V) : List (Str × V) := [("points", .ref p0), ("makes", .ref p1), ("uses", .ref p2), ("flows", .ref p3), ("root", r)]
structure Cs where
 M : Addr
 N : Addr
 C : Addr
 T : Addr
 K : Addr
 R : Addr
 B : Addr
noncomputable def UsAt (c : Cs) (H : Hp) (v : V) : Us -> Prop
 | .num a p s => ∃ x dx, v = .ref x /\ H x = some (.ins c.N dx (fU (.int a) (.int p) (.int s)))
 | .call a p s y z => ∃ x dx, v = .ref x /\ H x = some (.ins c.C dx (fU2 (.int a) (.int p) (.int s) (.int y) (.int z)))
 | .take a p s l => ∃ x dx f, v = .ref x /\ H x = some (.ins c.T dx (fU1 "fields" (.int a) (.int p) (.int s) f)) /\ Im H f (prD l) /\ l.length <= 10
 | .case a p s l => ∃ x dx f, v = .ref x /\ H x = some (.ins c.K dx (fU1 "arms" (.int a) (.int p) (.int s) f)) /\ Im H f (prD l) /\ l.length <= 10
 | .row a p s y => ∃ x dx, v = .ref x /\ H x = some (.ins c.R dx (fU1 "out" (.int a) (.int p) (.int s) (.int y)))
def Zkg (c : Cs) (H : Hp) (v : V) (m : Mkg) : Prop := ∃ x dx f, v = .ref x /\ H x = some (.ins c.M dx (fM (.str m.s) f (.int m.a) (.int m.p))) /\ Im H f m.f /\ ZgI m.f <= 2 /\ okD m.f
noncomputable def Fz : HO -> Prop
 | .tup _ => True
 | .ins _ _ fs => fs.length ≠ 5 \/ ∃ v r, fs = (("at" : Str), v) :: r
 | _ => False
def FK (H H' : Hp) : Prop := ∀ a o, H a = some o -> Fz o -> H' a = some o
theorem FK.tk {H H' : Hp} (k : FK H H') : TK H H' := fun a xs e => k a _ e trivial
theorem Zdj.fk {H H' : Hp} (s : Zdj H H') : FK H H' := fun a o e _ => s a o e
theorem FK.trans {H H1 H2 : Hp} (a : FK H H1) (b : FK H1 H2) : FK H H2 := fun c o e f => b c o (a c o e f) f
theorem UsAt.mono {c : Cs} {H H' : Hp} {v : V} (k : FK H H') : ∀ {u : Us}, UsAt c H v u -> UsAt c H' v u
 | .num _ _ _, ⟨x, dx, e, h⟩ => ⟨x, dx, e, k _ _ h (.inr ⟨_, _, rfl⟩)⟩
 | .call _ _ _ _ _, ⟨x, dx, e, h⟩ => ⟨x, dx, e, k _ _ h (.inr ⟨_, _, rfl⟩)⟩
 | .take _ _ _ _, ⟨x, dx, f, e, h, i, n⟩ => ⟨x, dx, f, e, k _ _ h (.inr ⟨_, _, rfl⟩), i.mono k.tk, n⟩
 | .case _ _ _ _, ⟨x, dx, f, e, h, i, n⟩ => ⟨x, dx, f, e, k _ _ h (.inr ⟨_, _, rfl⟩), i.mono k.tk, n⟩
 | .row _ _ _ _, ⟨x, dx, e, h⟩ => ⟨x, dx, e, k _ _ h (.inr ⟨_, _, rfl⟩)⟩
theorem Zkg.mono {c : Cs} {H H' : Hp} {v : V} {m : Mkg} (k : FK H H') : Zkg c H v m -> Zkg c H' v m
 | ⟨x, dx, f, e, h, i, d⟩ => ⟨x, dx, f, e, k _ _ h (.inl (by show 4 ≠ 5; decide)), i.mono k.tk, d⟩
theorem ZfQ {J : It} {i : Nat} {te : TE} {Q : VK} {τ : St} {H1 : Hp} {D : Addr} (n : Nat) (hn : n < sizeLine) (R : List V -> Hp -> Prop) (hR : ∀ xs H H', R xs H -> TK H H' -> R xs H') (hD : H1 D = none) (hτ : τ.set i none = τ)
  (hgo : ∀ k H, Zdj H1 H -> k < n -> J.go k H) (hst : ∀ H, Zdj H1 H -> J.stop n H) (h0 : R [] H1)
  (step : ∀ k H v H3 xs (Z : VK), Zdj H1 H -> k < n -> J.yld k H v H3 -> R xs H -> xs.length = k -> (∀ y H5, Zdj H H5 -> R (xs ++ [y]) H5 -> Z y H5) -> te (τ.set i (some v)) H3 Z)
  (hq : ∀ H' xs, Zdj H1 H' -> R xs H' -> xs.length = n -> H' D = some (.lst xs) -> Q (.ref D) H') : LcP J i Zke te Q τ H1 D := by
 have nd : ∀ (H5 : Hp) (xs ys : List V), H5 D = some (.lst xs) -> TK H5 (upd H5 D (.lst ys)) := fun H5 xs ys e a zs q => by rw [Zc6 (Zdx q e (fun z => nomatch z))]; exact q
 have up : ∀ {H : Hp} (o : HO), Zdj H1 H -> Zdj H1 (upd H D o) := fun {H} o S b u e => by rw [Zc6 (Zc9 e hD)]; exact S b u e
 refine ⟨fun k m σ' H2 => m = n - k /\ k <= n /\ (∃ o, σ' = τ.set i o) /\ Zdj H1 H2 /\ ∃ xs, H2 D = some (.lst xs) /\ xs.length = k /\ R xs H2, ⟨n, by simp, ZbE _, ⟨none, hτ.symm⟩, Zc2 hD _, [], ZcX, rfl, hR _ _ _ h0 (Zdj.tk (Zc2 hD _))⟩, ?_⟩
 rintro k m σ' H2 ⟨rfl, hk, ⟨o, rfl⟩, S, xs, e, hl, hr⟩
 by_cases hlt : k < n
 ·refine .inr ⟨hgo k H2 S hlt, fun v H3 y => ?_⟩
  rw [List.set_set]
  refine step k H2 v H3 xs _ S hlt y hr hl fun y H5 S5 r5 => ?_
  refine ⟨xs, S5 D _ e, by omega, n - (k + 1), by omega, rfl, hlt, ⟨some v, rfl⟩, up _ (S.trans S5), xs ++ [y], ZcX, by rw [ZaC, hl]; rfl, hR _ _ _ r5 (nd H5 _ _ (S5 D _ e))⟩
 ·have e1 : k = n := by omega
  subst e1
  exact .inl ⟨hst H2 S, hq H2 xs S hr hl e⟩
theorem ZpE {lo : Int} {n k : Nat} {H : Hp} (h : k < n) : (Itr lo n).go k H := h
theorem ZjC {K : PySem.W.Frag} {a : Addr} {xs : List V} {k : Nat} {H1 H : Hp} (e : H1 a = some (.lst xs)) (S : Zdj H1 H) (h : k < xs.length) : (Itl K a).go k H := ⟨xs, xs[k], SqL.of (S a _ e), ZaQ h⟩
theorem ZjD {K : PySem.W.Frag} {a : Addr} {xs : List V} {H1 H : Hp} (e : H1 a = some (.lst xs)) (S : Zdj H1 H) : (Itl K a).stop xs.length H := ⟨xs, SqL.of (S a _ e), ZbD _⟩
theorem ZnR {K : PySem.W.Frag} {a : Addr} {xs : List V} {k : Nat} {H1 H : Hp} (e : H1 a = some (.tup xs)) (S : Zdj H1 H) (h : k < xs.length) : (Itt K a).go k H := ⟨xs, xs[k], SqT.of (S a _ e), ZaQ h⟩
theorem ZnS {K : PySem.W.Frag} {a : Addr} {xs : List V} {H1 H : Hp} (e : H1 a = some (.tup xs)) (S : Zdj H1 H) : (Itt K a).stop xs.length H := ⟨xs, SqT.of (S a _ e), ZbD _⟩
inductive Ls (H : Hp) : List Addr -> List (List V) -> Prop
 | nil : Ls H [] []
 | cons {a : Addr} {c : List V} {l : List Addr} {m : List (List V)} : H a = some (.lst c) -> Ls H l m -> Ls H (a :: l) (c :: m)
theorem Ls.other {H : Hp} {b : Addr} {o : HO} : ∀ {l : List Addr} {m : List (List V)}, Ls H l m -> b ∉ l -> Ls (upd H b o) l m
 | _, _, .nil, _ => .nil
 | _, _, .cons (a := a) h t, n => .cons (by rw [Zc6 (fun z => n (by simp [z]))]; exact h) (Ls.other t fun z => n (by simp [z]))
theorem Ls.frame {H H' : Hp} {M : List Addr} (k : ∀ a o, H a = some o -> a ∉ M -> H' a = some o) : ∀ {l : List Addr} {m : List (List V)}, Ls H l m -> (∀ a ∈ l, a ∉ M) -> Ls H' l m
 | _, _, .nil, _ => .nil
 | _, _, .cons (a := a) h t, n => .cons (k _ _ h (n a (by simp))) (Ls.frame k t fun b hb => n b (by simp [hb]))
theorem Ls.same {H H' : Hp} (k : Zdj H H') : ∀ {l : List Addr} {m : List (List V)}, Ls H l m -> Ls H' l m
 | _, _, .nil => .nil
 | _, _, .cons h t => .cons (k _ _ h) (Ls.same k t)
theorem Ls.get {H : Hp} : ∀ {l : List Addr} {m : List (List V)} {i : Nat} {a : Addr}, Ls H l m -> l[i]? = some a -> ∃ c, m[i]? = some c /\ H a = some (.lst c)
 | _, _, 0, _, .cons h _, e => ⟨_, rfl, by cases e; exact h⟩
 | _, _, j + 1, _, .cons _ t, e => by
  rw [ZaU] at e
  obtain ⟨d, e1, e2⟩ := Ls.get t e
  exact ⟨d, by rw [ZaU]; exact e1, e2⟩
theorem Ls.put {H : Hp} {c : List V} : ∀ {l : List Addr} {m : List (List V)} {i : Nat} {a : Addr}, Ls H l m -> l.Nodup -> l[i]? = some a -> Ls (upd H a (.lst c)) l (m.set i c)
 | _, _, 0, _, .cons h t, n, e => by
  cases e
  exact .cons ZcX (t.other (Zat.mp n).1)
 | _, _, j + 1, a, .cons (a := b) h t, n, e => by
  rw [ZaU] at e
  have nb : b ≠ a := fun z => (Zat.mp n).1 (by rw [z]; exact ZaB e)
  exact .cons (by rw [Zc6 nb]; exact h) (Ls.put t (Zat.mp n).2 e)
structure Sd where
 b : Addr
 dx : Addr
 p0 : Addr
 p1 : Addr
 p2 : Addr
 p3 : Addr
 d : Addr
 q0 : Addr
 q1 : Addr
 q2 : Addr
 q3 : Addr
noncomputable def Sd.ls (S : Sd) : List Addr := [S.p0, S.p1, S.p2, S.p3, S.d, S.q0, S.q1, S.q2, S.q3]
structure Bd where
 pts : List Int
 mks : List Mkg
 uss : List Us
 fls : List (Int × Int)
 root : Int
noncomputable def flD (p : Int × Int) : Dt := .tup [.flat (.int p.1), .flat (.int p.2)]
structure BSx (c : Cs) (H : Hp) (S : Sd) (E D : Bd) : Prop where
 nd : S.ls.Nodup
 ob : H S.b = some (.ins c.B S.dx (fB S.p0 S.p1 S.p2 S.p3 (.int D.root)))
 st : ∃ mv uv fv mv' uv' fv' : List V, Ls H S.ls [D.pts.map V.int, mv, uv, fv, [.ref S.q0, .ref S.q1, .ref S.q2, .ref S.q3, .int E.root], E.pts.map V.int, mv', uv', fv'] /\
  ZgJ (Zkg c H) mv D.mks /\ ZgJ (UsAt c H) uv D.uss /\ Ims H fv (D.fls.map flD) /\ Ims H mv' (E.mks.map Mkg.d) /\ Ims H uv' (E.uss.map Us.d) /\ Ims H fv' (E.fls.map flD)
theorem Ls.at {H : Hp} {l : List Addr} {m : List (List V)} (L : Ls H l m) {i : Nat} {a : Addr} {c : List V} (h1 : l[i]? = some a) (h2 : m[i]? = some c) : H a = some (.lst c) := by
 obtain ⟨d, e1, e2⟩ := L.get h1
 rw [h2] at e1
 cases e1
 exact e2
theorem ZgL {H : Hp} {a : Addr} {xs : List V} {o : HO} (h : H a = some (.lst xs)) : FK H (upd H a o) := fun b u e f => by
 rw [Zc6 (Zdx e h (fun z => by rw [z] at f; exact f))]
 exact e
section
variable {c : Cs} {H H' : Hp} {S : Sd} {E D : Bd}
theorem BSx.frame {M : List Addr} (B : BSx c H S E D) (k : ∀ a o, H a = some o -> a ∉ M -> H' a = some o) (hb : S.b ∉ M) (hl : ∀ a ∈ S.ls, a ∉ M) (fk : FK H H') : BSx c H' S E D := by
 obtain ⟨nd, ob, mv, uv, fv, mv', uv', fv', L, h1, h2, h3, h4, h5, h6⟩ := B
 exact ⟨nd, k _ _ ob hb, mv, uv, fv, mv', uv', fv', L.frame k hl, h1.imp fun _ _ => Zkg.mono fk, h2.imp fun _ _ => UsAt.mono fk, h3.mono fk.tk, h4.mono fk.tk, h5.mono fk.tk, h6.mono fk.tk⟩
theorem Ls.mem {H : Hp} : ∀ {l : List Addr} {m : List (List V)} {a : Addr}, Ls H l m -> a ∈ l -> ∃ c, H a = some (.lst c)
 | _, _, _, .nil, h => by simp at h
 | _, _, _, .cons e t, h => by
  rcases Zag.mp h with z | z
  ·rw [z]; exact ⟨_, e⟩
  ·exact Ls.mem t z
end
theorem BSx.hl {c : Cs} {H : Hp} {S : Sd} {E D : Bd} {l : Addr} {xs : List V} {o : HO} (B : BSx c H S E D) (hn : l ∉ S.ls) (e : H l = some (.lst xs)) : BSx c (upd H l o) S E D := by
 refine B.frame (M := [l]) (fun a u q n => ?_) (fun z => ?_) (fun a ha z => ?_) (ZgL e)
 ·rw [Zc6 (fun z => n (by simp [z]))]; exact q
 ·have z' : S.b = l := by simpa using z
  have q := B.ob
  rw [z', e] at q
  cases q
 ·have z' : a = l := by simpa using z
  rw [z'] at ha
  exact hn ha
def Frm (M : List Addr) (H H' : Hp) : Prop := ∀ a o, H a = some o -> a ∉ M -> H' a = some o
theorem Frm.trans {M : List Addr} {H H1 H2 : Hp} (a : Frm M H H1) (b : Frm M H1 H2) : Frm M H H2 := fun c o e n => b c o (a c o e n) n
end BO.Internal
namespace BO.Internal
open PySem L2.Internal
noncomputable def lk : List (Str × Int) -> Str -> Option Int
 | [], _ => none
 | p :: t, w => if p.1 = w then some p.2 else lk t w
noncomputable def pI (p : Str × Int) : Str × V := (p.1, .int p.2)
def Zou (l : List (Str × Int)) : Prop := (l.map Prod.fst).Nodup
theorem Zmp : ∀ {l : List (Str × Int)} {w : Str}, w ∉ l.map Prod.fst -> lk l w = none
 | [], _, _ => rfl
 | p :: t, w, h => by
  rw [Zaq, Zag, not_or] at h
  rw [lk, if_neg (fun z => h.1 z.symm)]
  exact Zmp h.2
theorem Zgd : ∀ (l : List (Str × Int)) (acc : List (Key × V)) (w : Str), Zou l -> ZeO (Zd5 acc ((l.map pI).map kf)) (Sum.inr w) = match lk l w with
  | some i => some (.int i)
  | none => ZeO acc (Sum.inr w)
 | [], _, _, _ => rfl
 | p :: t, acc, w, h => by
  obtain ⟨h1, h2⟩ := Zat.mp (show (p.1 :: t.map Prod.fst).Nodup from h)
  show ZeO (Zd5 (Zfa acc (Sum.inr p.1) (.int p.2)) ((t.map pI).map kf)) (Sum.inr w) = _
  rw [Zgd t _ w h2, Zfp, lk]
  by_cases e : p.1 = w
  ·rw [if_pos e, Zmp (by rw [<- e]; exact h1)]
   rw [if_pos (by rw [e])]
  ·rw [if_neg e]
   rw [if_neg (fun z => e (by injection z with z; exact z.symm))]
inductive Mf where
 | num
 | fn (x y : Int)
 | rcd (l : List (Str × Int))
 | tag (w : Str) (x : Int)
 | row (x : Int)
 | any
noncomputable def Mf.s : Mf -> Str
 | .num => "num"
 | .fn _ _ => "fn"
 | .rcd _ => "rec"
 | .tag _ _ => "tag"
 | .row _ => "row"
 | .any => "any"
noncomputable def Mf.f : Mf -> Dt
 | .num => .tup []
 | .fn x y => .tup [.flat (.int x), .flat (.int y)]
 | .rcd l => prD l
 | .tag w x => .tup [.flat (.str w), .flat (.int x)]
 | .row x => .tup [.flat (.int x)]
 | .any => .tup []
noncomputable def Mf.ok : Mf -> Prop
 | .rcd l => l.length <= 10 /\ Zou l
 | _ => True
noncomputable def mkg (m : Mf) (a p : Int) : Mkg := ⟨m.s, m.f, a, p⟩
theorem Mf.dep (m : Mf) : ZgI m.f <= 2 := by
 cases m with
 | rcd l => exact Zot l
 | _ => simp [Mf.f, ZgI, ZfC]
theorem Mf.okd {m : Mf} (h : m.ok) : okD m.f := by
 cases m with
 | rcd l => exact ZpD h.1
 | _ => simp [Mf.f, okD, ZpC]
noncomputable def Us.dist : Us -> Prop
 | .take _ _ _ l => Zou l
 | .case _ _ _ l => Zou l
 | _ => True
noncomputable def fnd (m : List (Str × Int)) (p : Str × Int) : Option (Int × Int) := (lk m p.1).map fun x => (x, p.2)
noncomputable def ZjE (l m : List (Str × Int)) : Option (List (Int × Int)) := if (l.filterMap (fnd m)).length = l.length then some (l.filterMap (fnd m)) else none
noncomputable def ZhE : Us -> Mf -> Option (List (Int × Int))
 | .num _ _ _, .num => some []
 | .call _ _ _ x y, .fn a b => some [(x, a), (b, y)]
 | .take _ _ _ l, .rcd m => ZjE l m
 | .case _ _ _ l, .tag w x => (lk l w).map fun y => [(x, y)]
 | .row _ _ _ y, .row x => some [(x, y)]
 | _, _ => none
noncomputable def mtD : Option (List (Int × Int)) -> Dt
 | none => .flat .non
 | some l => .lst (l.map flD)
theorem Zip {l m : List (Str × Int)} {p : Str × Int} (h : p ∈ l) (e : lk m p.1 = none) : ZjE l m = none := by
 have : ∀ l : List (Str × Int), p ∈ l -> (l.filterMap (fnd m)).length < l.length := by
  intro l
  induction l with
  | nil => intro h; simp at h
  | cons a t ih =>
   intro h
   have hle := List.length_filterMap_le (fnd m) t
   rw [Zad]
   rcases Zag.mp h with z | z
   ·have : fnd m a = none := by rw [<- z, fnd, e]; rfl
    rw [this]
    show (ZaX (fnd m) t).length < t.length + 1
    omega
   ·have := ih z
    cases fnd m a with
    | none => show (ZaX (fnd m) t).length < t.length + 1; omega
    | some q => show (ZaX (fnd m) t).length + 1 < t.length + 1; omega
 rw [ZjE, if_neg (Zbz (this l h))]
theorem Znj {H : Hp} : ∀ {xs : List V} {l : List (Str × Int)}, Ims H xs (l.map prL) -> Prs H xs (l.map pI)
 | _, [], .nil => .nil
 | _, p :: t, .cons h hs => by
  cases h with
  | tup e es =>
   cases es with
   | cons h1 es =>
    cases h1
    cases es with
    | cons h2 es =>
     cases h2
     cases es
     exact .cons e (Znj hs)
theorem ZjF {H : Hp} : ∀ {xs : List V} {ps : List (Str × Int)} {k : Nat} {v : V}, Ims H xs (ps.map prL) -> xs[k]? = some v -> ∃ p t, ps[k]? = some p /\ v = .ref t /\ H t = some (.tup [.str p.1, .int p.2])
 | _, [], _, _, .nil, e => by simp at e
 | _, p :: ps, 0, v, .cons h _, e => by
  cases e
  cases h with
  | tup e es =>
   cases es with
   | cons h1 es =>
    cases h1
    cases es with
    | cons h2 es =>
     cases h2
     cases es
     exact ⟨p, _, rfl, rfl, e⟩
 | _, p :: ps, k + 1, v, .cons _ t, e => by
  rw [ZaU] at e
  obtain ⟨q, u, e1, e2⟩ := ZjF t e
  exact ⟨q, u, by rw [ZaU]; exact e1, e2⟩
end BO.Internal
namespace L2.Internal
open PySem PySem.Spec PyProof.Rows
section
variable {X : Cx} {e a b o f : Expr} {st : Stmt} {ta tb td ty tx to : TE} {pos apos cpos : Pos}
theorem PE.weak {t t' : TE} (h : PE X e t) (m : ∀ σ H Q, t' σ H Q -> t σ H Q) : PE X e t' := fun pins s σ H Q I q => h pins s σ H Q I (m σ H Q q)
theorem PT.weak {t t' : TT} (h : PT X e t) (m : ∀ σ H Q, t' σ H Q -> t σ H Q) : PT X e t' := fun pins s σ H Q I q => h pins s σ H Q I (m σ H Q q)
theorem PS.weak {t t' : TS.Internal} (h : PS X st t) (m : ∀ D σ H, t' D σ H -> t D σ H) : PS X st t' := fun pins s σ H D I q => h pins s σ H D I (m D σ H q)
theorem OpR.weak {g : Value -> Value -> Sem Value} {r r' : R2} (h : OpR X g r) (m : ∀ x y H Q, r' x y H Q -> r x y H Q) : OpR X g r' := fun pins s σ H x y v u Q I rx ry q => h pins s σ H x y v u Q I rx ry (m x y H Q q)
theorem IxR.weak {r r' : R2} (h : IxR X r) (m : ∀ x y H Q, r' x y H Q -> r x y H Q) : IxR X r' := fun value slice pins s σ H x y v u Q I rx ry q hs => h value slice pins s σ H x y v u Q I rx ry (m x y H Q q) hs
def mT (t : TE) : TE := fun σ H Q => ∃ Q0 : VK, t σ H Q0 /\ ∀ x H1, Q0 x H1 -> Q x H1
theorem PE.mono {t : TE} (h : PE X e t) : PE X e (mT t) := fun pins s σ H Q I ⟨Q0, h0, m⟩ => thn (h pins s σ H Q0 I h0) fun v s1 ⟨x, H1, I1, r1, q1⟩ => ⟨x, H1, I1, r1, m x H1 q1⟩
def mR (r : R2) : R2 := fun x y H Q => ∃ Q0 : VK, r x y H Q0 /\ ∀ x H1, Q0 x H1 -> Q x H1
theorem OpR.mono {g : Value -> Value -> Sem Value} {r : R2} (h : OpR X g r) : OpR X g (mR r) := fun pins s σ H x y v u Q I rx ry ⟨Q0, h0, m⟩ => thn (h pins s σ H x y v u Q0 I rx ry h0) fun v s1 ⟨x, H1, I1, r1, q1⟩ => ⟨x, H1, I1, r1, m x H1 q1⟩
noncomputable def onV : Option (Option V) -> (V -> Prop) -> Prop
 | some (some v), k => k v
 | _, _ => False
noncomputable def onS {α : Type} : Option α -> (α -> Prop) -> Prop
 | some v, k => k v
 | none, _ => False
theorem Zc3 {α : Type} {x : Option α} {v : α} {k : α -> Prop} (h : x = some v) (q : k v) : onS x k := by rw [h]; exact q
theorem Zmq {α : Type} {x : Option α} {k : α -> Prop} (h : onS x k) : ∃ v, x = some v /\ k v := by
 cases x with
 | none => exact h.elim
 | some v => exact ⟨v, rfl, h⟩
def cV (i : Nat) : TE := fun σ H Q => onV σ[i]? fun v => Q v H
theorem cv (i : Nat) {x : Str} {pos : Pos} (hN : autoParam (X.N[i]? = some x) L2.Internal.auR._auto_1) (hv : Vis X.env.scope x := by first | exact Or.inl rfl | exact Or.inr (.inl rfl) | exact Or.inr (.inr rfl)) (hd : autoParam ((x == ("__debug__" : Str)) = false) L2.Internal.auD._auto_1)
  (hcd : autoParam ((x == ("__classdict__" : Str)) = false) L2.Internal.auD._auto_1) : PE X (.Name x pos) (cV i) := (pv i hN hv hd hcd).weak fun σ H Q h => by
 unfold cV at h
 cases q : σ[i]? with
 | none => rw [q] at h; exact h.elim
 | some o =>
  rw [q] at h
  cases o with
  | none => exact h.elim
  | some v => exact ⟨v, q, h⟩
def cI0 (g : Int -> Int -> V) : R2 := fun x y H Q => match x, y with
 | .int i, .int j => Q (g i j) H
 | _, _ => False
def cI (C : Int -> Int -> Prop) (g : Int -> Int -> V) : R2 := fun x y H Q => match x, y with
 | .int i, .int j => C i j /\ Q (g i j) H
 | _, _ => False
theorem ZkX {g : Int -> Int -> V} : ∀ x y H Q, cI0 g x y H Q -> rI0 g x y H Q := fun x y H Q h => by
 unfold cI0 at h
 split at h
 ·exact ⟨_, _, rfl, rfl, h⟩
 ·exact h.elim
theorem Znk {C : Int -> Int -> Prop} {g : Int -> Int -> V} : ∀ x y H Q, cI C g x y H Q -> rI C g x y H Q := fun x y H Q h => by
 unfold cI at h
 split at h
 ·exact ⟨_, _, rfl, rfl, h.1, h.2⟩
 ·exact h.elim
theorem ZhF : OpR X (binaryOp .Add) (cI0 fun i j => .int (i + j)) := Zpe.weak ZkX
theorem ZnT : OpR X (binaryOp .Sub) (cI0 fun i j => .int (i - j)) := ZnF.weak ZkX
theorem ZkY : OpR X (binaryOp .Mult) (cI Zqk fun i j => .int (i * j)) := Zpf.weak Znk
theorem Zkh : OpR X (binaryOp .FloorDiv) (cI Zrj fun i j => .int (i / j)) := Zn8.weak Znk
theorem ZfR : OpR X (binaryOp .Mod) (cI (fun _ j => 0 < j) fun i j => .int (i % j)) := Zpg.weak Znk
theorem ZnU : OpR X (binaryOp .Pow) (cI Zrk fun i j => .int (i ^ j.toNat)) := Zph.weak Znk
theorem Zov : OpR X (compareOp .Lt) (cI0 fun i j => .bl (decide (i < j))) := Zln.weak ZkX
theorem ZpF : OpR X (compareOp .Gt) (cI0 fun i j => .bl (decide (j < i))) := ZqD.weak ZkX
def cEq (n : Bool) : R2 := fun x y H Q => match x, y with
 | .int i, .int j => Q (.bl (xor n (decide (i = j)))) H
 | .str i, .str j => Q (.bl (xor n (decide (i = j)))) H
 | _, _ => False
theorem Zrs {i j : Str} : decide (V.str i = V.str j) = decide (i = j) := by
 rw [Zcz]
 simp
theorem Zrt {i j : Int} : decide (V.int i = V.int j) = decide (i = j) := by
 rw [Zcz]
 simp
theorem Zd7 : OpR X (compareOp .Eq) (cEq false) := ZqC.weak fun x y H Q h => by
 unfold cEq at h
 split at h
 ·refine ⟨rfl, ?_⟩; rw [Zrt]; rw [Bool.false_xor] at h; exact h
 ·refine ⟨rfl, ?_⟩; rw [Zrs]; rw [Bool.false_xor] at h; exact h
 ·exact h.elim
theorem ZjG : OpR X (compareOp .NotEq) (cEq true) := Zlm.weak fun x y H Q h => by
 unfold cEq at h
 split at h
 ·refine ⟨rfl, ?_⟩; rw [Zrt]; rw [Bool.true_xor] at h; exact h
 ·refine ⟨rfl, ?_⟩; rw [Zrs]; rw [Bool.true_xor] at h; exact h
 ·exact h.elim
noncomputable def onB : V -> (Bool -> Prop) -> Prop
 | .bl k, q => q k
 | _, _ => False
theorem ZpG {x : V} {k : Bool -> Prop} (h : onB x k) : ∃ c, x = .bl c /\ k c := by
 cases x <;> first | exact ⟨_, rfl, h⟩ | exact h.elim
def cT (t : TE) : TT := fun σ H Q => t σ H fun x H' => onB x fun k => Q k H'
theorem Zdb {op : CmpOp} {r : R2} (ho : OpR X (compareOp op) r) (ha : PE X a ta) (hb : PE X b tb) (hm : behindInMarks op b = false) : PT X (.Compare a [op] [b] pos) (cT (tOp r ta tb)) :=
 (ZgY ho.mono ha.mono hb.mono hm).weak fun σ H Q h => ⟨_, h, fun x H1 h1 => ⟨_, h1, fun y H2 h2 => ⟨_, h2, fun z H' h3 => ZpG h3⟩⟩⟩
def Zru : R2 := fun x y H Q => match x, y with
 | .ref p, .int i => ∃ xs, H p = some (.lst xs) /\ onS (atI xs i) fun v => Q v H
 | _, _ => False
def Zm0 : R2 := fun x y H Q => match x, y with
 | .ref p, .int i => ∃ xs, H p = some (.tup xs) /\ onS (atI xs i) fun v => Q v H
 | _, _ => False
def Zrv : R2 := fun x y H Q => match x, y with
 | .str z, .int i => z.length <= sizeLine /\ onS (atI z.cps.toList i) fun c => Q (.str ⟨#[c]⟩) H
 | _, _ => False
theorem Zde : IxR X Zru := Zom.weak fun x y H Q h => by
 unfold Zru at h
 split at h
 ·obtain ⟨xs, e, h⟩ := h
  obtain ⟨v, ev, h⟩ := Zmq h
  exact ⟨_, xs, _, v, rfl, rfl, SqL.of e, ev, h⟩
 ·exact h.elim
theorem Zc7 : IxR X Zm0 := Zgi.weak fun x y H Q h => by
 unfold Zm0 at h
 split at h
 ·obtain ⟨xs, e, h⟩ := h
  obtain ⟨v, ev, h⟩ := Zmq h
  exact ⟨_, xs, _, v, rfl, rfl, SqT.of e, ev, h⟩
 ·exact h.elim
theorem ZpH : IxR X Zrv := Zpu.weak fun x y H Q h => by
 unfold Zrv at h
 split at h
 ·obtain ⟨e, h⟩ := h
  obtain ⟨v, ev, h⟩ := Zmq h
  exact ⟨_, _, v, rfl, rfl, e, ev, h⟩
 ·exact h.elim
def Fd (H : Hp) (a C : Addr) (f : Str) (v : V) : Prop := ∃ dx fs, H a = some (.ins C dx fs) /\ fs.lookup f = some v
def Nf (H : Hp) (a C : Addr) (m : Str) : Prop := ∃ dx fs, H a = some (.ins C dx fs) /\ fs.lookup m = none
def cFld (C : Addr) (f : Str) (ta : TE) : TE := fun σ H Q => ta σ H fun x H1 => match x with
 | .ref a => ∃ v, Fd H1 a C f v /\ Q v H1
 | _ => False
theorem Zdi {C : Addr} {f : Str} (c : Cls X.K C) (n : Zdo X.K C f) (he : PE X e ta) (hb : autoParam (attributeBase e f X.env (eval e X.env) = eval e X.env) L2.Internal.auR._auto_1) : PE X (.Attribute e f pos) (cFld C f ta) :=
 (Zes he.mono hb).weak fun σ H Q h => ⟨_, h, fun x H1 h1 => by
  cases x with
  | ref a =>
   obtain ⟨v, ⟨dx, fs, ea, ev⟩, q⟩ := h1
   exact ⟨a, C, dx, fs, v, rfl, ea, c, n, ev, q⟩
  | _ => exact h1.elim⟩
def ZqN (C : Addr) (m : Str) (sp : Sp) (dvs : List V) (E : XK) (ta : TE) (t : TA) : TE := fun σ H Q => ta σ H fun x H1 => match x with
 | .ref a => Nf H1 a C m /\ t σ H1 fun vs H2 => sp (.ref a :: (vs ++ dvs)) H2 Q E
 | _ => False
theorem ZdN {C : Addr} {m : Str} {sp : Sp} {dvs : List V} {E : XK} {t : TA} (h : PE X e (Zpm C m sp dvs E (mT ta) t)) : PE X e (ZqN C m sp dvs E ta t) := h.weak fun σ H Q h => ⟨_, h, fun x H1 h1 => by
  cases x with
  | ref a =>
   obtain ⟨⟨dx, fs, ea, l⟩, q⟩ := h1
   exact ⟨a, dx, fs, rfl, ea, l, q⟩
  | _ => exact h1.elim⟩
noncomputable def ZqO (C : Addr) (f : Str) (ta tv : TE) : TS.Internal := fun D σ H => tv σ H fun y H1 => ta σ H1 fun x H2 => match x with
 | .ref a => ∃ dx fs, H2 a = some (.ins C dx fs) /\ fs.length < 1000 /\ D.nx σ (upd H2 a (.ins C dx (ZfG f y fs)))
 | _ => False
theorem ZfJ {C : Addr} {f : Str} {tv : TE} (c : Cls X.K C) (n : Zdo X.K C f) (h : PS X st (Zrm X.K (mT ta) (mT tv) f)) : PS X st (ZqO C f ta tv) := h.weak fun D σ H h => ⟨_, h, fun y H1 h1 => ⟨_, h1, fun x H2 h2 => by
  cases x with
  | ref a =>
   obtain ⟨dx, fs, ea, l, q⟩ := h2
   exact ⟨a, C, dx, fs, rfl, ea, c, n, l, q⟩
  | _ => exact h2.elim⟩⟩
def cS : R2 := fun x y H Q => match x, y with
 | .str i, .str j => i.length + j.length <= sizeLine /\ Q (.str (i ++ j)) H
 | _, _ => False
theorem ZiG : OpR X (binaryOp .Add) cS := Zlo.weak fun x y H Q h => by
 unfold cS at h
 split at h
 ·exact ⟨_, _, rfl, rfl, h.1, h.2⟩
 ·exact h.elim
def ZqP (td ty tx : TE) : TE := fun σ H Q => td σ H fun x H1 => ∃ a, x = .ref a /\ IsD H1 a /\ ty σ H1 fun y H2 => tx σ H2 fun z H3 => ∃ kvs k, H3 a = some (.dK kvs) /\ y = kV k /\ kvs.length < sizeLine /\
 (∀ v, ZeO kvs k = some v -> Q v H3) /\ (ZeO kvs k = none -> Q z (upd H3 a (.dK (Zfa kvs k z))))
theorem Znl {pins : List (Addr × Obj)} {σ : St} {H : Hp} {s : Shared} {a : Addr} {kvs : List (Key × V)} {k : Key} {d : V} {u r : Value} {A : Around} {E : Value -> Shared -> Prop} {Q : Value -> Shared -> Prop} (I : Inv X pins σ H s) (e : H a = some (.dK kvs)) (ry : ZdU (kV k) u) (rd : ZdU d r) (hl : kvs.length < sizeLine)
  (h1 : ∀ v w' s', ZeO kvs k = some v -> Inv X pins σ H s' -> ZdU v w' -> Q w' s') (h2 : ZeO kvs k = none -> ∀ s', Inv X pins σ (upd H a (.dK (Zfa kvs k d))) s' -> Q r s') :
  wpAny (model X.prog X.w) A (call (.builtin "dict.setdefault") [.ref a, u, r]) Q E s := by
 obtain ⟨z, hd, vs, rel, dd⟩ := Zna I.hok e
 refine call_meetsIn Zcu dd.typeIs PySem.F.entry_dict_setdefault (PySem.F.args_dict_setdefault_3 _ _ _) (kt_meets_setdefault (Zd4 X.prog X.w) a (Ziy ry) hd r) ⟨vs, dd, by rw [<- rel.length]; exact z, fun v hv => ?_, fun hn h' dd' hs => ?_⟩
 ·have q := rel.val k
  rw [hv] at q
  cases e2 : ZeO kvs k with
  | none => rw [e2] at q; exact q.elim
  | some v' => rw [e2] at q; exact h1 v' _ _ e2 (I.tok _) q
 ·have q := rel.val k
  rw [hn] at q
  cases e2 : ZeO kvs k with
  | some v' => rw [e2] at q; exact q.elim
  | none =>
   have hl' : (Zfa kvs k d).length <= sizeLine := by have := ZdP kvs k d; omega
   have he : ∃ q, h'.get? a = some q := let ⟨q, _, _, hq, _⟩ := dd'; ⟨q, hq⟩
   exact h2 e2 _ (Zhw I (by rw [e]; exact True.intro) hs he (Zjw hl' hd (rel.put k rd) dd'))
theorem ZiH (ho : PE X o td) (he : PE X e ty) (hf : PE X f tx) (m : M2 X o "setdefault" apos e f cpos) : PE X (.Call (.Attribute o "setdefault" apos) [e, f] [] cpos) (ZqP td ty tx) := by
 intro pins s σ H Q I h
 refine wpAny_Call_method m.base m.few m.line Zcq Zcu PySem.F.type_dict_setdefault (thn (ho pins s σ H _ I h) fun u s1 ⟨x, H1, I1, rx, a, ex, d, q1⟩ => ?_)
 subst ex
 obtain rfl : u = Value.ref a := rx
 obtain ⟨t1, t2, _⟩ := ZnI I1 d
 refine ⟨t1, t2, ?_⟩
 rw [m.trees]
 refine Calls.callWith_builtin rfl (Calls.evalArgs_plain (Calls.spliced_cons (thn (he pins s1 σ H1 _ I1 q1) fun iv s2 ⟨y, H2, I2, ry, q2⟩ =>
  Calls.spliced_cons (thn (hf pins s2 σ H2 _ I2 q2) fun fv s3 ⟨z, H3, I3, rz, kvs, k, e3, ey, hl, q3, q4⟩ => Calls.spliced_nil ?_))))
 subst ey
 exact Znl I3 e3 ry rz hl (fun v w' s4 ev I4 rw' => ⟨v, H3, I4, rw', q3 v ev⟩) (fun hn s4 I4 => ⟨z, _, I4, rz, q4 hn⟩)
def cApp (to ta : TE) : TE := fun σ H Q => to σ H fun x H1 => match x with
 | .ref l => (∃ xs, H1 l = some (.lst xs)) /\ ta σ H1 fun y H2 => ∃ xs, H2 l = some (.lst xs) /\ xs.length < sizeLine /\ Q .non (upd H2 l (.lst (xs ++ [y])))
 | _ => False
theorem Ze4 (h : PE X e (tBM X.K "list" Zme (mT to) (Zhd (mT ta) Zo0))) : PE X e (cApp to ta) := h.weak fun σ H Q h => ⟨_, h, fun x H1 h1 => by
  cases x with
  | ref l =>
   obtain ⟨⟨xs, e⟩, q⟩ := h1
   exact ⟨.inl ⟨rfl, xs, SqL.of e⟩, _, q, fun y H2 ⟨xs, e, hl, q2⟩ => ⟨l, xs, y, rfl, rfl, e, hl, q2⟩⟩
  | _ => exact h1.elim⟩
end
end L2.Internal
namespace BO.Internal
open PySem L2.Internal
theorem ZgM : ∀ (n : Nat) (l : List Nat), l.Nodup -> (∀ x ∈ l, x < n) -> l.length <= n
 | 0, [], _, _ => ZbD _
 | 0, a :: _, _, h => absurd (h a (by simp)) (ZbK _)
 | n + 1, l, d, h => by
  by_cases m : n ∈ l
  ·have e := List.length_erase_of_mem m
   have ih := ZgM n (l.erase n) (d.erase n) fun x hx => by
    have := (List.Nodup.mem_erase_iff d).mp hx
    have := h x this.2
    omega
   omega
  ·have ih := ZgM n l d fun x hx => by
    have := h x hx
    have : x ≠ n := fun z => m (z ▸ hx)
    omega
   omega
noncomputable def wd : Bool -> Str
 | true => "goes"
 | false => "here"
structure Rw where
 w : Bool
 a : Int
 b : Int
 y : Option (Int × Int)
noncomputable def Rw.k (r : Rw) : List Key := [.inr (wd r.w), .inl r.a, .inl r.b]
noncomputable def ZjH : Option (Int × Int) -> Dt
 | none => .flat .non
 | some p => flD p
noncomputable def Rw.d (r : Rw) : Dt := .tup [.flat (.str (wd r.w)), .flat (.int r.a), .flat (.int r.b), ZjH r.y]
def Rw.ok (N M : Int) (r : Rw) : Prop := 0 <= r.a /\ (r.a < match r.w with | true => N | false => M) /\ 0 <= r.b /\ r.b < N
noncomputable def Rw.c (r : Rw) : Nat := (match r.w with | true => 0 | false => 4096) + r.a.toNat * 64 + r.b.toNat
theorem ZhG {α β : Type} {f : α -> β} : ∀ {l : List α}, (l.map f).Nodup -> ∀ {g : α -> Nat}, (∀ x ∈ l, ∀ y ∈ l, g x = g y -> f x = f y) -> (l.map g).Nodup
 | [], _, _, _ => ZaI
 | a :: t, h, g, k => by
  rw [Zaq, Zat] at h ⊢
  refine ⟨fun m => ?_, ZhG h.2 fun x hx y hy => k x (by simp [hx]) y (by simp [hy])⟩
  obtain ⟨y, hy, e⟩ := ZaT.mp m
  exact h.1 (ZaT.mpr ⟨y, hy, k y (by simp [hy]) a (by simp) e⟩)
theorem Zow {N M : Int} {l : List Rw} (hN : N <= 64) (hM : M <= 64) (d : (l.map Rw.k).Nodup) (h : ∀ r ∈ l, r.ok N M) : l.length <= 8192 := by
 have z : ∀ r ∈ l, 0 <= r.a /\ r.a < 64 /\ 0 <= r.b /\ r.b < 64 := fun r hr => by
  obtain ⟨h1, h2, h3, h4⟩ := h r hr
  cases e : r.w <;> rw [e] at h2 <;> dsimp only at h2 <;> omega
 have := ZgM 8192 (l.map Rw.c) (ZhG d fun x hx y hy e => ?_) fun c hc => ?_
 ·rw [Zar] at this; exact this
 ·have a1 := z x hx
  have a2 := z y hy
  unfold Rw.c at e
  have w : x.w = y.w := by
   cases e1 : x.w <;> cases e2 : y.w <;> rw [e1, e2] at e <;> dsimp only at e <;> first | rfl | omega
  rw [w] at e
  have : x.a = y.a /\ x.b = y.b := by
   cases e2 : y.w <;> rw [e2] at e <;> dsimp only at e <;> omega
  rw [Rw.k, Rw.k, w, this.1, this.2]
 ·obtain ⟨r, hr, rfl⟩ := ZaT.mp hc
  have a1 := z r hr
  unfold Rw.c
  cases e : r.w <;> dsimp only <;> omega
noncomputable def ixn (A : Nat -> Option Int) (p : Int) (n : Nat) : List Int := ((Zaa n).filter fun j => decide (A j = some p)).map fun j => ((j : Nat) : Int)
theorem Znm {A : Nat -> Option Int} {p : Int} {n : Nat} : ixn A p (n + 1) = ixn A p n ++ if A n = some p then [(n : Int)] else [] := by
 unfold ixn
 rw [ZaY, List.filter_append, ZaZ]
 congr 1
 by_cases h : A n = some p
 ·rw [if_pos h]; simp [h]
 ·rw [if_neg h]; simp [h]
theorem Zki {A : Nat -> Option Int} {p : Int} {n : Nat} : (ixn A p n).length <= n := by
 unfold ixn
 rw [Zar]
 exact ZbA (Za0 _ _) (by simp)
theorem Zkj {A : Nat -> Option Int} {p : Int} {n : Nat} {x : Int} (h : x ∈ ixn A p n) : ∃ j : Nat, x = j /\ j < n /\ A j = some p := by
 unfold ixn at h
 obtain ⟨j, hj, rfl⟩ := ZaT.mp h
 rw [Zab] at hj
 exact ⟨j, rfl, Zac.mp hj.1, of_decide_eq_true hj.2⟩
noncomputable def bdn (A : Nat -> Option Int) (q : Int -> Bool) (p k : Int) (n : Nat) : List (Int × Int) := ((ixn A p n).filter q).map fun j => (k, j)
theorem Zox {A : Nat -> Option Int} {q : Int -> Bool} {p k : Int} {n : Nat} : (bdn A q p k n).length <= n := by
 unfold bdn
 rw [Zar]
 exact ZbA (Za0 _ _) Zki
noncomputable def Zfc (f : Rw -> Int -> List (Int × Int)) (R : List Rw) : Nat -> List (Int × Int)
 | 0 => []
 | n + 1 => Zfc f R n ++ match R[n]? with
  | some r => f r n
  | none => []
theorem ZhH {f : Rw -> Int -> List (Int × Int)} {R S : List Rw} : ∀ {n : Nat}, n <= R.length -> Zfc f (R ++ S) n = Zfc f R n
 | 0, _ => rfl
 | n + 1, h => by
  rw [Zfc, Zfc, ZhH (Nat.le_of_succ_le h), Zaz h]
theorem ZhI {f : Rw -> Int -> List (Int × Int)} {R : List Rw} {n : Nat} {r : Rw} (h : R[n]? = some r) : Zfc f R (n + 1) = Zfc f R n ++ f r n := by
 rw [Zfc, h]
structure DL (H : Hp) (d : Addr) (L : List Addr) (f : Int -> List V) (k : Nat) : Prop where
 ex : ∃ kvs : List (Key × V), H d = some (.dK kvs) /\ kvs.length <= k /\ (∀ p, ZeO kvs (.inl p) = none -> f p = []) /\
  (∀ p v, ZeO kvs (.inl p) = some v -> ∃ l, l ∈ L /\ v = .ref l /\ H l = some (.lst (f p))) /\ (∀ p q v, ZeO kvs (.inl p) = some v -> ZeO kvs (.inl q) = some v -> p = q)
noncomputable def Zm1 (f : Int -> List V) (p : Int) (x : V) : Int -> List V := fun q => if q = p then f p ++ [x] else f q
structure Sda (H : Hp) (d : Addr) (L : List Addr) (f : Int -> List V) (k : Nat) (p : Int) (l : Addr) (H1 : Hp) : Prop where
 here : H1 l = some (.lst (f p))
 fin : ∀ H2 x, Zdj H1 H2 -> ∃ L', (∀ a ∈ L', a ∈ L \/ a = l) /\ DL (upd H2 l (.lst (f p ++ [x]))) d L' (Zm1 f p x) (k + 1)
 fr : ∀ a o, H a = some o -> a ≠ d -> H1 a = some o
 own : l ∈ L \/ H l = none
theorem DL.same {H H' : Hp} {d : Addr} {L : List Addr} {f : Int -> List V} {k : Nat} (W : DL H d L f k) (s : ∀ a o, H a = some o -> a = d \/ a ∈ L -> H' a = some o) : DL H' d L f k := by
 obtain ⟨kvs, e, hl, h1, h2, h3⟩ := W
 exact ⟨kvs, s _ _ e (.inl rfl), hl, h1, fun p v hv => by obtain ⟨l, m, rfl, el⟩ := h2 p v hv; exact ⟨l, m, rfl, s _ _ el (.inr m)⟩, h3⟩
theorem DL.keep {H H' : Hp} {d : Addr} {L : List Addr} {f : Int -> List V} {k : Nat} (W : DL H d L f k) (hd : ∀ kvs, H d = some (.dK kvs) -> H' d = some (.dK kvs)) (hl : ∀ a l, a ∈ L -> H a = some (.lst l) -> H' a = some (.lst l)) : DL H' d L f k := by
 obtain ⟨kvs, e, hn, h1, h2, h3⟩ := W
 exact ⟨kvs, hd _ e, hn, h1, fun p v hv => by obtain ⟨l, m, rfl, el⟩ := h2 p v hv; exact ⟨l, m, rfl, hl _ _ m el⟩, h3⟩
theorem DL.get {H : Hp} {d : Addr} {L : List Addr} {f : Int -> List V} {k : Nat} (W : DL H d L f k) (p : Int) {z : Addr} (hz : H z = none) :
  ∃ kvs l, (upd H z (.lst [])) d = some (.dK kvs) /\ (ZeO kvs (.inl p)).getD (.ref z) = .ref l /\ (upd H z (.lst [])) l = some (.lst (f p)) /\ (l ∈ L \/ H l = none) := by
 obtain ⟨kvs, e, hl, h1, h2, h3⟩ := W
 have s := Zc2 hz (.lst [])
 cases ev : ZeO kvs (.inl p) with
 | none => exact ⟨kvs, z, s _ _ e, by rw [ev]; rfl, by rw [h1 p ev]; exact ZcX, .inr hz⟩
 | some v =>
  obtain ⟨l, m, rfl, el⟩ := h2 p v ev
  exact ⟨kvs, l, s _ _ e, by rw [ev]; rfl, s _ _ el, .inl m⟩
theorem DL.sda {H : Hp} {d : Addr} {L : List Addr} {f : Int -> List V} {k : Nat} (W : DL H d L f k) (p : Int) {z : Addr} (hz : H z = none) :
  ∃ kvs, (upd H z (.lst [])) d = some (.dK kvs) /\ kvs.length <= k /\
   (∀ v, ZeO kvs (.inl p) = some v -> ∃ l, v = .ref l /\ Sda H d L f k p l (upd H z (.lst []))) /\
   (ZeO kvs (.inl p) = none -> Sda H d L f k p z (upd (upd H z (.lst [])) d (.dK (Zfa kvs (.inl p) (.ref z))))) := by
 obtain ⟨kvs, e, hl, h1, h2, h3⟩ := W
 have s := Zc2 hz (.lst [])
 have dz : d ≠ z := Zc9 e hz
 refine ⟨kvs, s _ _ e, hl, fun v hv => ?_, fun hn => ?_⟩
 ·obtain ⟨l, m, rfl, el⟩ := h2 p v hv
  refine ⟨l, rfl, s _ _ el, fun H2 x S => ⟨L, fun a ha => .inl ha, kvs, ?_, ZbL hl, fun q hq => ?_, fun q v hv' => ?_, h3⟩, fun a o ea _ => s _ _ ea, .inl m⟩
  ·rw [Zc6 (Zdx e el (fun z => nomatch z))]
   exact S _ _ (s _ _ e)
  ·have : q ≠ p := fun z => by rw [z, hv] at hq; cases hq
   rw [Zm1, if_neg this]
   exact h1 q hq
  ·obtain ⟨l', m', rfl, el'⟩ := h2 q v hv'
   refine ⟨l', m', rfl, ?_⟩
   by_cases z : q = p
   ·subst z
    rw [hv] at hv'
    cases hv'
    rw [Zm1, if_pos rfl]
    exact ZcX
   ·have : l' ≠ l := fun w => z (h3 q p (.ref l') hv' (by rw [w]; exact hv))
    rw [Zm1, if_neg z, Zc6 this]
    exact S _ _ (s _ _ el')
 ·have ez : (upd (upd H z (.lst [])) d (.dK (Zfa kvs (.inl p) (.ref z)))) z = some (.lst []) := by rw [Zc6 dz.symm]; exact ZcX
  refine ⟨by rw [ez, h1 p hn], fun H2 x S => ⟨z :: L, fun a ha => ?_, Zfa kvs (.inl p) (.ref z), ?_, ?_, fun q hq => ?_, fun q v hv' => ?_, fun q1 q2 v e1 e2 => ?_⟩, fun a o ea n => by rw [Zc6 n]; exact s _ _ ea, .inr hz⟩
  ·rcases Zag.mp ha with rfl | ha
   ·exact .inr rfl
   ·exact .inl ha
  ·rw [Zc6 dz]
   exact S _ _ ZcX
  ·have := ZdP kvs (.inl p) (.ref z)
   omega
  ·rw [Zfp] at hq
   by_cases w : q = p
   ·rw [if_pos (by rw [w])] at hq; cases hq
   ·rw [if_neg (fun y => w (by injection y))] at hq
    rw [Zm1, if_neg w]
    exact h1 q hq
  ·rw [Zfp] at hv'
   by_cases w : q = p
   ·rw [if_pos (by rw [w])] at hv'
    cases hv'
    exact ⟨z, by simp, rfl, by rw [Zm1, if_pos w]; exact ZcX⟩
   ·rw [if_neg (fun y => w (by injection y))] at hv'
    obtain ⟨l', m', rfl, el'⟩ := h2 q v hv'
    refine ⟨l', by simp [m'], rfl, ?_⟩
    rw [Zm1, if_neg w, Zc6 (Zc9 el' hz)]
    refine S _ _ ?_
    rw [Zc6 (Zdx el' e (fun z => nomatch z))]
    exact s _ _ el'
  ·rw [Zfp] at e1 e2
   have no : ∀ q, ZeO kvs (.inl q) ≠ some (.ref z) := fun q y => by
    obtain ⟨l', _, w, el'⟩ := h2 q _ y
    cases w
    rw [hz] at el'
    cases el'
   by_cases w1 : q1 = p
   ·by_cases w2 : q2 = p
    ·rw [w1, w2]
    ·rw [if_pos (by rw [w1])] at e1
     cases e1
     rw [if_neg (fun y => w2 (by injection y))] at e2
     exact absurd e2 (no q2)
   ·by_cases w2 : q2 = p
    ·rw [if_pos (by rw [w2])] at e2
     cases e2
     rw [if_neg (fun y => w1 (by injection y))] at e1
     exact absurd e1 (no q1)
    ·rw [if_neg (fun y => w1 (by injection y))] at e1
     rw [if_neg (fun y => w2 (by injection y))] at e2
     exact h3 q1 q2 v e1 e2
end BO.Internal
namespace BO.Internal
open PySem L2.Internal
open Classical in
noncomputable def ZkZ (R : List Rw) (ρ : Rw) : List Rw := if ρ.k ∈ R.map Rw.k then R else R ++ [ρ]
noncomputable def Zfn (R l : List Rw) : List Rw := l.foldl ZkZ R
theorem ZfD (R l : List Rw) (ρ : Rw) : Zfn R (l ++ [ρ]) = ZkZ (Zfn R l) ρ := by
 unfold Zfn
 rw [List.foldl_append]
 rfl
theorem Zk0 (R : List Rw) (ρ : Rw) : ∃ more, ZkZ R ρ = R ++ more := by
 unfold ZkZ
 split
 ·exact ⟨[], (Zas _).symm⟩
 ·exact ⟨[ρ], rfl⟩
theorem ZfE : ∀ (l R : List Rw), ∃ more, Zfn R l = R ++ more
 | [], R => ⟨[], (Zas _).symm⟩
 | ρ :: l, R => by
  obtain ⟨m1, e1⟩ := Zk0 R ρ
  obtain ⟨m2, e2⟩ := ZfE l (ZkZ R ρ)
  refine ⟨m1 ++ m2, ?_⟩
  show Zfn (ZkZ R ρ) l = _
  rw [e2, e1, Za1]
noncomputable def ZhJ (p : Int) (r : Rw) (n : Int) : List (Int × Int) := if r.w = true /\ r.a = p then [(n, r.b)] else []
noncomputable def ZhZ (p : Int) (r : Rw) (n : Int) : List (Int × Int) := if r.w = false /\ r.b = p then [(n, r.a)] else []
theorem ZiI {f : Rw -> Int -> List (Int × Int)} {R : List Rw} {x : Int × Int} : ∀ {k : Nat}, x ∈ Zfc f R k -> ∃ (n : Nat) (r : Rw), n < k /\ R[n]? = some r /\ x ∈ f r n
 | 0, h => by cases h
 | k + 1, h => by
  rw [Zfc] at h
  rcases Zah.mp h with h | h
  ·obtain ⟨n, r, h1, h2, h3⟩ := ZiI h
   exact ⟨n, r, ZbH h1, h2, h3⟩
  ·cases e : R[k]? with
   | none => rw [e] at h; cases h
   | some r => rw [e] at h; exact ⟨k, r, ZbG k, e, h⟩
theorem Zmr {R : List Rw} {p : Int} {k : Nat} {x : Int × Int} (h : x ∈ Zfc (ZhJ p) R k) : ∃ (n : Nat) (y : Option (Int × Int)), x.1 = (n : Int) /\ n < k /\ R[n]? = some ⟨true, p, x.2, y⟩ := by
 obtain ⟨n, ⟨w, a, b, y⟩, h1, h2, h3⟩ := ZiI h
 unfold ZhJ at h3
 split at h3
 ·rename_i z
  simp only [ZaM] at h3
  subst h3
  obtain ⟨z1, z2⟩ := z
  dsimp only at z1 z2
  subst z1 z2
  exact ⟨n, y, rfl, h1, h2⟩
 ·cases h3
theorem Zms {R : List Rw} {p : Int} {k : Nat} {x : Int × Int} (h : x ∈ Zfc (ZhZ p) R k) : ∃ (n : Nat) (y : Option (Int × Int)), x.1 = (n : Int) /\ n < k /\ R[n]? = some ⟨false, x.2, p, y⟩ := by
 obtain ⟨n, ⟨w, a, b, y⟩, h1, h2, h3⟩ := ZiI h
 unfold ZhZ at h3
 split at h3
 ·rename_i z
  simp only [ZaM] at h3
  subst h3
  obtain ⟨z1, z2⟩ := z
  dsimp only at z1 z2
  subst z1 z2
  exact ⟨n, y, rfl, h1, h2⟩
 ·cases h3
theorem Zhn {α β : Type} {f : α -> β} {l : List α} {i : Nat} {x : α} (h : l[i]? = some x) : (l.take (i + 1)).map f = (l.take i).map f ++ [f x] := by
 rw [Za2, h, ZaZ]
 rfl
end BO.Internal
namespace L2.Internal
open PySem PySem.Spec PyProof.Rows
section
variable {X : Cx}
theorem ZiJ : ∀ {xs : List V} {us : List Value} {u : Value}, Zem xs us -> u ∈ us -> ∃ (j : Nat) (x : V), xs[j]? = some x /\ ZdU x u
 | _, _, _, .nil, h => by cases h
 | x :: xs, v :: us, u, .cons r t, h => by
  rcases Zag.mp h with e | h
  ·subst e; exact ⟨0, x, rfl, r⟩
  ·obtain ⟨j, y, e, r'⟩ := ZiJ t h
   exact ⟨j + 1, y, e, r'⟩
theorem ZiK : ∀ {xs : List V} {us : List Value} {j : Nat} {x : V}, Zem xs us -> xs[j]? = some x -> ∃ u, u ∈ us /\ ZdU x u
 | _, _, _, _, .nil, h => by simp at h
 | x :: xs, v :: us, 0, y, .cons r t, h => by cases h; exact ⟨v, by simp, r⟩
 | x :: xs, v :: us, j + 1, y, .cons r t, h => by
  obtain ⟨u, m, q⟩ := ZiK (j := j) t h
  exact ⟨u, by simp [m], q⟩
def rInD (K : PySem.W.Frag) : R2 := fun x y H Q => ∃ p xs ds d, y = .ref p /\ SqL K H p xs /\ Ats K H xs ds /\ At K H x d /\ (∀ e ∈ ds, ZfU e d = true /\ ZgI e <= 100) /\ (∃ (j : Nat) (e : Dt), ds[j]? = some e /\ eqD e d = true) /\ Q (.bl true) H
theorem ZpI {k : Nat} (hr : ZgC k X.A) : OpR X (compareOp .In) (rInD X.K) := by
 intro pins s σ H x y v u Q I rx ry h
 obtain ⟨p, xs, ds, d, rfl, hq, hs, hx, hc, ⟨j0, e0, hj0, he0⟩, q⟩ := h
 cases ry
 have hu := hr.un
 obtain ⟨its, r, pl, hz⟩ := I.list hq
 have one : ∀ {j : Nat} {z : V} {w : Value}, xs[j]? = some z -> ZdU z w -> ∃ e, ds[j]? = some e /\ SeqAt.EqAt X.A.in1 s w v (eqD e d) := fun {j z w} hz rz => by
  obtain ⟨e, he, ha⟩ := hs.get hz
  have := hc e (ZaB he)
  exact ⟨e, he, ZkU I 100 X.A.in1 rz rx ha hx this.1 this.2 (by show X.A.units + 1 + 100 < cLine; omega)⟩
 let E : Value -> Prop := fun w => ∃ (j : Nat) (z : V) (e : Dt), xs[j]? = some z /\ ZdU z w /\ ds[j]? = some e /\ eqD e d = true
 haveI : DecidablePred E := fun _ => Classical.propDecidable _
 refine SeqAt.in_listAt (fun w => decide (E w)) pl.isList (fun w hw => ?_) ⟨.bl true, H, I, ?_, q⟩
 ·by_cases hE : E w
  ·obtain ⟨j, z, e, h1, h2, h3, h4⟩ := id hE
   obtain ⟨e', h5, h6⟩ := one h1 h2
   rw [h3] at h5
   cases h5
   rw [h4] at h6
   show SeqAt.EqAt _ _ _ _ (decide (E w))
   rw [decide_eq_true hE]
   exact h6
  ·obtain ⟨j, z, h1, h2⟩ := ZiJ r (by simpa using hw)
   obtain ⟨e', h5, h6⟩ := one h1 h2
   have : eqD e' d = false := by
    cases h : eqD e' d with
    | false => rfl
    | true => exact absurd ⟨j, z, e', h1, h2, h5, h⟩ hE
   rw [this] at h6
   show SeqAt.EqAt _ _ _ _ (decide (E w))
   rw [decide_eq_false hE]
   exact h6
 ·have hl := hs.length
  have hjl := (Zaj.mp hj0).1
  obtain ⟨z, hz0⟩ : ∃ z, xs[j0]? = some z := ⟨_, ZaQ (by omega)⟩
  obtain ⟨w, hw, rw_⟩ := ZiK r hz0
  have : its.toArray.any (fun w => decide (E w)) = true := by
   simp only [List.any_toArray, List.any_eq_true, decide_eq_true_eq]
   exact ⟨w, hw, j0, z, e0, hz0, rw_, hj0, he0⟩
  rw [this]
  rfl
end
end L2.Internal
namespace L2.Internal
open PySem PySem.Spec PyProof.Rows
section
variable {X : Cx}
theorem ZjI : bootBuiltins "sorted" = some (.builtin "sorted") := by decide +kernel
end
section
variable {X : Cx} {pins : List (Addr × Obj)} {σ : St} {H : Hp} {s : Shared}
end
section
variable {prog : Program} {w : World} {A : Around} {R : Result -> Shared -> Prop} {I : Addr} {fp wr : List Addr} {n : Nat} {P : Nat -> Value -> Prop} {St : Nat -> Heap -> Prop}
end
section
variable {prog : Program} {w : World} {A : Around} {E : Value -> Shared -> Prop} {s : Shared} {l : Addr} {xs : Array (Int × Tok)}
end
section
variable {X : Cx}
end
end L2.Internal
namespace L2.Internal
open PySem PySem.Spec PyProof.Rows
section
variable {X : Cx}
end
end L2.Internal
namespace L2.Internal
open PySem PySem.Spec PyProof.Rows PySem.W
section
variable {prog : Program} {w : World} {A : Around} {E : Value -> Shared -> Prop} {s : Shared}
theorem Zmt {a : Addr} {vs : List Value} {n : Nat} {P : PySem.Fin -> Shared -> Prop} (ho : s.heap.get? a = some (seqObj "list" vs.toArray n)) (h2 : vs.length < 2)
  (hq : P (.done (.ret .none)) { s with heap := sortedHeap s.heap a vs (Za3 vs) }) : wpAny (model prog w) A (Builtin.«list.sort» ⟨[.ref a], []⟩) P E s := by
 obtain ⟨e1, g1⟩ : ∃ e1, (s.heap.update a (Obj.mapSeq fun _ => (#[] : Array Value))).get? a = some (seqObj "list" #[] e1) := ⟨_, get?_update_seq ho fun _ => #[]⟩
 have g2 : (((s.heap.update a (Obj.mapSeq fun _ => (#[] : Array Value))).push (seqObj "tuple" vs.toArray 0)).push (seqObj "list" #[] 0)).get? a = some (seqObj "list" #[] e1) := ZcP _ (ZcP _ g1)
 rw [list_sort_plain]
 refine wpAny_bind (listItems_at ho rfl (wpAny_bind (listUpdate_at ho rfl ?_ (by rw [ZaJ, sizeLine_eq]; omega) (ZbE _))))
 refine wpAny_bind (seqEpoch_at g1 rfl (wpAny_bind (wpAny_newTuple ?_ (by show vs.length <= _; rw [sizeLine_eq]; omega))))
 refine wpAny_bind (wpAny_newList (wpAny_holding ?_) (ZbE _))
 dsimp only
 have n2 : vs.toArray.size < 2 := by rw [ZaJ]; omega
 rw [if_pos n2, if_pos n2]
 refine wpAny_bind (wpAny_pure ?_)
 rw [StateT.run_pure]
 refine wpAny_bind (wpAny_pure ?_)
 dsimp only
 have ez : (arrOf (SortSt.mk' general' (vs.toArray.zip vs.toArray) #[] 7 none)).map (·.2) = Za3 vs := by
  show (vs.toArray.zip vs.toArray).map (·.2) = _
  apply Array.toList_inj.mp
  simp [List.map_snd_zip]
 refine wpAny_bind (seqEpoch_at g2 rfl (wpAny_bind (listUpdate_at g2 rfl ?_ (ZbE _) (by rw [Array.size_map]; show (vs.toArray.zip vs.toArray).size <= _; rw [sizeLine_eq]; simp; omega))))
 simp only [bne_self_eq_false, Bool.false_eq_true, if_false]
 refine wpAny_pure ?_
 rw [show (fun _ : Array Value => (arrOf (SortSt.mk' general' (vs.toArray.zip vs.toArray) #[] 7 none)).map (·.2)) = fun _ => Za3 vs from funext fun _ => ez]
 exact hq
end
section
variable {X : Cx}
end
end L2.Internal
namespace L2.Internal
open PySem PySem.Spec PyProof.Rows PySem.W
section
variable {fs ex : List Addr} {H H' : Hp} {h h' : Heap}
theorem Un.more (k : ∀ b u, h.get? b = some u -> h'.get? b = some u) (S : ∀ b o, H b = some o -> H' b = some o) (n : ∀ b u, h.get? b = some u -> H b = none -> H' b = none) : Un fs ex H H' h h' where
 keep := fun b u q _ _ _ => k b u q
 slot := fun b u q _ _ _ => ⟨u.slots, k b u q⟩
 free := fun b u q e _ => n b u q e
 there := fun b u q _ => ⟨u, k b u q⟩
 tups := fun b xs q => S _ _ q
 frzs := fun b u xs q => S _ _ q
 tbls := fun b ps q => ⟨#[], by rw [S _ _ q]; simp⟩
end
section
variable {X : Cx} {pins : List (Addr × Obj)} {σ : St} {H H' : Hp} {s : Shared} {h' : Heap}
theorem Inv.more {t' : Nat} (I : Inv X pins σ H s) (k : ∀ b u, s.heap.get? b = some u -> h'.get? b = some u) (S : ∀ b o, H b = some o -> H' b = some o) (n : ∀ b u, s.heap.get? b = some u -> H b = none -> H' b = none)
  (new : ∀ b o, H' b = some o -> H b = none -> ZeN X.prog X.w H' h' b o) : Inv X pins σ H' { s with heap := h', toks := t' } :=
 I.un (Un.more k S n) fun b o e => by
  cases hb : H b with
  | none => exact new b o e hb
  | some u =>
   have e2 := S b u hb
   rw [e] at e2
   cases e2
   exact (I.hok b o hb).stay (fun c v _ q => k c v q) (fun c q => S _ _ q) fun c xs q => S _ _ q
end
section
variable {X : Cx}
theorem ZpJ : ∀ {kvs : List (Key × V)} {vs : List (Key × Value)} {j : Nat} {p : Key × V}, KV kvs vs -> kvs[j]? = some p -> ∃ q, vs[j]? = some q /\ p.1 = q.1 /\ ZdU p.2 q.2
 | _, _, 0, p, .cons h _, e => by cases e; exact ⟨_, rfl, h⟩
 | _, _, j + 1, p, .cons _ r, e => by
  rw [ZaU] at e
  obtain ⟨q, h1, h2⟩ := ZpJ (show KV _ _ from r) e
  exact ⟨q, by rw [ZaU]; exact h1, h2⟩
 | _, _, j, p, .nil, e => by simp at e
theorem ZnV : ∀ {kvs : List (Key × V)} {vs : List (Key × Value)}, KV kvs vs -> kvs.length = vs.length
 | _, _, .nil => rfl
 | _, _, .cons _ r => congrArg (· + 1) (ZnV (show KV _ _ from r))
theorem ZhK {α β : Type} {f : α -> β} {us vs : List β} (p : us.Perm vs) : ∀ as : List α, vs = as.map f -> ∃ bs : List α, us = bs.map f /\ bs.Perm as := by
 induction p with
 | nil =>
  intro as e
  exact ⟨as, e, .refl _⟩
 | cons x _ ih =>
  intro as e
  cases as with
  | nil => cases e
  | cons a t =>
   rw [Zaq, List.cons.injEq] at e
   obtain ⟨bs, h1, h2⟩ := ih t e.2
   exact ⟨a :: bs, by rw [h1, e.1]; rfl, h2.cons _⟩
 | swap x y l =>
  intro as e
  cases as with
  | nil => cases e
  | cons a t =>
   cases t with
   | nil => cases e
   | cons c t =>
    rw [Zaq, Zaq, List.cons.injEq, List.cons.injEq] at e
    exact ⟨c :: a :: t, by rw [e.1, e.2.1, e.2.2]; rfl, .swap _ _ _⟩
 | trans _ _ ih1 ih2 =>
  intro as e
  obtain ⟨bs, h1, h2⟩ := ih2 as e
  obtain ⟨cs, h3, h4⟩ := ih1 bs h1
  exact ⟨cs, h3, h4.trans h2⟩
end
end L2.Internal
namespace TS.Internal
open PySem PyProof.Rows
noncomputable def Zoy : Bool -> Keyed -> Array Keyed -> Nat -> Nat -> Nat -> StateT SortSt Sem (Option Nat) := sortPriv% PySem.Builtin.gallop
structure Ord (le : Keyed -> Keyed -> Prop) : Prop where
 tot : ∀ x y, le x y \/ le y x
 tr : ∀ x y z, le x y -> le y z -> le x z
theorem Ord.refl {le : Keyed -> Keyed -> Prop} (o : Ord le) (x : Keyed) : le x x := (o.tot x x).elim id id
theorem Ord.of_not {le : Keyed -> Keyed -> Prop} (o : Ord le) {x y : Keyed} (h : ¬ le y x) : le x y := (o.tot x y).resolve_right h
def Sg (le : Keyed -> Keyed -> Prop) (xs : Array Keyed) (lo hi : Nat) : Prop := ∀ i j x y, lo <= i -> i <= j -> j < hi -> xs[i]? = some x -> xs[j]? = some y -> le x y
section
variable {prog : Program} {w : World} {A : Around} {E : Value -> Shared -> Prop} {s : Shared} {le : Keyed -> Keyed -> Prop} {κ : SortKind} {U : List Keyed}
def Ask (prog : Program) (w : World) (A : Around) (s : Shared) (κ : SortKind) (U : List Keyed) (le : Keyed -> Keyed -> Prop) : Prop :=
 ∀ x y, x ∈ U -> y ∈ U -> ∀ (E : Value -> Shared -> Prop) (Q : Option Bool -> SortSt -> Prop) (st : SortSt), kindOf st = κ -> (∀ b : Bool, (b = true ↔ ¬ le y x) -> Q (some b) st) -> wpS (model prog w) A E s (lt' x y) Q st
def In (U : List Keyed) (xs : Array Keyed) : Prop := ∀ x, x ∈ xs.toList -> x ∈ U
theorem In.at {xs : Array Keyed} (h : In U xs) {i : Nat} {x : Keyed} (e : xs[i]? = some x) : x ∈ U := h x (by
 obtain ⟨h1, h2⟩ := ZcD.mp e
 rw [<- h2]
 simp)
theorem In.perm {xs ys : Array Keyed} (h : In U xs) (p : ys.Perm xs) : In U ys := fun x hx => h x ((ZcE.mp p).mem_iff.mp hx)
theorem Zfu {xs : Array Keyed} {i : Nat} (h : i < xs.size) : ∃ x, xs[i]? = some x := ⟨xs[i], getElem?_pos xs i h⟩
theorem ZdC {xs : Array Keyed} {i : Nat} {x : Keyed} {Q : Keyed -> SortSt -> Prop} {st : SortSt} (e : xs[i]? = some x) (h : Q x st) : wpS (model prog w) A E s (elem' xs i) Q st := by
 rw [elem'_eq, e]
 exact wpS_pure h
theorem Zmu (ask : Ask prog w A s κ U le) {i j : Nat} {x y : Keyed} {Q : Option Bool -> SortSt -> Prop} {st : SortSt} (hk : kindOf st = κ) (hU : In U (arrOf st)) (hi : (arrOf st)[i]? = some x) (hj : (arrOf st)[j]? = some y) (h : ∀ b : Bool, (b = true ↔ ¬ le y x) -> Q (some b) st) :
  wpS (model prog w) A E s (ltAt' i j) Q st := by
 rw [ltAt'_eq]
 refine wpS_bind (wpS_get (wpS_bind (ZdC hi (wpS_bind (ZdC hj ?_)))))
 exact ask x y (hU.at hi) (hU.at hj) E Q st hk h
theorem Zfr (ask : Ask prog w A s κ U le) (o : Ord le) {l : Bool} {k : Keyed} {arr : Array Keyed} {b n hint : Nat} {Q : Option Nat -> SortSt -> Prop} {st : SortSt} (hk : kindOf st = κ) (ku : k ∈ U) (au : In U arr) (hn : b + n <= arr.size) (hh : hint < n) (sg : Sg le arr b (b + n))
  (h : ∀ m, m <= n -> (∀ i x, i < m -> arr[b + i]? = some x -> if l = true then ¬ le k x else le x k) -> (∀ i x, m <= i -> i < n -> arr[b + i]? = some x -> if l = true then le k x else ¬ le x k) -> Q (some m) st) :
  wpS (model prog w) A E s (Zoy l k arr b n hint) Q st := by
 obtain ⟨p, hp⟩ : ∃ p : Nat -> Prop, ∀ i, p i ↔ ∀ x, arr[b + i]? = some x -> if l = true then ¬ le k x else le x k := ⟨_, fun i => Iff.rfl⟩
 have mono : ∀ i j, i <= j -> j < n -> p j -> p i := fun i j hij hj pj => by
  rw [hp] at pj ⊢
  intro x hx
  obtain ⟨y, hy⟩ := Zfu (xs := arr) (i := b + j) (by omega)
  have py := pj y hy
  have lxy := sg (b + i) (b + j) x y (by omega) (by omega) (by omega) hx hy
  cases l with
  | true => exact fun z => py (o.tr _ _ _ z lxy)
  | false => exact o.tr _ _ _ lxy py
 have bey : ∀ (i : Nat) (Q : Option Bool -> SortSt -> Prop), i < n -> (∀ c : Bool, (c = true ↔ p i) -> Q (some c) st) -> wpS (model prog w) A E s (do
   let x <- elem' arr (b + i)
   if l = true then lt' x k else do
    let r <- lt' k x
    pure (Option.map (fun x => !x) r)) Q st := fun i Q hi hq => by
  obtain ⟨y, hy⟩ := Zfu (xs := arr) (i := b + i) (by omega)
  have e : ∀ P : Keyed -> Prop, (∀ x, arr[b + i]? = some x -> P x) ↔ P y := fun P => ⟨fun z => z y hy, fun z x hx => by rw [hy] at hx; cases hx; exact z⟩
  have pe := hp i
  rw [e] at pe
  refine wpS_bind (ZdC hy ?_)
  cases l with
  | true =>
   rw [if_pos rfl]
   exact ask y k (au.at hy) ku _ _ _ hk fun c hc => hq c (by rw [hc, pe]; rfl)
  | false =>
   rw [if_neg Zcy]
   refine wpS_bind (ask k y ku (au.at hy) _ _ _ hk fun c hc => wpS_pure (hq (!c) ?_))
   rw [pe]
   show _ ↔ le y k
   cases c with
   | true => exact ⟨fun z => (by cases z), fun z => absurd z (hc.mp rfl)⟩
   | false => exact ⟨fun _ => Classical.byContradiction fun z => (by have := hc.mpr z; cases this), fun _ => rfl⟩
 have fin : ∀ m, m <= n -> (∀ i, i < m -> p i) -> (∀ i, m <= i -> i < n -> ¬ p i) -> Q (some m) st := fun m hm h1 h2 => by
  refine h m hm (fun i x hi hx => (hp i).mp (h1 i hi) x hx) fun i x h3 h4 hx => ?_
  have := h2 i h3 h4
  rw [hp] at this
  cases l with
  | true => exact Classical.byContradiction fun z => this fun x' hx' => by rw [hx] at hx'; cases hx'; exact z
  | false => exact fun z => this fun x' hx' => by rw [hx] at hx'; cases hx'; exact z
 refine wpS_bind (bey hint _ hh fun c hc => ?_)
 dsimp only
 have bs : ∀ (lo hi : Nat) (f : Nat -> Option (Option Nat) × Nat × Nat -> StateT SortSt Sem (ForInStep (Option (Option Nat) × Nat × Nat))), lo <= hi -> hi <= n -> (∀ i, i < lo -> p i) -> (∀ i, hi <= i -> i < n -> ¬ p i) ->
   (∀ (x lo hi : Nat) (R : ForInStep (Option (Option Nat) × Nat × Nat) -> SortSt -> Prop), lo < hi -> hi <= n -> (∀ c : Bool, (c = true ↔ p (lo + (hi - lo) / 2)) -> R (ForInStep.yield (if c = true then (none, lo + (hi - lo) / 2 + 1, hi) else (none, lo, lo + (hi - lo) / 2))) st) -> wpS (model prog w) A E s (f x (none, lo, hi)) R st) ->
   (∀ (x lo hi : Nat) (R : ForInStep (Option (Option Nat) × Nat × Nat) -> SortSt -> Prop), lo ≥ hi -> R (ForInStep.done (none, lo, hi)) st -> wpS (model prog w) A E s (f x (none, lo, hi)) R st) ->
   ∀ R : Option (Option Nat) × Nat × Nat -> SortSt -> Prop, (∀ lo m, m <= n -> (∀ i, i < m -> p i) -> (∀ i, m <= i -> i < n -> ¬ p i) -> R (none, lo, m) st) ->
   wpS (model prog w) A E s (forIn [:n] (none, lo, hi) f) R st := fun lo hi f h1 h2 h3 h4 hf hf0 R hR => by
  refine (wpS_mono (wpS_forRange (I := fun x c st' => st' = st /\ ∃ lo hi, c = (none, lo, hi) /\ lo <= hi /\ hi <= n /\ hi - lo <= n - x /\ (∀ i, i < lo -> p i) /\ (∀ i, hi <= i -> i < n -> ¬ p i))
   (Q := fun c st' => st' = st /\ ∃ m, c.1 = none /\ c.2.2 = m /\ m <= n /\ (∀ i, i < m -> p i) /\ (∀ i, m <= i -> i < n -> ¬ p i)) ?step ?fin ⟨rfl, lo, hi, rfl, h1, h2, by omega, h3, h4⟩) ?post)
  case post =>
   rintro ⟨r, lo', hi'⟩ st' ⟨rfl, m, h5, h6, h7, h8, h9⟩
   cases h5
   cases h6
   exact hR _ _ h7 h8 h9
  case fin =>
   rintro c st' ⟨rfl, lo, hi, rfl, g1, g2, g3, g4, g5⟩
   exact ⟨rfl, hi, rfl, rfl, g2, fun i hi' => g4 i (by omega), g5⟩
  case step =>
   rintro x c st' _ hx ⟨rfl, lo, hi, rfl, g1, g2, g3, g4, g5⟩
   by_cases hlt : lo < hi
   ·refine hf x lo hi _ hlt g2 fun c hc => ?_
    cases c with
    | true => exact ⟨rfl, _, _, rfl, by omega, g2, by omega, fun i hi' => mono i (lo + (hi - lo) / 2) (by omega) (by omega) (hc.mp rfl), g5⟩
    | false => exact ⟨rfl, _, _, rfl, by omega, by omega, by omega, g4, fun i h5 h6 z => by have := hc.mpr (mono (lo + (hi - lo) / 2) i h5 h6 z); cases this⟩
   ·exact hf0 x lo hi _ (by omega) ⟨rfl, hi, rfl, rfl, g2, fun i hi' => g4 i (by omega), g5⟩
 have bsf : ∀ {α : Type} {a b : StateT SortSt Sem α} {P : Prop} [Decidable P] {R : α -> SortSt -> Prop}, (P -> wpS (model prog w) A E s a R st) -> (¬ P -> wpS (model prog w) A E s b R st) -> wpS (model prog w) A E s (if P then a else b) R st := fun {α a b P} _ {R} h1 h2 => by
  split
  ·exact h1 ‹_›
  ·exact h2 ‹_›
 cases c with
 | true =>
  rw [if_pos rfl]
  have ph := hc.mp rfl
  refine wpS_bind (wpS_mono (wpS_forRange (I := fun x c st' => st' = st /\ ∃ la ofs, c = (none, la, ofs) /\ x < ofs /\ la < ofs /\ hint + la < n /\ p (hint + la))
   (Q := fun c st' => st' = st /\ ∃ la ofs, c = (none, la, ofs) /\ la < ofs /\ hint + la < n /\ p (hint + la) /\ (n - hint <= ofs \/ ¬ p (hint + ofs))) ?step ?fin ⟨rfl, 0, 1, rfl, by omega, by omega, by omega, ph⟩) ?post)
  case fin =>
   rintro c st' ⟨rfl, la, ofs, rfl, g1, g2, g3, g4⟩
   exact ⟨rfl, la, ofs, rfl, g2, g3, g4, .inl (by omega)⟩
  case step =>
   rintro x c st' _ hx ⟨rfl, la, ofs, rfl, g1, g2, g3, g4⟩
   dsimp only
   refine bsf (fun z => wpS_pure ⟨rfl, la, ofs, rfl, g2, g3, g4, .inl z⟩) fun z => wpS_bind (bey (hint + ofs) _ (by omega) fun c hc => ?_)
   cases c with
   | true => exact wpS_pure ⟨rfl, _, _, rfl, by omega, by omega, by omega, hc.mp rfl⟩
   | false => exact wpS_pure ⟨rfl, _, _, rfl, g2, g3, g4, .inr fun y => by have := hc.mpr y; cases this⟩
  case post =>
   rintro c st' ⟨rfl, la, ofs, rfl, g2, g3, g4, g5⟩
   dsimp only
   refine wpS_bind (bs (hint + la + 1) (hint + min ofs (n - hint)) _ (by omega) (by omega) (fun i hi => mono i (hint + la) (by omega) g3 g4) (fun i h1 h2 z => ?_) ?_ ?_ _ fun lo m g1 g2 g3 => wpS_pure (fin m g1 g2 g3))
   ·rcases g5 with g5 | g5
    ·omega
    ·exact g5 (mono (hint + ofs) i (by omega) h2 z)
   ·intro x lo hi R h1 h2 hR
    dsimp only
    rw [if_neg (by omega)]
    refine wpS_bind (bey _ _ (by omega) fun c hc => ?_)
    have := hR c hc
    cases c with
    | true => exact wpS_pure this
    | false => exact wpS_pure this
   ·intro x lo hi R h1 hR
    dsimp only
    rw [if_pos h1]
    exact wpS_pure hR
 | false =>
  rw [if_neg Zcy]
  have ph : ¬ p hint := fun z => by have := hc.mpr z; cases this
  refine wpS_bind (wpS_mono (wpS_forRange (I := fun x c st' => st' = st /\ ∃ la ofs, c = (none, la, ofs) /\ x < ofs /\ la < ofs /\ la <= hint /\ ¬ p (hint - la))
   (Q := fun c st' => st' = st /\ ∃ la ofs, c = (none, la, ofs) /\ la < ofs /\ la <= hint /\ ¬ p (hint - la) /\ (hint + 1 <= ofs \/ p (hint - ofs))) ?step ?fin ⟨rfl, 0, 1, rfl, by omega, by omega, by omega, ph⟩) ?post)
  case fin =>
   rintro c st' ⟨rfl, la, ofs, rfl, g1, g2, g3, g4⟩
   exact ⟨rfl, la, ofs, rfl, g2, g3, g4, .inl (by omega)⟩
  case step =>
   rintro x c st' _ hx ⟨rfl, la, ofs, rfl, g1, g2, g3, g4⟩
   dsimp only
   refine bsf (fun z => wpS_pure ⟨rfl, la, ofs, rfl, g2, g3, g4, .inl z⟩) fun z => wpS_bind (bey (hint - ofs) _ (by omega) fun c hc => ?_)
   cases c with
   | true => exact wpS_pure ⟨rfl, _, _, rfl, g2, g3, g4, .inr (hc.mp rfl)⟩
   | false => exact wpS_pure ⟨rfl, _, _, rfl, by omega, by omega, by omega, fun y => by have := hc.mpr y; cases this⟩
  case post =>
   rintro c st' ⟨rfl, la, ofs, rfl, g2, g3, g4, g5⟩
   dsimp only
   refine wpS_bind (bs (hint + 1 - min ofs (hint + 1)) (hint - la) _ (by omega) (by omega) (fun i hi => ?_) (fun i h1 h2 z => g4 (mono (hint - la) i (by omega) h2 z)) ?_ ?_ _ fun lo m g1 g2 g3 => wpS_pure (fin m g1 g2 g3))
   ·rcases g5 with g5 | g5
    ·omega
    ·exact mono i (hint - ofs) (by omega) (by omega) g5
   ·intro x lo hi R h1 h2 hR
    dsimp only
    rw [if_neg (by omega)]
    refine wpS_bind (bey _ _ (by omega) fun c hc => ?_)
    have := hR c hc
    cases c with
    | true => exact wpS_pure this
    | false => exact wpS_pure this
   ·intro x lo hi R h1 hR
    dsimp only
    rw [if_pos h1]
    exact wpS_pure hR
end
end TS.Internal
namespace TS.Internal
open PySem PyProof.Rows
section
variable {le : Keyed -> Keyed -> Prop}
noncomputable abbrev Srt (le : Keyed -> Keyed -> Prop) (l : List Keyed) : Prop := l.Pairwise le
theorem Srt.drop {l : List Keyed} (h : Srt le l) (n : Nat) : Srt le (l.drop n) := List.Pairwise.sublist (List.drop_sublist ..) h
theorem Srt.take {l : List Keyed} (h : Srt le l) (n : Nat) : Srt le (l.take n) := List.Pairwise.sublist (List.take_sublist ..) h
theorem Srt.cut {l : List Keyed} (h : Srt le l) (n : Nat) {x y : Keyed} (hx : x ∈ l.take n) (hy : y ∈ l.drop n) : le x y := by
 have := h
 rw [Srt, <- Za4 n l, Za5] at this
 exact this.2.2 x hx y hy
def ML (le : Keyed -> Keyed -> Prop) (a b : List Keyed) (ia ib : Nat) (o : List Keyed) : Prop :=
 o.Perm (a.take ia ++ b.take ib) /\ Srt le o /\ ∀ x ∈ o, ∀ y, (y ∈ a.drop ia \/ y ∈ b.drop ib) -> le x y
theorem ML.nil {a b : List Keyed} : ML le a b 0 0 [] := ⟨by simp, .nil, fun x h => by cases h⟩
section
variable {a b o : List Keyed} {ia ib : Nat}
theorem ML.ga (m : ML le a b ia ib o) (sa : Srt le a) (k : Nat) (h : ∀ x ∈ (a.drop ia).take k, ∀ y ∈ b.drop ib, le x y) : ML le a b (ia + k) ib (o ++ (a.drop ia).take k) := by
 obtain ⟨h1, h2, h3⟩ := m
 refine ⟨?_, ?_, fun x hx y hy => ?_⟩
 ·rw [List.take_add]
  refine (h1.append_right _).trans ?_
  rw [Za1, Za1]
  exact Za6.append_left _
 ·rw [Srt, Za5]
  exact ⟨h2, (sa.drop ia).take k, fun x hx y hy => h3 x hx y (.inl (Za7 hy))⟩
 ·rw [<- List.drop_drop] at hy
  rcases Zah.mp hx with hx | hx
  ·exact h3 x hx y (hy.imp (Za8) id)
  ·rcases hy with hy | hy
   ·exact (sa.drop ia).cut k hx hy
   ·exact h x hx y hy
theorem ML.gb (m : ML le a b ia ib o) (sb : Srt le b) (k : Nat) (h : ∀ x ∈ (b.drop ib).take k, ∀ y ∈ a.drop ia, le x y) : ML le a b ia (ib + k) (o ++ (b.drop ib).take k) := by
 obtain ⟨h1, h2, h3⟩ := m
 refine ⟨?_, ?_, fun x hx y hy => ?_⟩
 ·rw [List.take_add]
  refine (h1.append_right _).trans ?_
  rw [Za1]
 ·rw [Srt, Za5]
  exact ⟨h2, (sb.drop ib).take k, fun x hx y hy => h3 x hx y (.inr (Za7 hy))⟩
 ·rw [<- List.drop_drop] at hy
  rcases Zah.mp hx with hx | hx
  ·exact h3 x hx y (hy.imp id Za8)
  ·rcases hy with hy | hy
   ·exact h x hx y hy
   ·exact (sb.drop ib).cut k hx hy
def Mgd (le : Keyed -> Keyed -> Prop) (a b r : List Keyed) : Prop := r.Perm (a ++ b) /\ Srt le r
theorem ML.endAB (m : ML le a b ia ib o) (sa : Srt le a) (sb : Srt le b) (h : ∀ x ∈ a.drop ia, ∀ y ∈ b.drop ib, le x y) : Mgd le a b (o ++ a.drop ia ++ b.drop ib) := by
 have m1 := m.ga sa (a.drop ia).length (by rw [Za9]; exact h)
 rw [Za9] at m1
 have e : a.drop (ia + (a.drop ia).length) = [] := by rw [ZaW, ZaK]; omega
 have m2 := m1.gb sb (b.drop ib).length (by rw [e]; exact fun x _ y hy => by cases hy)
 rw [Za9] at m2
 refine ⟨m2.1.trans ?_, m2.2.1⟩
 rw [Zba (by rw [ZaK]; omega), Zba (by rw [ZaK]; omega)]
theorem ML.endBA (m : ML le a b ia ib o) (sa : Srt le a) (sb : Srt le b) (h : ∀ x ∈ b.drop ib, ∀ y ∈ a.drop ia, le x y) : Mgd le a b (o ++ b.drop ib ++ a.drop ia) := by
 have m1 := m.gb sb (b.drop ib).length (by rw [Za9]; exact h)
 rw [Za9] at m1
 have e : b.drop (ib + (b.drop ib).length) = [] := by rw [ZaW, ZaK]; omega
 have m2 := m1.ga sa (a.drop ia).length (by rw [e]; exact fun x _ y hy => by cases hy)
 rw [Za9] at m2
 refine ⟨m2.1.trans ?_, m2.2.1⟩
 rw [Zba (by rw [ZaK]; omega), Zba (by rw [ZaK]; omega)]
end
def MH (le : Keyed -> Keyed -> Prop) (a b : List Keyed) (na nb : Nat) (o : List Keyed) : Prop :=
 o.Perm (a.drop na ++ b.drop nb) /\ Srt le o /\ ∀ y ∈ o, ∀ x, (x ∈ a.take na \/ x ∈ b.take nb) -> le x y
section
variable {a b o : List Keyed} {na nb : Nat}
theorem MH.nil : MH le a b a.length b.length [] := ⟨by simp, .nil, fun x h => by cases h⟩
theorem Zk1 (l : List Keyed) {m n : Nat} (h : m <= n) : l.drop m = (l.take n).drop m ++ l.drop n := by
 have := Za4 n l
 calc l.drop m = (l.take n ++ l.drop n).drop m := by rw [this]
  _ = (l.take n).drop m ++ (l.drop n).drop (m - (l.take n).length) := List.drop_append ..
  _ = _ := by
   rw [Zax]
   by_cases z : n <= l.length
   ·rw [ZbM z, Nat.sub_eq_zero_of_le h, Zbb]
   ·rw [Zbc (show l.length <= n by omega), List.drop_nil]
theorem MH.ga (m : MH le a b na nb o) (sa : Srt le a) {k : Nat} (hk : k <= na) (h : ∀ y ∈ (a.take na).drop k, ∀ x ∈ b.take nb, le x y) : MH le a b k nb ((a.take na).drop k ++ o) := by
 obtain ⟨h1, h2, h3⟩ := m
 have tk : ∀ x, x ∈ a.take k -> x ∈ (a.take na).take k := fun x hx => by rw [List.take_take, ZbM hk]; exact hx
 refine ⟨?_, ?_, fun y hy x hx => ?_⟩
 ·rw [Zk1 a hk, Za1]
  exact h1.append_left _
 ·rw [Srt, Za5]
  exact ⟨(sa.take na).drop k, h2, fun x hx y hy => h3 y hy x (.inl (Za8 hx))⟩
 ·rcases Zah.mp hy with hy | hy
  ·rcases hx with hx | hx
   ·exact (sa.take na).cut k (tk x hx) hy
   ·exact h y hy x hx
  ·exact h3 y hy x (hx.imp (fun z => Za7 (tk x z)) id)
theorem MH.gb (m : MH le a b na nb o) (sb : Srt le b) {k : Nat} (hk : k <= nb) (h : ∀ y ∈ (b.take nb).drop k, ∀ x ∈ a.take na, le x y) : MH le a b na k ((b.take nb).drop k ++ o) := by
 obtain ⟨h1, h2, h3⟩ := m
 have tk : ∀ x, x ∈ b.take k -> x ∈ (b.take nb).take k := fun x hx => by rw [List.take_take, ZbM hk]; exact hx
 refine ⟨?_, ?_, fun y hy x hx => ?_⟩
 ·rw [Zk1 b hk]
  refine (h1.append_left _).trans ?_
  rw [<- Za1, <- Za1]
  exact Za6.append_right _
 ·rw [Srt, Za5]
  exact ⟨(sb.take nb).drop k, h2, fun x hx y hy => h3 y hy x (.inr (Za8 hx))⟩
 ·rcases Zah.mp hy with hy | hy
  ·rcases hx with hx | hx
   ·exact h y hy x hx
   ·exact (sb.take nb).cut k (tk x hx) hy
  ·exact h3 y hy x (hx.imp id (fun z => Za7 (tk x z)))
theorem MH.endAB (m : MH le a b na nb o) (sa : Srt le a) (sb : Srt le b) (h : ∀ x ∈ a.take na, ∀ y ∈ b.take nb, le x y) : Mgd le a b (a.take na ++ b.take nb ++ o) := by
 have m1 := m.gb sb (ZbE _) (by rw [Zbb]; exact fun y hy x hx => h x hx y hy)
 have m2 := m1.ga sa (ZbE _) (by rw [Zbd]; exact fun y _ x hx => by cases hx)
 rw [Zbb, Zbb, <- Za1] at m2
 exact ⟨m2.1, m2.2.1⟩
theorem MH.endBA (m : MH le a b na nb o) (sa : Srt le a) (sb : Srt le b) (h : ∀ x ∈ b.take nb, ∀ y ∈ a.take na, le x y) : Mgd le a b (b.take nb ++ a.take na ++ o) := by
 have m1 := m.ga sa (ZbE _) (by rw [Zbb]; exact fun y hy x hx => h x hx y hy)
 have m2 := m1.gb sb (ZbE _) (by rw [Zbd]; exact fun y _ x hx => by cases hx)
 rw [Zbb, Zbb, <- Za1] at m2
 exact ⟨m2.1, m2.2.1⟩
end
end
end TS.Internal
namespace TS.Internal
open PySem PyProof.Rows
noncomputable def Znn : Array Keyed -> Array Keyed -> StateT SortSt Sem (Array Keyed) := sortPriv% PySem.Builtin.mergeLo
noncomputable def ZpK : Nat -> StateT SortSt Sem Unit := sortPriv% PySem.Builtin.setMinGallop
noncomputable abbrev Zqm (st : SortSt) (g : Nat) : SortSt := SortSt.mk' (kindOf st) (arrOf st) (pendingOf st) g (failedOf st)
def G (st st' : SortSt) : Prop := ∃ g, st' = Zqm st g
theorem G.refl (st : SortSt) : G st st := ⟨gallopOf st, rfl⟩
theorem G.set {st st' : SortSt} (h : G st st') (g : Nat) : G st (Zqm st' g) := by
 obtain ⟨g', rfl⟩ := h
 exact ⟨g, rfl⟩
theorem G.kind {st st' : SortSt} (h : G st st') : kindOf st' = kindOf st := by
 obtain ⟨g', rfl⟩ := h
 rfl
section
variable {le : Keyed -> Keyed -> Prop}
theorem Zmv {l : List Keyed} {i k : Nat} {x : Keyed} (h : x ∈ (l.drop i).take k) : ∃ j, j < k /\ l[i + j]? = some x := by
 obtain ⟨j, hj⟩ := Zbe.mp h
 rw [Zbf] at hj
 by_cases z : j < k
 ·rw [if_pos z, Zbg] at hj
  exact ⟨j, z, hj⟩
 ·rw [if_neg z] at hj
  cases hj
theorem Srt.head (o : Ord le) {l : List Keyed} (s : Srt le l) {i : Nat} {x y : Keyed} (h : l[i]? = some x) (hy : y ∈ l.drop i) : le x y := by
 obtain ⟨h1, h2⟩ := Zaj.mp h
 rw [Zbh h1, h2] at hy
 rcases Zag.mp hy with rfl | hy
 ·exact o.refl _
 ·refine s.cut (i + 1) ?_ hy
  rw [Za2, h]
  simp
theorem Srt.last (o : Ord le) {l : List Keyed} (s : Srt le l) {i : Nat} {x y : Keyed} (h : l[i]? = some y) (hx : x ∈ l.take (i + 1)) : le x y := by
 rw [Za2, h] at hx
 rcases Zah.mp hx with hx | hx
 ·refine s.cut i hx ?_
  obtain ⟨h1, h2⟩ := Zaj.mp h
  rw [Zbh h1, h2]
  exact Zae
 ·have : x = y := by simpa using hx
  rw [this]
  exact o.refl _
theorem Srt.sg (o : Ord le) {a : Array Keyed} (s : Srt le a.toList) (lo hi : Nat) : Sg le a lo hi := fun i j x y _ hij _ hx hy => by
 rw [<- ZcC] at hx hy
 refine s.head o hx ?_
 refine Zbe.mpr ⟨j - i, ?_⟩
 rw [Zbg, show i + (j - i) = j by omega]
 exact hy
theorem Zk2 (a : Array Keyed) (i k : Nat) : (a.extract i (i + k)).toList = (a.toList.drop i).take k := by
 rw [ZcF, Zbi, show i + k - i = k by omega]
theorem Zho (a : Array Keyed) (i : Nat) : (a.extract i a.size).toList = a.toList.drop i := by
 rw [ZcF, Zbi]
 exact Zba (by rw [ZaK, ZcB]; exact ZbD _)
section
variable {a b out : Array Keyed} {ia ib : Nat} {x : Keyed}
theorem Zmw {l : List Keyed} {i : Nat} {x : Keyed} (h : l[i]? = some x) : (l.drop i).take 1 = [x] := by
 obtain ⟨h1, h2⟩ := Zaj.mp h
 rw [Zbh h1, h2]
 rfl
theorem LoA (m : ML le a.toList b.toList ia ib out.toList) (sa : Srt le a.toList) (k : Nat) (h : ∀ x ∈ (a.toList.drop ia).take k, ∀ y ∈ b.toList.drop ib, le x y) : ML le a.toList b.toList (ia + k) ib (out ++ a.extract ia (ia + k)).toList := by
 rw [ZcG, Zk2]
 exact m.ga sa k h
theorem LoB (m : ML le a.toList b.toList ia ib out.toList) (sb : Srt le b.toList) (k : Nat) (h : ∀ x ∈ (b.toList.drop ib).take k, ∀ y ∈ a.toList.drop ia, le x y) : ML le a.toList b.toList ia (ib + k) (out ++ b.extract ib (ib + k)).toList := by
 rw [ZcG, Zk2]
 exact m.gb sb k h
theorem ZqQ (m : ML le a.toList b.toList ia ib out.toList) (sa : Srt le a.toList) (hx : a[ia]? = some x) (h : ∀ y ∈ b.toList.drop ib, le x y) : ML le a.toList b.toList (ia + 1) ib (out.push x).toList := by
 rw [<- ZcC] at hx
 have := m.ga sa 1 (by rw [Zmw hx]; intro z hz; rw [ZaM.mp hz]; exact h)
 rw [Zmw hx] at this
 rw [ZcH]
 exact this
theorem ZqR (m : ML le a.toList b.toList ia ib out.toList) (sb : Srt le b.toList) (hx : b[ib]? = some x) (h : ∀ y ∈ a.toList.drop ia, le x y) : ML le a.toList b.toList ia (ib + 1) (out.push x).toList := by
 rw [<- ZcC] at hx
 have := m.gb sb 1 (by rw [Zmw hx]; intro z hz; rw [ZaM.mp hz]; exact h)
 rw [Zmw hx] at this
 rw [ZcH]
 exact this
theorem Zmx (m : ML le a.toList b.toList ia ib out.toList) (sa : Srt le a.toList) (sb : Srt le b.toList) (h : ia = a.size \/ ib = b.size) : Mgd le a.toList b.toList (out ++ a.extract ia a.size ++ b.extract ib b.size).toList := by
 rw [ZcG, ZcG, Zho, Zho]
 refine m.endAB sa sb fun x hx y hy => ?_
 rcases h with h | h
 ·rw [Zbc (by rw [h, ZcB]; exact ZbD _)] at hx; cases hx
 ·rw [Zbc (by rw [h, ZcB]; exact ZbD _)] at hy; cases hy
theorem Zk3 (m : ML le a.toList b.toList ia ib out.toList) (sa : Srt le a.toList) (sb : Srt le b.toList) (hl : ∀ x y, x ∈ b.toList -> a[a.size - 1]? = some y -> le x y) (h : ia + 1 = a.size) : Mgd le a.toList b.toList (out ++ b.extract ib b.size ++ a.extract ia a.size).toList := by
 rw [ZcG, ZcG, Zho, Zho]
 refine m.endBA sa sb fun x hx y hy => hl x y (Za8 hx) ?_
 obtain ⟨z, hz⟩ := Zfu (xs := a) (i := ia) (by omega)
 rw [<- ZcC] at hz
 obtain ⟨h1, h2⟩ := Zaj.mp hz
 rw [Zbh h1, h2, Zbc (by rw [ZcB]; omega)] at hy
 rw [ZaM.mp hy, show a.size - 1 = ia by omega, <- ZcC]
 exact hz
end
end
section
variable {prog : Program} {w : World} {A : Around} {E : Value -> Shared -> Prop} {s : Shared} {le : Keyed -> Keyed -> Prop} {κ : SortKind} {U : List Keyed}
theorem ifS {M : Model} {σ α : Type} {p q : StateT σ Sem α} {P : Prop} [Decidable P] {R : α -> σ -> Prop} {st : σ} (h1 : P -> wpS M A E s p R st) (h2 : ¬ P -> wpS M A E s q R st) : wpS M A E s (if P then p else q) R st := by
 split
 ·exact h1 ‹_›
 ·exact h2 ‹_›
theorem ZgN {g : Nat} {Q : Unit -> SortSt -> Prop} {st : SortSt} (h : Q () (Zqm st g)) : wpS (model prog w) A E s (ZpK g) Q st := wpS_modify (f := fun st => Zqm st g) h
theorem Zkk (ask : Ask prog w A s κ U le) (o : Ord le) {a b : Array Keyed} (au : In U a) (bu : In U b) (sa : Srt le a.toList) (sb : Srt le b.toList) (ha : 1 <= a.size) (hb : 1 <= b.size) (h0 : ∀ x y, b[0]? = some x -> a[0]? = some y -> le x y) (hl : ∀ x y, x ∈ b.toList -> a[a.size - 1]? = some y -> le x y)
  {Q : Array Keyed -> SortSt -> Prop} {st : SortSt} (hk : kindOf st = κ) (h : ∀ r st', Mgd le a.toList b.toList r.toList -> G st st' -> Q r st') : wpS (model prog w) A E s (Znn a b) Q st := by
 obtain ⟨b0, hb0⟩ := Zfu (xs := b) (i := 0) (by omega)
 obtain ⟨a0, ha0⟩ := Zfu (xs := a) (i := 0) (by omega)
 have m1 : ML le a.toList b.toList 0 1 (#[].push b0).toList := ZqR (out := #[]) ML.nil sb hb0 fun y hy => o.tr _ _ _ (h0 _ _ hb0 ha0) (sa.head o (by rw [ZcC]; exact ha0) hy)
 refine wpS_bind (wpS_lift (wpAny_rule ⟨rfl, ?_⟩))
 refine wpS_bind (ZdC hb0 ?_)
 refine ifS (fun z => wpS_pure (h _ _ (Zmx m1 sa sb (.inr (by simpa using z))) (G.refl _))) fun z1 => ?_
 refine ifS (fun z => wpS_pure (h _ _ (Zk3 m1 sa sb hl (by simpa using z)) (G.refl _))) fun z2 => ?_
 have z1 : 1 ≠ b.size := by simpa using z1
 have z2 : 0 + 1 ≠ a.size := by simpa using z2
 refine wpS_bind (wpS_get ?_)
 refine wpS_bind (wpS_mono (wpS_forRange
  (I := fun x c st' => G st st' /\ ∃ out ia ib mg, c = (none, out, ia, ib, mg) /\ ML le a.toList b.toList ia ib out.toList /\ ia + 1 < a.size /\ ib < b.size /\ x + 1 <= ia + ib)
  (Q := fun c st' => G st st' /\ ∃ r, c.1 = some r /\ Mgd le a.toList b.toList r.toList) ?step ?fin ⟨G.refl _, _, 0, 1, _, rfl, m1, by omega, by omega, by omega⟩) ?post)
 case fin =>
  rintro c st' ⟨g, out, ia, ib, mg, rfl, m, g1, g2, g3⟩
  omega
 case post =>
  rintro c st' ⟨g, r, hr, hm⟩
  dsimp only
  rw [hr]
  exact wpS_pure (h r st' hm g)
 case step =>
  rintro x c st' _ hx ⟨g, out, ia, ib, mg, rfl, m, g1, g2, g3⟩
  refine wpS_bind (wpS_mono (wpS_forRange
   (I := fun t c st' => G st st' /\ ∃ out ia ib ac bc, c = (none, out, ia, ib, ac, bc) /\ ML le a.toList b.toList ia ib out.toList /\ ia + 1 < a.size /\ ib < b.size /\ x + 1 + t <= ia + ib)
   (Q := fun c st' => G st st' /\ ((∃ r, c.1 = some r /\ Mgd le a.toList b.toList r.toList) \/ ∃ out ia ib ac bc, c = (none, out, ia, ib, ac, bc) /\ ML le a.toList b.toList ia ib out.toList /\ ia + 1 < a.size /\ ib < b.size /\ x + 2 <= ia + ib)) ?step1 ?fin1 ⟨g, out, ia, ib, _, _, rfl, m, g1, g2, by omega⟩) ?post1)
  case fin1 =>
   rintro c st' ⟨g, out, ia, ib, ac, bc, rfl, m, g1, g2, g3⟩
   exact ⟨g, .inr ⟨out, ia, ib, ac, bc, rfl, m, g1, g2, by omega⟩⟩
  case step1 =>
   rintro t c st' _ ht ⟨g, out, ia, ib, ac, bc, rfl, m, g1, g2, g3⟩
   obtain ⟨xb, hxb⟩ := Zfu (xs := b) (i := ib) g2
   obtain ⟨xa, hxa⟩ := Zfu (xs := a) (i := ia) (by omega)
   have hxa' := hxa
   have hxb' := hxb
   rw [<- ZcC] at hxa' hxb'
   dsimp only
   refine wpS_bind (ZdC hxb (wpS_bind (ZdC hxa (wpS_bind (ask xb xa (bu.at hxb) (au.at hxa) _ _ _ (g.kind.trans hk) fun c hc => ?_)))))
   cases c with
   | true =>
    have m' := ZqR m sb hxb fun y hy => o.tr _ _ _ (o.of_not (hc.mp rfl)) (sa.head o hxa' hy)
    refine wpS_bind (ZdC hxb ?_)
    refine ifS (fun z => wpS_pure ⟨g, .inl ⟨_, rfl, Zmx m' sa sb (.inr (by simpa using z))⟩⟩) fun z => ?_
    have z : ib + 1 ≠ b.size := by simpa using z
    exact ifS (fun _ => wpS_pure ⟨g, .inr ⟨_, _, _, _, _, rfl, m', g1, by omega, by omega⟩⟩) fun _ => wpS_pure ⟨g, _, _, _, _, _, rfl, m', g1, by omega, by omega⟩
   | false =>
    have lab : le xa xb := Classical.byContradiction fun z => by have := hc.mpr z; cases this
    have m' := ZqQ m sa hxa fun y hy => o.tr _ _ _ lab (sb.head o hxb' hy)
    refine wpS_bind (ZdC hxa ?_)
    refine ifS (fun z => wpS_pure ⟨g, .inl ⟨_, rfl, Zk3 m' sa sb hl (by simpa using z)⟩⟩) fun z => ?_
    have z : ia + 1 + 1 ≠ a.size := by simpa using z
    exact ifS (fun _ => wpS_pure ⟨g, .inr ⟨_, _, _, _, _, rfl, m', by omega, g2, by omega⟩⟩) fun _ => wpS_pure ⟨g, _, _, _, _, _, rfl, m', by omega, g2, by omega⟩
  case post1 =>
   rintro ⟨r, c⟩ st' ⟨g, ⟨r', hr, hm⟩ | ⟨out, ia, ib, ac, bc, e, m, g1, g2, g3⟩⟩
   ·cases hr
    exact wpS_pure ⟨g, r', rfl, hm⟩
   ·cases e
    dsimp only
    refine wpS_bind (wpS_lift (wpAny_rule ⟨rfl, ?_⟩))
    refine wpS_bind (wpS_mono (wpS_forRange
     (I := fun t c st' => G st st' /\ ∃ out ia ib mg ac bc, c = (none, out, ia, ib, mg, ac, bc) /\ ML le a.toList b.toList ia ib out.toList /\ ia + 1 < a.size /\ ib < b.size /\ x + 2 <= ia + ib)
     (Q := fun c st' => G st st' /\ ((∃ r, c.1 = some r /\ Mgd le a.toList b.toList r.toList) \/ ∃ out ia ib mg ac bc, c = (none, out, ia, ib, mg, ac, bc) /\ ML le a.toList b.toList ia ib out.toList /\ ia + 1 < a.size /\ ib < b.size /\ x + 2 <= ia + ib)) ?step2 ?fin2 ⟨g, out, ia, ib, _, _, _, rfl, m, g1, g2, g3⟩) ?post2)
    case fin2 =>
     rintro c st' ⟨g, out, ia, ib, mg, ac, bc, rfl, m, g1, g2, g3⟩
     exact ⟨g, .inr ⟨out, ia, ib, mg, ac, bc, rfl, m, g1, g2, g3⟩⟩
    case post2 =>
     rintro ⟨r, c⟩ st' ⟨g, ⟨r', hr, hm⟩ | ⟨out, ia, ib, mg, ac, bc, e, m, g1, g2, g3⟩⟩
     ·cases hr
      exact wpS_pure ⟨g, r', rfl, hm⟩
     ·cases e
      dsimp only
      exact wpS_bind (ZgN (wpS_pure ⟨g.set _, out, ia, ib, _, rfl, m, g1, g2, by omega⟩))
    case step2 =>
     rintro t c st' _ ht ⟨g, out, ia, ib, mg, ac, bc, rfl, m, g1, g2, g3⟩
     obtain ⟨xb, hxb⟩ := Zfu (xs := b) (i := ib) g2
     have hxb' := hxb
     rw [<- ZcC] at hxb'
     dsimp only
     refine ifS (fun _ => ?_) fun _ => ?_
     all_goals
      refine wpS_bind (ZgN (wpS_bind (ZdC hxb (wpS_bind (Zfr ask o ((g.set _).kind.trans hk) (bu.at hxb) au (by omega) (by omega) (sa.sg o _ _) fun k hk1 hk2 hk3 => ?_)))))
      have mk := LoA m sa k fun x hx y hy => by
       obtain ⟨j, hj, hxj⟩ := Zmv hx
       rw [ZcC] at hxj
       exact o.tr _ _ _ (by have := hk2 j x hj hxj; simpa using this) (sb.head o hxb' hy)
      dsimp only
      have mk' : ∀ xa, a[ia + k]? = some xa -> le xb xa := fun xa hxa => o.of_not (by have := hk3 k xa (ZbD _) (by have := (ZcD.mp hxa).1; omega) hxa; simpa using this)
      refine ifS (fun hk0 => ifS (fun z => wpS_pure ⟨g.set _, .inl ⟨_, rfl, Zk3 mk sa sb hl (by simpa using z)⟩⟩) fun z => ifS (fun z => wpS_pure ⟨g.set _, .inl ⟨_, rfl, Zmx mk sa sb (.inl (by simpa using z))⟩⟩) fun z' => ?_) fun hk0 => ?_
      have hia : ia + k + 1 < a.size := by
       have z : ia + k + 1 ≠ a.size := by simpa using z
       have z' : ia + k ≠ a.size := by simpa using z'
       omega
      obtain ⟨ia', out', ei, eo⟩ : ∃ ia' out', ia' = ia + k /\ out' = out ++ a.extract ia (ia + k) := ⟨_, _, rfl, rfl⟩
      rw [<- eo, <- ei] at mk ⊢
      rw [<- ei] at mk' hia
      rotate_left
      have k0 : k = 0 := by omega
      subst k0
      have hia : ia + 1 < a.size := g1
      obtain ⟨ia', out', ei, eo⟩ : ∃ ia' out', ia' = ia /\ out' = out := ⟨_, _, rfl, rfl⟩
      rw [<- ei, <- eo] at ⊢
      have mk : ML le a.toList b.toList ia' ib out'.toList := by rw [ei, eo]; exact m
      have mk' : ∀ xa, a[ia']? = some xa -> le xb xa := by rw [ei]; exact mk'
      have hia : ia' + 1 < a.size := by rw [ei]; exact g1
      all_goals
       obtain ⟨xa, hxa⟩ := Zfu (xs := a) (i := ia') (by omega)
       have hxa' := hxa
       rw [<- ZcC] at hxa'
       have ml := ZqR mk sb hxb fun y hy => o.tr _ _ _ (mk' xa hxa) (sa.head o hxa' hy)
       refine wpS_bind (ZdC hxb (ifS (fun z => wpS_pure ⟨g.set _, .inl ⟨_, rfl, Zmx ml sa sb (.inr (by simpa using z))⟩⟩) fun z => ?_))
       have hib : ib + 1 < b.size := by
        have z : ib + 1 ≠ b.size := by simpa using z
        omega
       refine wpS_bind (ZdC hxa (wpS_bind (Zfr ask o ((g.set _).kind.trans hk) (au.at hxa) bu (by omega) (by omega) (sb.sg o _ _) fun k2 hk4 hk5 hk6 => ?_)))
       have mn := LoB ml sb k2 fun x hx y hy => by
        obtain ⟨j, hj, hxj⟩ := Zmv hx
        rw [ZcC] at hxj
        exact o.tr _ _ _ (o.of_not (by have := hk5 j x hj hxj; simpa using this)) (sa.head o hxa' hy)
       have mn' : ∀ y ∈ b.toList.drop (ib + 1 + k2), le xa y := fun y hy => by
        obtain ⟨j, hj⟩ := Zbe.mp hy
        rw [Zbg, ZcC, ZbN] at hj
        have := hk6 (k2 + j) y (by omega) (by have := (ZcD.mp hj).1; omega) hj
        simpa using this
       dsimp only
       refine ifS (fun hk0 => ifS (fun z => wpS_pure ⟨g.set _, .inl ⟨_, rfl, Zmx mn sa sb (.inr (by simpa using z))⟩⟩) fun z => ?_) fun hk0 => ?_
       have hib2 : ib + 1 + k2 < b.size := by
        have z : ib + 1 + k2 ≠ b.size := by simpa using z
        omega
       have mo := ZqQ mn sa hxa mn'
       rotate_left
       have k0 : k2 = 0 := by omega
       subst k0
       have hib2 := hib
       have mo := ZqQ ml sa hxa mn'
       all_goals
        refine wpS_bind (ZdC hxa (ifS (fun z => wpS_pure ⟨g.set _, .inl ⟨_, rfl, Zk3 mo sa sb hl (by simpa using z)⟩⟩) fun z => ?_))
        have z : ia' + 1 + 1 ≠ a.size := by simpa using z
        exact ifS (fun _ => wpS_pure ⟨g.set _, .inr ⟨_, _, _, _, _, _, rfl, mo, by omega, by omega, by omega⟩⟩) fun _ => wpS_pure ⟨g.set _, _, _, _, _, _, _, rfl, mo, by omega, by omega, by omega⟩
end
end TS.Internal
namespace TS.Internal
open PySem PyProof.Rows
noncomputable def Zno : Array Keyed -> Array Keyed -> StateT SortSt Sem (Array Keyed) := sortPriv% PySem.Builtin.mergeHi
section
variable {le : Keyed -> Keyed -> Prop}
theorem ZiL {l : List Keyed} {k n : Nat} {x : Keyed} (h : x ∈ (l.take n).drop k) : ∃ j, k <= j /\ j < n /\ l[j]? = some x := by
 obtain ⟨j, hj⟩ := Zbe.mp h
 rw [Zbg, Zbf] at hj
 by_cases z : k + j < n
 ·rw [if_pos z] at hj
  exact ⟨k + j, by omega, z, hj⟩
 ·rw [if_neg z] at hj
  cases hj
theorem Zmy {l : List Keyed} {n : Nat} {x : Keyed} (h : x ∈ l.take n) : ∃ j, j < n /\ l[j]? = some x := by
 obtain ⟨j, _, h2, h3⟩ := ZiL (k := 0) (by rw [Zbb]; exact h)
 exact ⟨j, h2, h3⟩
theorem ZhL (a : Array Keyed) (i n : Nat) : (a.extract i n).toList = (a.toList.take n).drop i := by
 rw [ZcF, Zbi, List.drop_take]
theorem Zk4 (a : Array Keyed) (n : Nat) : (a.extract 0 n).toList = a.toList.take n := by rw [ZhL, Zbb]
section
variable {a b out : Array Keyed} {na nb : Nat} {x : Keyed}
theorem Zqn {l : List Keyed} {n : Nat} {x : Keyed} (h1 : 1 <= n) (h : l[n - 1]? = some x) : (l.take n).drop (n - 1) = [x] := by
 rw [List.drop_take, show n - (n - 1) = 1 by omega]
 exact Zmw h
theorem HiA (m : MH le a.toList b.toList na nb out.toList.reverse) (sa : Srt le a.toList) {k : Nat} (hk : k <= na) (h : ∀ y ∈ (a.toList.take na).drop k, ∀ x ∈ b.toList.take nb, le x y) : MH le a.toList b.toList k nb (out ++ (a.extract k na).reverse).toList.reverse := by
 rw [ZcG, Zbj, ZcI, Zbk, ZhL]
 exact m.ga sa hk h
theorem HiB (m : MH le a.toList b.toList na nb out.toList.reverse) (sb : Srt le b.toList) {k : Nat} (hk : k <= nb) (h : ∀ y ∈ (b.toList.take nb).drop k, ∀ x ∈ a.toList.take na, le x y) : MH le a.toList b.toList na k (out ++ (b.extract k nb).reverse).toList.reverse := by
 rw [ZcG, Zbj, ZcI, Zbk, ZhL]
 exact m.gb sb hk h
theorem Zqo (m : MH le a.toList b.toList na nb out.toList.reverse) (sa : Srt le a.toList) (h1 : 1 <= na) (hx : a[na - 1]? = some x) (h : ∀ y ∈ b.toList.take nb, le y x) : MH le a.toList b.toList (na - 1) nb (out.push x).toList.reverse := by
 rw [<- ZcC] at hx
 have := m.ga sa (k := na - 1) (by omega) (by rw [Zqn h1 hx]; intro z hz; rw [ZaM.mp hz]; exact h)
 rw [Zqn h1 hx] at this
 rw [ZcH, Zbj]
 exact this
theorem Zrw (m : MH le a.toList b.toList na nb out.toList.reverse) (sb : Srt le b.toList) (h1 : 1 <= nb) (hx : b[nb - 1]? = some x) (h : ∀ y ∈ a.toList.take na, le y x) : MH le a.toList b.toList na (nb - 1) (out.push x).toList.reverse := by
 rw [<- ZcC] at hx
 have := m.gb sb (k := nb - 1) (by omega) (by rw [Zqn h1 hx]; intro z hz; rw [ZaM.mp hz]; exact h)
 rw [Zqn h1 hx] at this
 rw [ZcH, Zbj]
 exact this
theorem Zmz (m : MH le a.toList b.toList na nb out.toList.reverse) (sa : Srt le a.toList) (sb : Srt le b.toList) (h : na = 0 \/ nb = 0) : Mgd le a.toList b.toList (a.extract 0 na ++ b.extract 0 nb ++ out.reverse).toList := by
 rw [ZcG, ZcG, Zk4, Zk4, ZcI]
 refine m.endAB sa sb fun x hx y hy => ?_
 rcases h with h | h
 ·rw [h, Zbd] at hx; cases hx
 ·rw [h, Zbd] at hy; cases hy
theorem Znp (m : MH le a.toList b.toList na nb out.toList.reverse) (sa : Srt le a.toList) (sb : Srt le b.toList) (h0 : ∀ x y, b[0]? = some x -> y ∈ a.toList -> le x y) (h : nb = 1) : Mgd le a.toList b.toList (b.extract 0 nb ++ a.extract 0 na ++ out.reverse).toList := by
 rw [ZcG, ZcG, Zk4, Zk4, ZcI]
 refine m.endBA sa sb fun x hx y hy => ?_
 obtain ⟨j, hj, hx⟩ := Zmy hx
 have : j = 0 := by omega
 subst this
 rw [ZcC] at hx
 exact h0 x y hx (Za7 hy)
end
end
section
variable {prog : Program} {w : World} {A : Around} {E : Value -> Shared -> Prop} {s : Shared} {le : Keyed -> Keyed -> Prop} {κ : SortKind} {U : List Keyed}
theorem Zkl (ask : Ask prog w A s κ U le) (o : Ord le) {a b : Array Keyed} (au : In U a) (bu : In U b) (sa : Srt le a.toList) (sb : Srt le b.toList) (ha : 1 <= a.size) (hb : 1 <= b.size) (h0 : ∀ x y, b[0]? = some x -> a[0]? = some y -> le x y) (hl : ∀ x y, x ∈ b.toList -> a[a.size - 1]? = some y -> le x y)
  {Q : Array Keyed -> SortSt -> Prop} {st : SortSt} (hk : kindOf st = κ) (h : ∀ r st', Mgd le a.toList b.toList r.toList -> G st st' -> Q r st') : wpS (model prog w) A E s (Zno a b) Q st := by
 obtain ⟨a0, ha0⟩ := Zfu (xs := a) (i := 0) (by omega)
 obtain ⟨al, hal⟩ := Zfu (xs := a) (i := a.size - 1) (by omega)
 have h0' : ∀ x y, b[0]? = some x -> y ∈ a.toList -> le x y := fun x y hx hy => o.tr _ _ _ (h0 x a0 hx ha0) (sa.head o (i := 0) (by rw [ZcC]; exact ha0) hy)
 have mn : MH le a.toList b.toList a.size b.size (#[] : Array Keyed).toList.reverse := by
  have := MH.nil (le := le) (a := a.toList) (b := b.toList)
  rw [ZcB, ZcB] at this
  exact this
 have m1 : MH le a.toList b.toList (a.size - 1) b.size (#[].push al).toList.reverse := Zqo (out := #[]) mn sa ha hal fun y hy => hl y al (Za7 hy) hal
 refine wpS_bind (wpS_lift (wpAny_rule ⟨rfl, ?_⟩))
 refine wpS_bind (ZdC hal ?_)
 refine ifS (fun z => wpS_pure (h _ _ (Zmz m1 sa sb (.inl (by simpa using z))) (G.refl _))) fun z1 => ?_
 refine ifS (fun z => wpS_pure (h _ _ (Znp m1 sa sb h0' (by simpa using z)) (G.refl _))) fun z2 => ?_
 have z1 : a.size - 1 ≠ 0 := by simpa using z1
 have z2 : b.size ≠ 1 := by simpa using z2
 refine wpS_bind (wpS_get ?_)
 refine wpS_bind (wpS_mono (wpS_forRange
  (I := fun x c st' => G st st' /\ ∃ na nb out mg, c = (none, na, nb, out, mg) /\ MH le a.toList b.toList na nb out.toList.reverse /\ 1 <= na /\ na <= a.size /\ 2 <= nb /\ nb <= b.size /\ na + nb + x + 1 <= a.size + b.size)
  (Q := fun c st' => G st st' /\ ∃ r, c.1 = some r /\ Mgd le a.toList b.toList r.toList) ?step ?fin ⟨G.refl _, _, _, _, _, rfl, m1, by omega, by omega, by omega, by omega, by omega⟩) ?post)
 case fin =>
  rintro c st' ⟨g, na, nb, out, mg, rfl, m, g1, g1', g2, g2', g3⟩
  omega
 case post =>
  rintro c st' ⟨g, r, hr, hm⟩
  dsimp only
  rw [hr]
  exact wpS_pure (h r st' hm g)
 case step =>
  rintro x c st' _ hx ⟨g, na, nb, out, mg, rfl, m, g1, g1', g2, g2', g3⟩
  refine wpS_bind (wpS_mono (wpS_forRange
   (I := fun t c st' => G st st' /\ ∃ na nb out ac bc, c = (none, na, nb, out, ac, bc) /\ MH le a.toList b.toList na nb out.toList.reverse /\ 1 <= na /\ na <= a.size /\ 2 <= nb /\ nb <= b.size /\ na + nb + x + 1 + t <= a.size + b.size)
   (Q := fun c st' => G st st' /\ ((∃ r, c.1 = some r /\ Mgd le a.toList b.toList r.toList) \/ ∃ na nb out ac bc, c = (none, na, nb, out, ac, bc) /\ MH le a.toList b.toList na nb out.toList.reverse /\ 1 <= na /\ na <= a.size /\ 2 <= nb /\ nb <= b.size /\ na + nb + x + 2 <= a.size + b.size)) ?step1 ?fin1 ⟨g, na, nb, out, _, _, rfl, m, g1, g1', g2, g2', by omega⟩) ?post1)
  case fin1 =>
   rintro c st' ⟨g, na, nb, out, ac, bc, rfl, m, g1, g1', g2, g2', g3⟩
   exact ⟨g, .inr ⟨na, nb, out, ac, bc, rfl, m, g1, g1', g2, g2', by omega⟩⟩
  case step1 =>
   rintro t c st' _ ht ⟨g, na, nb, out, ac, bc, rfl, m, g1, g1', g2, g2', g3⟩
   obtain ⟨xb, hxb⟩ := Zfu (xs := b) (i := nb - 1) (by omega)
   obtain ⟨xa, hxa⟩ := Zfu (xs := a) (i := na - 1) (by omega)
   have hxa' := hxa
   have hxb' := hxb
   rw [<- ZcC] at hxa' hxb'
   have la : ∀ y ∈ a.toList.take na, le y xa := fun y hy => sa.last o hxa' (by rw [show na - 1 + 1 = na by omega]; exact hy)
   have lb : ∀ y ∈ b.toList.take nb, le y xb := fun y hy => sb.last o hxb' (by rw [show nb - 1 + 1 = nb by omega]; exact hy)
   dsimp only
   refine wpS_bind (ZdC hxb (wpS_bind (ZdC hxa (wpS_bind (ask xb xa (bu.at hxb) (au.at hxa) _ _ _ (g.kind.trans hk) fun c hc => ?_)))))
   cases c with
   | true =>
    have m' := Zqo m sa g1 hxa fun y hy => o.tr _ _ _ (lb y hy) (o.of_not (hc.mp rfl))
    refine wpS_bind (ZdC hxa ?_)
    refine ifS (fun z => wpS_pure ⟨g, .inl ⟨_, rfl, Zmz m' sa sb (.inl (by simpa using z))⟩⟩) fun z => ?_
    have z : na - 1 ≠ 0 := by simpa using z
    exact ifS (fun _ => wpS_pure ⟨g, .inr ⟨_, _, _, _, _, rfl, m', by omega, by omega, g2, g2', by omega⟩⟩) fun _ => wpS_pure ⟨g, _, _, _, _, _, rfl, m', by omega, by omega, g2, g2', by omega⟩
   | false =>
    have lab : le xa xb := Classical.byContradiction fun z => by have := hc.mpr z; cases this
    have m' := Zrw m sb (by omega) hxb fun y hy => o.tr _ _ _ (la y hy) lab
    refine wpS_bind (ZdC hxb ?_)
    refine ifS (fun z => wpS_pure ⟨g, .inl ⟨_, rfl, Znp m' sa sb h0' (by simpa using z)⟩⟩) fun z => ?_
    have z : nb - 1 ≠ 1 := by simpa using z
    exact ifS (fun _ => wpS_pure ⟨g, .inr ⟨_, _, _, _, _, rfl, m', g1, g1', by omega, by omega, by omega⟩⟩) fun _ => wpS_pure ⟨g, _, _, _, _, _, rfl, m', g1, g1', by omega, by omega, by omega⟩
  case post1 =>
   rintro ⟨r, c⟩ st' ⟨g, ⟨r', hr, hm⟩ | ⟨na, nb, out, ac, bc, e, m, g1, g1', g2, g2', g3⟩⟩
   ·cases hr
    exact wpS_pure ⟨g, r', rfl, hm⟩
   ·cases e
    dsimp only
    refine wpS_bind (wpS_lift (wpAny_rule ⟨rfl, ?_⟩))
    refine wpS_bind (wpS_mono (wpS_forRange
     (I := fun t c st' => G st st' /\ ∃ na nb out mg ac bc, c = (none, na, nb, out, mg, ac, bc) /\ MH le a.toList b.toList na nb out.toList.reverse /\ 1 <= na /\ na <= a.size /\ 2 <= nb /\ nb <= b.size /\ na + nb + x + 2 <= a.size + b.size)
     (Q := fun c st' => G st st' /\ ((∃ r, c.1 = some r /\ Mgd le a.toList b.toList r.toList) \/ ∃ na nb out mg ac bc, c = (none, na, nb, out, mg, ac, bc) /\ MH le a.toList b.toList na nb out.toList.reverse /\ 1 <= na /\ na <= a.size /\ 2 <= nb /\ nb <= b.size /\ na + nb + x + 2 <= a.size + b.size)) ?step2 ?fin2 ⟨g, na, nb, out, _, _, _, rfl, m, g1, g1', g2, g2', g3⟩) ?post2)
    case fin2 =>
     rintro c st' ⟨g, na, nb, out, mg, ac, bc, rfl, m, g1, g1', g2, g2', g3⟩
     exact ⟨g, .inr ⟨na, nb, out, mg, ac, bc, rfl, m, g1, g1', g2, g2', g3⟩⟩
    case post2 =>
     rintro ⟨r, c⟩ st' ⟨g, ⟨r', hr, hm⟩ | ⟨na, nb, out, mg, ac, bc, e, m, g1, g1', g2, g2', g3⟩⟩
     ·cases hr
      exact wpS_pure ⟨g, r', rfl, hm⟩
     ·cases e
      dsimp only
      exact wpS_bind (ZgN (wpS_pure ⟨g.set _, na, nb, out, _, rfl, m, g1, g1', g2, g2', by omega⟩))
    case step2 =>
     rintro t c st' _ ht ⟨g, na, nb, out, mg, ac, bc, rfl, m, g1, g1', g2, g2', g3⟩
     obtain ⟨xb, hxb⟩ := Zfu (xs := b) (i := nb - 1) (by omega)
     have hxb' := hxb
     rw [<- ZcC] at hxb'
     have lb : ∀ y ∈ b.toList.take nb, le y xb := fun y hy => sb.last o hxb' (by rw [show nb - 1 + 1 = nb by omega]; exact hy)
     dsimp only
     refine ifS (fun _ => ?_) fun _ => ?_
     all_goals
      refine wpS_bind (ZgN (wpS_bind (ZdC hxb (wpS_bind (Zfr ask o ((g.set _).kind.trans hk) (bu.at hxb) au (by omega) (by omega) (sa.sg o _ _) fun k hk1 hk2 hk3 => ?_)))))
      simp only [ZbI] at hk2 hk3
      have mk := HiA m sa hk1 fun y hy x hx => by
       obtain ⟨j, hj1, hj2, hyj⟩ := ZiL hy
       rw [ZcC] at hyj
       exact o.tr _ _ _ (lb x hx) (o.of_not (by have := hk3 j y hj1 hj2 hyj; simpa using this))
      have mk' : ∀ y ∈ a.toList.take k, le y xb := fun y hy => by
       obtain ⟨j, hj, hyj⟩ := Zmy hy
       rw [ZcC] at hyj
       have := hk2 j y hj hyj
       simpa using this
      dsimp only
      refine ifS (fun hk0 => ifS (fun z => wpS_pure ⟨g.set _, .inl ⟨_, rfl, Zmz mk sa sb (.inl (by simpa using z))⟩⟩) fun z => ?_) fun hk0 => ?_
      have hna : 1 <= k := by
       have z : k ≠ 0 := by simpa using z
       omega
      obtain ⟨na', out', ei, eo⟩ : ∃ na' out', na' = k /\ out' = out ++ (a.extract k na).reverse := ⟨_, _, rfl, rfl⟩
      rw [<- eo] at mk ⊢
      rotate_left
      have k0 : k = na := by omega
      subst k0
      have hna : 1 <= k := g1
      obtain ⟨na', out', ei, eo⟩ : ∃ na' out', na' = k /\ out' = out := ⟨_, _, rfl, rfl⟩
      rw [<- eo]
      have mk : MH le a.toList b.toList k nb out'.toList.reverse := by rw [eo]; exact m
      all_goals
       obtain ⟨xa, hxa⟩ := Zfu (xs := a) (i := k - 1) (by omega)
       have hxa' := hxa
       rw [<- ZcC] at hxa'
       have la : ∀ y ∈ a.toList.take k, le y xa := fun y hy => sa.last o hxa' (by rw [show k - 1 + 1 = k by omega]; exact hy)
       have ml := Zrw mk sb (by omega) hxb mk'
       refine wpS_bind (ZdC hxb (ifS (fun z => wpS_pure ⟨g.set _, .inl ⟨_, rfl, Znp ml sa sb h0' (by simpa using z)⟩⟩) fun z => ?_))
       have hnb : 2 <= nb - 1 := by
        have z : nb - 1 ≠ 1 := by simpa using z
        omega
       refine wpS_bind (ZdC hxa (wpS_bind (Zfr ask o ((g.set _).kind.trans hk) (au.at hxa) bu (by omega) (by omega) (sb.sg o _ _) fun k2 hk4 hk5 hk6 => ?_)))
       simp only [ZbI] at hk5 hk6
       have mn := HiB ml sb hk4 fun y hy x hx => by
        obtain ⟨j, hj1, hj2, hyj⟩ := ZiL hy
        rw [ZcC] at hyj
        exact o.tr _ _ _ (la x hx) (by have := hk6 j y hj1 hj2 hyj; simpa using this)
       have mn' : ∀ y ∈ b.toList.take k2, le y xa := fun y hy => by
        obtain ⟨j, hj, hyj⟩ := Zmy hy
        rw [ZcC] at hyj
        exact o.of_not (by have := hk5 j y hj hyj; simpa using this)
       dsimp only
       refine ifS (fun hk0 => ifS (fun z => wpS_pure ⟨g.set _, .inl ⟨_, rfl, Znp mn sa sb h0' (by simpa using z)⟩⟩) fun z => ifS (fun z => wpS_pure ⟨g.set _, .inl ⟨_, rfl, Zmz mn sa sb (.inr (by simpa using z))⟩⟩) fun z' => ?_) fun hk0 => ?_
       have hnb2 : 2 <= k2 := by
        have z : k2 ≠ 1 := by simpa using z
        have z' : k2 ≠ 0 := by simpa using z'
        omega
       have mo := Zqo mn sa hna hxa mn'
       rotate_left
       have k0 : k2 = nb - 1 := by omega
       subst k0
       have hnb2 := hnb
       have mo := Zqo ml sa hna hxa mn'
       all_goals
        refine wpS_bind (ZdC hxa (ifS (fun z => wpS_pure ⟨g.set _, .inl ⟨_, rfl, Zmz mo sa sb (.inl (by simpa using z))⟩⟩) fun z => ?_))
        have z : k - 1 ≠ 0 := by simpa using z
        exact ifS (fun _ => wpS_pure ⟨g.set _, .inr ⟨_, _, _, _, _, _, rfl, mo, by omega, by omega, by omega, by omega, by omega⟩⟩) fun _ => wpS_pure ⟨g.set _, _, _, _, _, _, _, rfl, mo, by omega, by omega, by omega, by omega, by omega⟩
end
end TS.Internal
namespace TS.Internal
open PySem PyProof.Rows
section
variable {le : Keyed -> Keyed -> Prop}
def Pm (lo : Nat) (xs ys : Array Keyed) : Prop := ys.Perm xs /\ ∀ k, k < lo -> ys[k]? = xs[k]?
theorem Pm.refl (lo : Nat) (xs : Array Keyed) : Pm lo xs xs := ⟨Array.Perm.refl _, fun _ _ => rfl⟩
theorem Pm.trans {lo : Nat} {xs ys zs : Array Keyed} (h : Pm lo xs ys) (g : Pm lo ys zs) : Pm lo xs zs := ⟨g.1.trans h.1, fun k hk => (g.2 k hk).trans (h.2 k hk)⟩
theorem Pm.size {lo : Nat} {xs ys : Array Keyed} (h : Pm lo xs ys) : ys.size = xs.size := h.1.size_eq
theorem Pm.mirror {lo i j : Nat} {xs : Array Keyed} (hi : lo <= i) (hj : j <= xs.size) : Pm lo xs (mirror xs i j ((j - i) / 2)) := ⟨mirror_perm _ _ _ _, fun k hk => by rw [getElem?_mirror_all hj, if_neg (by omega)]⟩
def NI (le : Keyed -> Keyed -> Prop) (xs : Array Keyed) (lo hi : Nat) : Prop := ∀ i j x y, lo <= i -> i <= j -> j < hi -> xs[i]? = some x -> xs[j]? = some y -> le y x
def Eqv (le : Keyed -> Keyed -> Prop) (xs : Array Keyed) (lo hi : Nat) : Prop := ∀ i j x y, lo <= i -> i < hi -> lo <= j -> j < hi -> xs[i]? = some x -> xs[j]? = some y -> le x y
theorem Eqv.mirror {xs : Array Keyed} {lo hi p q : Nat} (h : Eqv le xs lo hi) (hp : lo <= p) (hq : q <= hi) (hs : q <= xs.size) : Eqv le (mirror xs p q ((q - p) / 2)) lo hi := by
 intro i j x y h1 h2 h3 h4 hx hy
 rw [getElem?_mirror_all hs] at hx hy
 split at hx <;> split at hy
 all_goals exact h _ _ x y (by omega) (by omega) (by omega) (by omega) hx hy
theorem NI.mirror {xs : Array Keyed} {lo hi p q : Nat} (n : NI le xs lo hi) (e : Eqv le xs p q) (hp : lo <= p) (hq : q <= hi) (hs : q <= xs.size) : NI le (mirror xs p q ((q - p) / 2)) lo hi := by
 intro i j x y h1 h2 h3 hx hy
 rw [getElem?_mirror_all hs] at hx hy
 split at hx <;> split at hy
 ·exact e _ _ y x (by omega) (by omega) (by omega) (by omega) hy hx
 ·exact n _ _ x y (by omega) (by omega) (by omega) hx hy
 ·exact n _ _ x y (by omega) (by omega) (by omega) hx hy
 ·exact n _ _ x y (by omega) (by omega) (by omega) hx hy
theorem NI.turn {xs : Array Keyed} {lo hi : Nat} (n : NI le xs lo hi) (hs : hi <= xs.size) : Sg le (PyProof.Rows.mirror xs lo hi ((hi - lo) / 2)) lo hi := by
 intro i j x y h1 h2 h3 hx hy
 rw [getElem?_mirror_all hs, if_pos (by omega)] at hx hy
 exact n _ _ y x (by omega) (by omega) (by omega) hy hx
theorem Sg.more (o : Ord le) {xs : Array Keyed} {lo hi : Nat} (s : Sg le xs lo hi) (hlt : lo < hi) (hs : hi <= xs.size) (h : ∀ x y, xs[hi - 1]? = some x -> xs[hi]? = some y -> le x y) : Sg le xs lo (hi + 1) := by
 intro i j x y h1 h2 h3 hx hy
 by_cases z : j < hi
 ·exact s i j x y h1 h2 z hx hy
 ·have ej : j = hi := by omega
  subst ej
  by_cases z2 : i = j
  ·subst z2
   rw [hx] at hy
   cases hy
   exact o.refl _
  ·obtain ⟨m, hm⟩ := Zfu (xs := xs) (i := j - 1) (by omega)
   exact o.tr _ _ _ (s i (j - 1) x m h1 (by omega) (by omega) hx hm) (h m y hm hy)
theorem NI.more (o : Ord le) {xs : Array Keyed} {lo hi : Nat} (s : NI le xs lo hi) (hlt : lo < hi) (hs : hi <= xs.size) (h : ∀ x y, xs[hi - 1]? = some x -> xs[hi]? = some y -> le y x) : NI le xs lo (hi + 1) := by
 intro i j x y h1 h2 h3 hx hy
 by_cases z : j < hi
 ·exact s i j x y h1 h2 z hx hy
 ·have ej : j = hi := by omega
  subst ej
  by_cases z2 : i = j
  ·subst z2
   rw [hx] at hy
   cases hy
   exact o.refl _
  ·obtain ⟨m, hm⟩ := Zfu (xs := xs) (i := j - 1) (by omega)
   exact o.tr _ _ _ (h m y hm hy) (s i (j - 1) x m h1 (by omega) (by omega) hx hm)
theorem Sg.one (o : Ord le) (xs : Array Keyed) (lo : Nat) : Sg le xs lo (lo + 1) := fun i j x y h1 h2 h3 hx hy => by
 have : i = j := by omega
 subst this
 rw [hx] at hy
 cases hy
 exact o.refl _
end
section
variable {prog : Program} {w : World} {A : Around} {E : Value -> Shared -> Prop} {s : Shared} {le : Keyed -> Keyed -> Prop} {κ : SortKind} {U : List Keyed}
theorem ZiM (ask : Ask prog w A s κ U le) (o : Ord le) {lo nrem : Nat} {Q : Option Nat -> SortSt -> Prop} {st : SortSt} (hk : kindOf st = κ) (hU : In U (arrOf st)) (hn : lo + nrem <= (arrOf st).size) (h1 : 1 <= nrem)
  (h : ∀ n xs, Pm lo (arrOf st) xs -> 1 <= n -> n <= nrem -> Sg le xs lo (lo + n) -> Q (some n) (setArr st xs)) : wpS (model prog w) A E s (countRun' lo nrem) Q st := by
 have asc : ∀ (xs : Array Keyed) (n0 : Nat) (f : Nat -> Option (Option Nat) × Nat -> StateT SortSt Sem (ForInStep (Option (Option Nat) × Nat))), Pm lo (arrOf st) xs -> Sg le xs lo (lo + n0) -> 1 <= n0 -> n0 <= nrem ->
   (∀ (x n : Nat) (R : ForInStep (Option (Option Nat) × Nat) -> SortSt -> Prop), 1 <= n -> n < nrem -> (∀ (a b : Keyed) (c : Bool), xs[lo + n - 1]? = some a -> xs[lo + n]? = some b -> (c = true ↔ ¬ le a b) -> R (if c = true then ForInStep.done (none, n) else ForInStep.yield (none, n + 1)) (setArr st xs)) -> wpS (model prog w) A E s (f x (none, n)) R (setArr st xs)) ->
   ∀ R : Option (Option Nat) × Nat -> SortSt -> Prop, (∀ n, n0 <= n -> n <= nrem -> Sg le xs lo (lo + n) -> (n = nrem \/ ∀ a b, xs[lo + n - 1]? = some a -> xs[lo + n]? = some b -> ¬ le a b) -> R (none, n) (setArr st xs)) -> wpS (model prog w) A E s (forIn [n0:nrem] (none, n0) f) R (setArr st xs) := fun xs n0 f hp hs h3 h4 hf R hR => by
  have sz := hp.size
  refine wpS_forRange (I := fun x c st' => st' = setArr st xs /\ c = (none, x) /\ Sg le xs lo (lo + x)) ?step ?fin ⟨rfl, rfl, hs⟩
  case fin =>
   rintro c st' ⟨rfl, rfl, hs'⟩
   rw [show max n0 nrem = nrem by omega] at hs' ⊢
   exact hR nrem h4 (ZbD _) hs' (.inl rfl)
  case step =>
   rintro x c st' hx1 hx2 ⟨rfl, rfl, hs'⟩
   refine hf x x _ (by omega) hx2 fun a b c ha hb hc => ?_
   cases c with
   | true =>
    refine hR x hx1 (by omega) hs' (.inr fun a' b' ha' hb' => ?_)
    rw [ha] at ha'
    rw [hb] at hb'
    cases ha'
    cases hb'
    exact hc.mp rfl
   | false =>
    refine ⟨rfl, rfl, hs'.more o (by omega) (by omega) fun a' b' ha' hb' => ?_⟩
    rw [ha] at ha'
    rw [hb] at hb'
    cases ha'
    cases hb'
    exact Classical.byContradiction fun z => by have := hc.mpr z; cases this
 have lts : ∀ {xs : Array Keyed} {i j : Nat} {Q : Option Bool -> SortSt -> Prop}, Pm lo (arrOf st) xs -> i < lo + nrem -> j < lo + nrem -> (∀ (a b : Keyed) (c : Bool), xs[i]? = some a -> xs[j]? = some b -> (c = true ↔ ¬ le b a) -> Q (some c) (setArr st xs)) -> wpS (model prog w) A E s (ltAt' i j) Q (setArr st xs) := fun {xs i j Q} hp hi hj hq => by
  have sz := hp.size
  obtain ⟨a, ha⟩ := Zfu (xs := xs) (i := i) (by omega)
  obtain ⟨b, hb⟩ := Zfu (xs := xs) (i := j) (by omega)
  exact Zmu ask (st := setArr st xs) hk (hU.perm hp.1) ha hb fun c hc => hq a b c ha hb hc
 have rev : ∀ {xs : Array Keyed} {i j : Nat} {Q : Unit -> SortSt -> Prop}, Q () (setArr st (mirror xs i j ((j - i) / 2))) -> wpS (model prog w) A E s (reverseSlice' i j) Q (setArr st xs) := fun {xs i j Q} hq => wpS_reverse (st := setArr st xs) hq
 have p0 := Pm.refl lo (arrOf st)
 show wpS (model prog w) A E s _ Q (setArr st (arrOf st))
 refine wpS_bind (asc (arrOf st) 1 _ p0 (Sg.one o _ _) (ZbD _) h1 ?_ _ fun n hn1 hn2 hsn hor => ?_)
 ·intro x n R hn1 hn2 hR
  dsimp only
  refine wpS_bind (lts p0 (by omega) (by omega) fun a b c ha hb hc => ?_)
  have := hR b a c hb ha hc
  cases c with
  | true => exact wpS_pure this
  | false => exact wpS_pure this
 dsimp only
 refine ifS (fun z => wpS_pure (h n _ p0 hn1 hn2 hsn)) fun z => ?_
 have z : n ≠ nrem := by simpa using z
 have drop := hor.resolve_left z
 refine (fun (key : ∀ xs : Array Keyed, Pm lo (arrOf st) xs -> NI le xs lo (lo + n) -> (∀ a' b', xs[lo + n - 1]? = some a' -> xs[lo + n]? = some b' -> le b' a') -> wpS (model prog w) A E s ?P Q (setArr st xs)) => ?main) ?key
 case main =>
  refine ifS (fun z1 => wpS_bind (lts p0 (by omega) (by omega) fun a b c ha hb hc => ?_)) fun z1 => ?_
  ·cases c with
   | true => exact wpS_pure (h n _ p0 hn1 hn2 hsn)
   | false =>
    have lba : le b a := Classical.byContradiction fun z => by have := hc.mpr z; cases this
    have ev : Eqv le (arrOf st) lo (lo + n) := fun i j x y g1 g2 g3 g4 hx hy => o.tr _ _ _ (hsn i (lo + n - 1) x b g1 (by omega) (by omega) hx hb) (o.tr _ _ _ lba (hsn lo j a y (ZbD _) g3 g4 ha hy))
    refine wpS_bind (rev ?_)
    obtain ⟨xs, hxs⟩ : ∃ xs, xs = mirror (arrOf st) lo (lo + n) ((lo + n - lo) / 2) := ⟨_, rfl⟩
    rw [<- hxs]
    refine key xs (by rw [hxs]; exact Pm.mirror (ZbD _) (by omega)) (fun i j x y g1 g2 g3 hx hy => ?_) fun a' b' ha' hb' => ?_
    ·have := ev.mirror (p := lo) (q := lo + n) (ZbD _) (ZbD _) (by omega)
     rw [<- hxs] at this
     exact this j i y x (by omega) g3 g1 (by omega) hy hx
    ·rw [hxs, getElem?_mirror_all (by omega), if_pos (by omega)] at ha'
     rw [hxs, getElem?_mirror_all (by omega), if_neg (by omega)] at hb'
     refine o.of_not fun zz => ?_
     exact drop b b' hb hb' (o.tr _ _ _ (ev _ _ b a' (by omega) (by omega) (by omega) (by omega) hb ha') zz)
  ·have n1 : n = 1 := by omega
   refine key _ p0 (fun i j x y g1 g2 g3 hx hy => ?_) fun a' b' ha' hb' => o.of_not (drop a' b' ha' hb')
   have : i = j := by omega
   subst this
   rw [hx] at hy
   cases hy
   exact o.refl _
 case key =>
  intro xs px nx dx
  clear hsn hor drop
  have sz := px.size
  have nx' := nx.more o (by omega) (by omega) dx
  refine wpS_bind (wpS_lift (wpAny_rule ⟨rfl, ?_⟩))
  refine wpS_bind (wpS_mono (wpS_forRange (I := fun x c st' => ∃ ys neq, st' = setArr st ys /\ Pm lo (arrOf st) ys /\ c = (none, x, neq) /\ NI le ys lo (lo + x) /\ neq + 1 <= x /\ Eqv le ys (lo + x - (neq + 1)) (lo + x))
   (Q := fun c st' => ∃ ys neq m, st' = setArr st ys /\ Pm lo (arrOf st) ys /\ c = (none, m, neq) /\ 1 <= m /\ m <= nrem /\ NI le ys lo (lo + m) /\ neq + 1 <= m /\ Eqv le ys (lo + m - (neq + 1)) (lo + m)) ?step ?fin ⟨xs, 0, rfl, px, rfl, nx', by omega, ?one⟩) ?post)
  case one =>
   intro i j x y g1 g2 g3 g4 hx hy
   have : i = j := by omega
   subst this
   rw [hx] at hy
   cases hy
   exact o.refl _
  case fin =>
   rintro c st' ⟨ys, neq, rfl, py, rfl, ny, g1, ey⟩
   rw [show max (n + 1) nrem = nrem by omega] at ny g1 ey ⊢
   exact ⟨ys, neq, nrem, rfl, py, rfl, h1, ZbD _, ny, g1, ey⟩
  case step =>
   rintro x c st' hx1 hx2 ⟨ys, neq, rfl, py, rfl, ny, g1, ey⟩
   have sy := py.size
   dsimp only
   refine wpS_bind (lts py (by omega) (by omega) fun a b c ha hb hc => ?_)
   cases c with
   | true =>
    have lab : le a b := o.of_not (hc.mp rfl)
    dsimp only
    rw [if_pos rfl]
    refine ifS (fun zq => wpS_bind (rev (wpS_pure ?_))) fun zq => wpS_pure ?_
    ·have nm := ny.mirror ey (by omega) (ZbD _) (by omega)
     refine ⟨_, 0, rfl, py.trans (Pm.mirror (by omega) (by omega)), rfl, nm.more o (by omega) (by rw [mirror_size]; omega) fun a' b' ha' hb' => ?_, by omega, fun i j x y q1 q2 q3 q4 hx hy => ?_⟩
     ·rw [getElem?_mirror_all (by omega), if_pos (by omega)] at ha'
      rw [getElem?_mirror_all (by omega), if_neg (by omega), ha] at hb'
      cases hb'
      exact o.tr _ _ _ lab (ey _ _ b a' (by omega) (by omega) (by omega) (by omega) hb ha')
     ·have : i = j := by omega
      subst this
      rw [hx] at hy
      cases hy
      exact o.refl _
    ·refine ⟨ys, 0, rfl, py, rfl, ny.more o (by omega) (by omega) fun a' b' ha' hb' => ?_, by omega, fun i j x y q1 q2 q3 q4 hx hy => ?_⟩
     ·rw [hb] at ha'
      rw [ha] at hb'
      cases ha'
      cases hb'
      exact lab
     ·have : i = j := by omega
      subst this
      rw [hx] at hy
      cases hy
      exact o.refl _
   | false =>
    have lba : le b a := Classical.byContradiction fun z => by have := hc.mpr z; cases this
    dsimp only
    rw [if_neg Zcy]
    refine wpS_bind (lts py (by omega) (by omega) fun a' b' c hb' ha' hc => ?_)
    rw [hb] at hb'
    rw [ha] at ha'
    cases hb'
    cases ha'
    cases c with
    | true => exact wpS_pure ⟨ys, neq, x, rfl, py, rfl, by omega, by omega, ny, g1, ey⟩
    | false =>
     have lab : le a b := Classical.byContradiction fun z => by have := hc.mpr z; cases this
     refine wpS_pure ⟨ys, neq + 1, rfl, py, rfl, ny.more o (by omega) (by omega) fun a' b' ha' hb' => ?_, by omega, fun i j p q q1 q2 q3 q4 hp hq => ?_⟩
     ·rw [hb] at ha'
      rw [ha] at hb'
      cases ha'
      cases hb'
      exact lab
     ·have cls : ∀ i p, lo + (x + 1) - (neq + 1 + 1) <= i -> i < lo + (x + 1) -> ys[i]? = some p -> le p b /\ le b p := fun i p q1 q2 hp => by
       by_cases zi : i < lo + x
       ·exact ⟨ey i (lo + x - 1) p b (by omega) zi (by omega) (by omega) hp hb, ey (lo + x - 1) i b p (by omega) (by omega) (by omega) zi hb hp⟩
       ·have ei : i = lo + x := by omega
        rw [ei, ha] at hp
        cases hp
        exact ⟨lab, lba⟩
      exact o.tr _ _ _ (cls i p q1 q2 hp).1 (cls j q q3 q4 hq).2
  case post =>
   rintro c st' ⟨ys, neq, m, rfl, py, rfl, g0, g0', ny, g1, ey⟩
   have sy := py.size
   dsimp only
   refine (fun (key : ∀ zs : Array Keyed, Pm lo (arrOf st) zs -> NI le zs lo (lo + m) -> wpS (model prog w) A E s ?P2 Q (setArr st zs)) => ?m2) ?k2
   case m2 =>
    refine ifS (fun zq => wpS_bind (rev ?_)) fun zq => ?_
    ·exact key _ (py.trans (Pm.mirror (by omega) (by omega))) (ny.mirror ey (by omega) (ZbD _) (by omega))
    ·exact key _ py ny
   case k2 =>
    intro zs pz nz
    clear ey ny py
    have sz := pz.size
    refine wpS_bind (rev ?_)
    have pv := pz.trans (Pm.mirror (xs := zs) (i := lo) (j := lo + m) (ZbD _) (by omega))
    refine wpS_bind (asc _ m _ pv (nz.turn (by omega)) g0 g0' ?_ _ fun n hn1 hn2 hsn hor => wpS_pure (h n _ pv (by omega) hn2 hsn))
    intro x n R hn1 hn2 hR
    dsimp only
    refine wpS_bind (lts pv (by omega) (by omega) fun a b c ha hb hc => ?_)
    have := hR b a c hb ha hc
    cases c with
    | true => exact wpS_pure this
    | false => exact wpS_pure this
end
end TS.Internal
namespace TS.Internal
open PySem PyProof.Rows
section
variable {prog : Program} {w : World} {A : Around} {E : Value -> Shared -> Prop} {s : Shared} {le : Keyed -> Keyed -> Prop} {κ : SortKind} {U : List Keyed}
theorem Pm.bubble {lo src d : Nat} {xs : Array Keyed} (hs : src < xs.size) (hd : d <= src) (hl : lo <= src - d) : Pm lo xs (bubble xs src d) := ⟨bubble_perm _ _ _, fun k hk => by rw [getElem?_bubble hs d hd, if_neg (by omega), if_neg (by omega)]⟩
theorem ZhM (ask : Ask prog w A s κ U le) (o : Ord le) {lo n ok : Nat} {Q : Bool -> SortSt -> Prop} {st : SortSt} (hk : kindOf st = κ) (hU : In U (arrOf st)) (hn : lo + n <= (arrOf st).size) (hok : ok <= n) (hs : Sg le (arrOf st) lo (lo + ok))
  (h : ∀ xs, Pm lo (arrOf st) xs -> Sg le xs lo (lo + n) -> Q true (setArr st xs)) : wpS (model prog w) A E s (binarySort' lo n ok) Q st := by
 refine wpS_bind (wpS_mono (wpS_forRange (I := fun k c st' => ∃ xs, st' = setArr st xs /\ c = (none, ()) /\ Pm lo (arrOf st) xs /\ Sg le xs lo (lo + min k n))
  (Q := fun c st' => ∃ xs, st' = setArr st xs /\ c = (none, ()) /\ Pm lo (arrOf st) xs /\ Sg le xs lo (lo + n)) ?step ?fin ⟨arrOf st, rfl, rfl, Pm.refl _ _, ?init⟩) ?post)
 case post =>
  rintro c st' ⟨xs, rfl, rfl, hp, hs'⟩
  exact wpS_pure (h xs hp hs')
 case init =>
  by_cases z : ok = 0
  ·subst z
   intro i j x y h1 h2 h3
   exact Sg.one o _ lo i j x y h1 h2 (by omega)
  ·intro i j x y h1 h2 h3
   exact hs i j x y h1 h2 (by omega)
 case fin =>
  rintro c st' ⟨xs, rfl, rfl, hp, hs'⟩
  rw [show min (max (max ok 1) n) n = n by omega] at hs'
  exact ⟨xs, rfl, rfl, hp, hs'⟩
 case step =>
  rintro k c st' hak hkn ⟨xs, rfl, rfl, hp, hs'⟩
  have sz := hp.size
  rw [show min k n = k by omega] at hs'
  obtain ⟨pv, hpv⟩ := Zfu (xs := xs) (i := lo + k) (by omega)
  refine wpS_bind (wpS_mono (wpS_forRange (I := fun x c st'' => st'' = setArr st xs /\ ∃ l r, c = (none, l, r) /\ l <= r /\ r <= k /\ r - l <= k - x /\
    (∀ i y, i < l -> xs[lo + i]? = some y -> le y pv) /\ (∀ i y, r <= i -> i < k -> xs[lo + i]? = some y -> le pv y))
   (Q := fun c st'' => st'' = setArr st xs /\ ∃ l r, c = (none, l, r) /\ l <= k /\
    (∀ i y, i < l -> xs[lo + i]? = some y -> le y pv) /\ (∀ i y, l <= i -> i < k -> xs[lo + i]? = some y -> le pv y)) ?istep ?ifin ?iinit) ?ipost)
  case iinit => exact ⟨rfl, 0, k, rfl, by omega, by omega, by omega, fun i y hi => by omega, fun i y h1 h2 => by omega⟩
  case ifin =>
   rintro c st'' ⟨rfl, l, r, rfl, hlr, hrk, hm, hlo, hhi⟩
   have : l = r := by omega
   subst this
   exact ⟨rfl, l, l, rfl, hrk, hlo, hhi⟩
  case istep =>
   rintro x c st'' _ hxk ⟨rfl, l, r, rfl, hlr, hrk, hm, hlo, hhi⟩
   dsimp only
   refine ifS (fun hge => wpS_pure ⟨rfl, l, r, rfl, by omega, hlo, fun i y h1 h2 => hhi i y (by omega) h2⟩) fun hge => ?_
   obtain ⟨mv, hmv⟩ := Zfu (xs := xs) (i := lo + (l + r) / 2) (by omega)
   refine wpS_bind (Zmu ask (st := setArr st xs) hk (hU.perm hp.1) hpv hmv fun c hc => ?_)
   cases c with
   | true =>
    refine wpS_pure ⟨rfl, l, (l + r) / 2, rfl, by omega, by omega, by omega, hlo, fun i y h1 h2 hy => ?_⟩
    exact o.tr _ _ _ (o.of_not (hc.mp rfl)) (hs' _ _ mv y (by omega) (by omega) (by omega) hmv hy)
   | false =>
    have lmp : le mv pv := Classical.byContradiction fun z => by have := hc.mpr z; cases this
    refine wpS_pure ⟨rfl, (l + r) / 2 + 1, r, rfl, by omega, by omega, by omega, fun i y h1 hy => ?_, hhi⟩
    exact o.tr _ _ _ (hs' (lo + i) (lo + (l + r) / 2) y mv (by omega) (by omega) (by omega) hy hmv) lmp
  case ipost =>
   rintro c st'' ⟨rfl, l, r, rfl, hlk, hlo, hhi⟩
   show wpS _ _ _ _ (do moveDown' (lo + k) (lo + l); pure (ForInStep.yield (none, ()))) _ _
   rw [moveDown'_eq]
   have hks : lo + k < xs.size := by omega
   refine wpS_bind (wpS_modify (wpS_pure ⟨_, rfl, rfl, hp.trans (Pm.bubble hks (by omega) (by omega)), ?_⟩))
   rw [show min (k + 1) n = k + 1 by omega, show lo + k - (lo + l) = k - l by omega]
   intro i j x y h1 h2 h3 hx hy
   have g : ∀ q : Nat, (ZcU xs (lo + k) (k - l))[q]? = if q = lo + l then some pv else if lo + l < q /\ q <= lo + k then xs[q - 1]? else xs[q]? := fun q => by
    rw [getElem?_bubble hks _ (by omega), hpv, show lo + k - (k - l) = lo + l by omega]
   have hx : (ZcU xs (lo + k) (k - l))[i]? = some x := hx
   have hy : (ZcU xs (lo + k) (k - l))[j]? = some y := hy
   rw [g] at hx hy
   by_cases c1 : i = lo + l
   ·rw [if_pos c1] at hx
    cases hx
    by_cases c2 : j = lo + l
    ·rw [if_pos c2] at hy
     cases hy
     exact o.refl _
    ·rw [if_neg c2, if_pos (by omega)] at hy
     exact hhi (j - 1 - lo) y (by omega) (by omega) (by rw [show lo + (j - 1 - lo) = j - 1 by omega]; exact hy)
   ·rw [if_neg c1] at hx
    by_cases c2 : j = lo + l
    ·rw [if_pos c2] at hy
     cases hy
     rw [if_neg (by omega)] at hx
     exact hlo (i - lo) x (by omega) (by rw [show lo + (i - lo) = i by omega]; exact hx)
    ·rw [if_neg c2] at hy
     split at hx <;> split at hy
     ·exact hs' _ _ x y (by omega) (by omega) (by omega) hx hy
     ·omega
     ·exact hs' _ _ x y (by omega) (by omega) (by omega) hx hy
     ·exact hs' _ _ x y (by omega) (by omega) (by omega) hx hy
end
end TS.Internal
namespace TS.Internal
open PySem PyProof.Rows
theorem ar1 {sa na sb k : Nat} (e : sb = sa + na) (h : k <= na) (z : na - k ≠ 0) : sa + k + (na - k - 1) = sb - 1 := by omega
theorem ar2 {sa na sb k : Nat} (e : sb = sa + na) (h : k <= na) : sa + k + (na - k) = sb := by omega
theorem Zo2 {α : Type} (L : List α) (n : Nat) (h : n <= L.length) : ∃ a b, L = a ++ b /\ a.length = n := ⟨L.take n, L.drop n, (Za4 n L).symm, by rw [Zax]; omega⟩
section
variable {le : Keyed -> Keyed -> Prop}
theorem ZjJ {L a b c : List Keyed} {i n : Nat} (e : L = a ++ (b ++ c)) (ha : a.length = i) (hb : b.length = n) : (L.take (i + n)).drop i = b := by
 subst ha hb
 rw [e, List.take_append, List.drop_append]
 simp
theorem Zk5 {L a b c : List Keyed} {i : Nat} (e : L = a ++ (b ++ c)) (ha : a.length = i) {x : Keyed} (hx : x ∈ b) : ∃ j, j < b.length /\ L[i + j]? = some x := by
 obtain ⟨j, hj⟩ := Zbe.mp hx
 have := (Zaj.mp hj).1
 refine ⟨j, this, ?_⟩
 rw [e, Zay (by omega), show i + j - a.length = j by omega, Zaz this]
 exact hj
theorem ZnW {L a b c : List Keyed} {i j : Nat} (e : L = a ++ (b ++ c)) (ha : a.length = i) (hj : j < b.length) : L[i + j]? = b[j]? := by
 rw [e, Zay (by omega), show i + j - a.length = j by omega, Zaz hj]
theorem ZmA {xs : Array Keyed} {lo hi : Nat} (s : Sg le xs lo hi) : Srt le ((xs.toList.take hi).drop lo) := by
 rw [Srt, Zbl]
 intro i j h1 h2 hij
 have e : ∀ q (hq : q < ((xs.toList.take hi).drop lo).length), xs[lo + q]? = some ((xs.toList.take hi).drop lo)[q] := fun q hq => by
  rw [<- ZcC]
  have e1 : ((xs.toList.take hi).drop lo)[q]? = some ((xs.toList.take hi).drop lo)[q] := ZaQ hq
  rw [Zbg, Zbf] at e1
  by_cases z : lo + q < hi
  ·rw [if_pos z] at e1; exact e1
  ·rw [if_neg z] at e1; cases e1
 rw [ZaK, Zax] at h2
 exact s (lo + i) (lo + j) _ _ (by omega) (by omega) (by omega) (e i h1) (e j (by rw [ZaK, Zax]; exact h2))
theorem ZpL (o : Ord le) {xs : Array Keyed} {lo hi : Nat} (s : Srt le ((xs.toList.take hi).drop lo)) : Sg le xs lo hi := fun i j x y h1 h2 h3 hx hy => by
 have e : ∀ q z, lo <= q -> q < hi -> xs[q]? = some z -> ((xs.toList.take hi).drop lo)[q - lo]? = some z := fun q z g1 g2 hz => by
  rw [Zbg, Zbf, show lo + (q - lo) = q by omega, if_pos g2, ZcC]
  exact hz
 have ex := e i x h1 (by omega) hx
 have ey := e j y (by omega) h3 hy
 refine s.head o ex (Zbe.mpr ⟨j - i, ?_⟩)
 rw [Zbg, show i - lo + (j - i) = j - lo by omega]
 exact ey
theorem Zk6 (base : Nat) : ∀ (r b : List Keyed) (n : Nat) (arr : Array Keyed) (a c : List Keyed), arr.toList = a ++ (b ++ c) -> a.length = base + n -> b.length = r.length ->
  ((r.zipIdx n).foldl (fun (a : Array Keyed) (q : Keyed × Nat) => a.setIfInBounds (base + q.2) q.1) arr).toList = a ++ (r ++ c)
 | [], b, n, arr, a, c, e, _, hb => by
  rw [Zbm hb] at e
  exact e
 | x :: r, [], n, arr, a, c, e, ha, hb => by cases hb
 | x :: r, y :: b, n, arr, a, c, e, ha, hb => by
  rw [List.zipIdx_cons, ZaR]
  have := Zk6 base r b (n + 1) (arr.setIfInBounds (base + n) x) (a ++ [x]) c (by
   rw [ZcJ, e, <- ha, Zbn _ _ (ZbD _), ZbO, ZaF, List.set_cons_zero, Za1]
   rfl) (by rw [ZaC, ha]; rfl) (by simpa using hb)
  rw [this, Za1]
  rfl
end
section
variable {prog : Program} {w : World} {A : Around} {E : Value -> Shared -> Prop} {s : Shared} {le : Keyed -> Keyed -> Prop} {κ : SortKind} {U : List Keyed}
theorem Zoz {σ : Type} {M : Model} {v : σ} {Q : PUnit -> σ -> Prop} {st : σ} (h : Q ⟨⟩ v) : wpS M A E s (set v : StateT σ Sem PUnit) Q st := by
 unfold wpS; rw [StateT.run_set]; exact wpAny_pure ⟨rfl, h⟩
theorem Zkm (ask : Ask prog w A s κ U le) (o : Ord le) {i sa na sb nb pw pv : Nat} {Q : Bool -> SortSt -> Prop} {st : SortSt} (hk : kindOf st = κ) (hf : failedOf st = none) (hU : In U (arrOf st)) (h1 : (pendingOf st)[i]? = some (sa, na, pw)) (h2 : (pendingOf st)[i + 1]? = some (sb, nb, pv)) (esb : sb = sa + na) (na1 : 1 <= na) (nb1 : 1 <= nb) (hz : sb + nb <= (arrOf st).size) (sA : Sg le (arrOf st) sa sb) (sB : Sg le (arrOf st) sb (sb + nb))
  (h : ∀ ys g, ys.Perm (arrOf st) -> (∀ q, q < sa \/ sb + nb <= q -> ys[q]? = (arrOf st)[q]?) -> Sg le ys sa (sb + nb) -> Q true (SortSt.mk' κ ys (((pendingOf st).setIfInBounds i (sa, na + nb, pw)).eraseIdxIfInBounds (i + 1)) g none)) : wpS (model prog w) A E s (mergeAt' i) Q st := by
 refine wpS_bind (wpS_get ?_)
 dsimp only
 rw [h1, h2]
 dsimp only
 refine wpS_bind (Zoz ?_)
 subst hk
 obtain ⟨B0, hB0⟩ := Zfu (xs := arrOf st) (i := sb) (by omega)
 refine wpS_bind (ZdC hB0 ?_)
 obtain ⟨P, hP⟩ : ∃ P, ((pendingOf st).setIfInBounds i (sa, na + nb, pw)).eraseIdxIfInBounds (i + 1) = P := ⟨_, rfl⟩
 rw [hP] at h
 have hh : ∀ ys g, ys.Perm (arrOf st) -> (∀ q, q < sa \/ sb + nb <= q -> ys[q]? = (arrOf st)[q]?) -> Sg le ys sa (sb + nb) -> Q (failedOf st).isNone (SortSt.mk' (kindOf st) ys P g (failedOf st)) := by rw [hf]; exact h
 have hT : ∀ ys g, ys.Perm (arrOf st) -> (∀ q, q < sa \/ sb + nb <= q -> ys[q]? = (arrOf st)[q]?) -> Sg le ys sa (sb + nb) -> Q true (SortSt.mk' (kindOf st) ys P g (failedOf st)) := by rw [hf]; exact h
 show wpS (model prog w) A E s _ Q (SortSt.mk' (kindOf st) (arrOf st) (((pendingOf st).setIfInBounds i (sa, na + nb, pw)).eraseIdxIfInBounds (i + 1)) (gallopOf st) (failedOf st))
 rw [hP]
 have whole : (∀ p q x y, sa <= p -> p < sb -> sb <= q -> q < sb + nb -> (arrOf st)[p]? = some x -> (arrOf st)[q]? = some y -> le x y) -> Sg le (arrOf st) sa (sb + nb) := fun mid p q x y g1 g2 g3 hx hy => by
  by_cases z1 : q < sb
  ·exact sA p q x y g1 g2 z1 hx hy
  ·by_cases z2 : p < sb
   ·exact mid p q x y g1 z2 (by omega) g3 hx hy
   ·exact sB p q x y (by omega) g2 g3 hx hy
 refine wpS_bind (Zfr ask o rfl (hU.at hB0) hU (show sa + na <= (arrOf st).size by omega) (by omega) (by rw [<- esb]; exact sA) fun k hk1 hk2 hk3 => ?_)
 dsimp only
 refine ifS (fun z => wpS_pure (hT _ _ (Array.Perm.refl _) (fun _ _ => rfl) (whole fun p q x y g1 g2 g3 g4 hx hy => ?_))) fun z => ?_
 ·have z : na - k = 0 := by simpa using z
  have := hk2 (p - sa) x (by omega) (by rw [show sa + (p - sa) = p by omega]; exact hx)
  exact o.tr _ _ _ (by simpa using this) (sB sb q B0 y (ZbD _) g3 g4 hB0 hy)
 have z : na - k ≠ 0 := by simpa using z
 obtain ⟨LA, hLA⟩ := Zfu (xs := arrOf st) (i := sb - 1) (by omega)
 refine wpS_bind (ZdC (x := LA) (by rw [show sa + k + (na - k) - 1 = sb - 1 by omega]; exact hLA) (wpS_bind (Zfr ask o rfl (hU.at hLA) hU hz (by omega) sB fun m hk4 hk5 hk6 => ?_)))
 dsimp only
 refine ifS (fun z => wpS_pure (hT _ _ (Array.Perm.refl _) (fun _ _ => rfl) (whole fun p q x y g1 g2 g3 g4 hx hy => ?_))) fun z' => ?_
 ·have z : m = 0 := by simpa using z
  have := hk6 (q - sb) y (by omega) (by omega) (by rw [show sb + (q - sb) = q by omega]; exact hy)
  exact o.tr _ _ _ (sA p (sb - 1) x LA g1 (by omega) (by omega) hx hLA) (by simpa using this)
 have z' : m ≠ 0 := by simpa using z'
 have hLl : (arrOf st).toList.length = (arrOf st).size := ZcB
 obtain ⟨l0, r0, e0, n0⟩ := Zo2 (arrOf st).toList sa (by omega)
 have t0 : r0.length = (arrOf st).size - sa := by have := congrArg Zaw e0; rw [ZaC] at this; omega
 obtain ⟨P1, r1, e1, n1⟩ := Zo2 r0 k (by omega)
 have t1 : r1.length = r0.length - k := by have := congrArg Zaw e1; rw [ZaC] at this; omega
 obtain ⟨X, r2, e2, n2⟩ := Zo2 r1 (na - k) (by omega)
 have t2 : r2.length = r1.length - (na - k) := by have := congrArg Zaw e2; rw [ZaC] at this; omega
 obtain ⟨Y, r3, e3, n3⟩ := Zo2 r2 m (by omega)
 have t3 : r3.length = r2.length - m := by have := congrArg Zaw e3; rw [ZaC] at this; omega
 obtain ⟨S, l1, e4, n4⟩ := Zo2 r3 (nb - m) (by omega)
 subst e4 e3 e2 e1
 clear t0 t1 t2 t3 hLl
 have eP : (arrOf st).toList = l0 ++ (P1 ++ (X ++ (Y ++ (S ++ l1)))) := e0
 have eX : (arrOf st).toList = (l0 ++ P1) ++ (X ++ (Y ++ (S ++ l1))) := by rw [e0]; simp
 have eY : (arrOf st).toList = (l0 ++ P1 ++ X) ++ (Y ++ (S ++ l1)) := by rw [e0]; simp
 have eS : (arrOf st).toList = (l0 ++ P1 ++ X ++ Y) ++ (S ++ l1) := by rw [e0]; simp
 have eXY : (arrOf st).toList = (l0 ++ P1) ++ ((X ++ Y) ++ (S ++ l1)) := by rw [e0]; simp
 have nX : (l0 ++ P1).length = sa + k := by rw [ZaC, n0, n1]
 have nY : (l0 ++ P1 ++ X).length = sb := by rw [ZaC, nX, n2, ar2 esb hk1]
 have nS : (l0 ++ P1 ++ X ++ Y).length = sb + m := by rw [ZaC, nY, n3]
 have fP : ∀ x ∈ P1, le x B0 := fun x hx => by
  obtain ⟨j, hj, ej⟩ := Zk5 eP n0 hx
  rw [ZcC] at ej
  have := hk2 j x (n1 ▸ hj) ej
  simpa using this
 have fX : ∀ x ∈ X, le B0 x /\ le x LA := fun x hx => by
  obtain ⟨j, hj, ej⟩ := Zk5 eX nX hx
  rw [ZcC, ZbN] at ej
  have := hk3 (k + j) x (by omega) (by omega) ej
  exact ⟨o.of_not (by simpa using this), sA (sa + (k + j)) (sb - 1) x LA (by omega) (by omega) (by omega) ej hLA⟩
 have fY : ∀ y ∈ Y, le B0 y /\ le y LA := fun y hy => by
  obtain ⟨j, hj, ej⟩ := Zk5 eY nY hy
  rw [ZcC] at ej
  have := hk5 j y (by omega) ej
  exact ⟨sB sb (sb + j) B0 y (ZbD _) (by omega) (by omega) hB0 ej, o.of_not (by simpa using this)⟩
 have fS : ∀ y ∈ S, le B0 y /\ le LA y := fun y hy => by
  obtain ⟨j, hj, ej⟩ := Zk5 eS nS hy
  rw [ZcC, ZbN] at ej
  have := hk6 (m + j) y (by omega) (by omega) ej
  exact ⟨sB sb (sb + (m + j)) B0 y (ZbD _) (by omega) (by omega) hB0 ej, by simpa using this⟩
 have sPX : Srt le (P1 ++ X) := by
  have e : (arrOf st).toList = l0 ++ ((P1 ++ X) ++ (Y ++ (S ++ l1))) := by rw [e0]; simp
  have q := ZmA sA
  rw [show sb = sa + na from esb, ZjJ (n := na) e n0 (by rw [ZaC]; omega)] at q
  exact q
 have sYS : Srt le (Y ++ S) := by
  have e : (arrOf st).toList = (l0 ++ P1 ++ X) ++ ((Y ++ S) ++ l1) := by rw [e0]; simp
  have q := ZmA sB
  rw [ZjJ (n := nb) e nY (by rw [ZaC]; omega)] at q
  exact q
 rw [Srt, Za5] at sPX sYS
 obtain ⟨sP, sX, sPX⟩ := sPX
 obtain ⟨sY, sS, sYS⟩ := sYS
 have xl : ((arrOf st).extract (sa + k) sb).toList = X := by
  rw [ZhL]
  have := ZjJ (n := na - k) eX nX n2
  rw [ar2 esb hk1] at this
  exact this
 have yl : ((arrOf st).extract sb (sb + m)).toList = Y := by
  rw [ZhL]
  exact ZjJ eY nY n3
 have xz : ((arrOf st).extract (sa + k) sb).size = na - k := by rw [<- ZcB, xl, n2]
 have yz : ((arrOf st).extract sb (sb + m)).size = m := by rw [<- ZcB, yl, n3]
 have xu : In U ((arrOf st).extract (sa + k) sb) := fun x hx => hU x (by rw [xl] at hx; rw [eX]; simp [hx])
 have yu : In U ((arrOf st).extract sb (sb + m)) := fun x hx => hU x (by rw [yl] at hx; rw [eY]; simp [hx])
 have h0 : ∀ x y, ((arrOf st).extract sb (sb + m))[0]? = some x -> ((arrOf st).extract (sa + k) sb)[0]? = some y -> le x y := fun x y hx hy => by
  rw [<- ZcC, yl, <- ZnW (j := 0) eY nY (n3 ▸ ZbP z'), ZcC, Nat.add_zero, hB0] at hx
  cases hx
  rw [<- ZcC, xl] at hy
  exact (fX y (ZaB hy)).1
 have hl : ∀ x y, x ∈ ((arrOf st).extract sb (sb + m)).toList -> ((arrOf st).extract (sa + k) sb)[((arrOf st).extract (sa + k) sb).size - 1]? = some y -> le x y := fun x y hx hy => by
  rw [<- ZcC, xl, xz, <- ZnW (j := na - k - 1) eX nX (by rw [n2]; exact Nat.sub_lt (ZbP z) Nat.one_pos), ZcC, ar1 esb hk1 z, hLA] at hy
  cases hy
  rw [yl] at hx
  exact (fY x hx).2
 have fin : ∀ (r : Array Keyed) (g : Nat), Mgd le ((arrOf st).extract (sa + k) sb).toList ((arrOf st).extract sb (sb + m)).toList r.toList -> Q (failedOf st).isNone (SortSt.mk' (kindOf st) (List.foldl (fun (a : Array Keyed) (q : Keyed × Nat) => a.setIfInBounds (sa + k + q.2) q.1) (arrOf st) r.toList.zipIdx) P g (failedOf st)) := fun r g hm => by
  rw [xl, yl] at hm
  have rl := hm.1.length_eq
  clear xz yz nY nS z z' na1 nb1
  have ey := Zk6 (sa + k) r.toList (X ++ Y) 0 (arrOf st) (l0 ++ P1) (S ++ l1) eXY nX rl.symm
  obtain ⟨ys, hys⟩ : ∃ ys, List.foldl (fun (a : Array Keyed) (q : Keyed × Nat) => a.setIfInBounds (sa + k + q.2) q.1) (arrOf st) r.toList.zipIdx = ys := ⟨_, rfl⟩
  rw [hys] at ey ⊢
  have hR : ∀ x ∈ r.toList, x ∈ X \/ x ∈ Y := fun x hx => Zah.mp (hm.1.mem_iff.mp hx)
  rw [ZaC] at rl
  refine hh ys g ?_ (fun q hq => ?_) ?_
  ·rw [ZcE, ey, eXY]
   exact (hm.1.append_right _).append_left _
  ·rw [<- ZcC, <- ZcC]
   have E1 : ys.toList = (l0 ++ P1 ++ r.toList ++ S) ++ l1 := by rw [ey]; simp
   have E2 : (arrOf st).toList = (l0 ++ P1 ++ (X ++ Y) ++ S) ++ l1 := by rw [eXY]; simp
   rcases hq with hq | hq
   ·rw [ey, eXY]
    exact (Zaz (by omega)).trans (Zaz (by omega)).symm
   ·rw [E1, E2, Zay (by simp only [ZaC]; omega), Zay (by simp only [ZaC]; omega)]
    congr 1
    simp only [ZaC]
    omega
  ·refine ZpL o ?_
   have E1 : ys.toList = l0 ++ ((P1 ++ (r.toList ++ S)) ++ l1) := by rw [ey]; simp
   have := ZjJ (n := na + nb) E1 n0 (by simp only [ZaC]; omega)
   rw [show sb + nb = sa + (na + nb) by omega, this, Srt, Za5, Za5]
   refine ⟨sP, ⟨hm.2, sS, fun x hx y hy => ?_⟩, fun x hx y hy => ?_⟩
   ·rcases hR x hx with hx | hx
    ·exact o.tr _ _ _ (fX x hx).2 (fS y hy).2
    ·exact sYS x hx y hy
   ·rcases Zah.mp hy with hy | hy
    ·rcases hR y hy with hy | hy
     ·exact sPX x hx y hy
     ·exact o.tr _ _ _ (fP x hx) (fY y hy).1
    ·exact o.tr _ _ _ (fP x hx) (fS y hy).1
 refine ifS (fun _ => wpS_bind (Zkk ask o xu yu (by rw [xl]; exact sX) (by rw [yl]; exact sY) (by rw [xz]; exact ZbP z) (by rw [yz]; exact ZbP z') h0 hl rfl fun r st' hm hg => ?_)) fun _ => wpS_bind (Zkl ask o xu yu (by rw [xl]; exact sX) (by rw [yl]; exact sY) (by rw [xz]; exact ZbP z) (by rw [yz]; exact ZbP z') h0 hl rfl fun r st' hm hg => ?_)
 all_goals
  obtain ⟨g, rfl⟩ := hg
  exact wpS_bind (wpS_modify (wpS_bind (wpS_get (wpS_pure (fin r g hm)))))
end
end TS.Internal
namespace TS.Internal
open PySem PyProof.Rows
section
variable {le : Keyed -> Keyed -> Prop}
noncomputable def Rn (le : Keyed -> Keyed -> Prop) (xs : Array Keyed) : Nat -> List (Nat × Nat) -> Nat -> Prop
 | lo, [], hi => lo = hi
 | lo, r :: p, hi => r.1 = lo /\ 1 <= r.2 /\ Sg le xs lo (lo + r.2) /\ Rn le xs (lo + r.2) p hi
theorem Rn.app {xs : Array Keyed} : ∀ {p q : List (Nat × Nat)} {lo hi : Nat}, Rn le xs lo (p ++ q) hi ↔ ∃ m, Rn le xs lo p m /\ Rn le xs m q hi
 | [], q, lo, hi => ⟨fun h => ⟨lo, rfl, h⟩, fun ⟨m, h1, h2⟩ => by cases h1; exact h2⟩
 | r :: p, q, lo, hi => by
  constructor
  ·rintro ⟨h1, h2, h3, h4⟩
   obtain ⟨m, h5, h6⟩ := Rn.app.mp h4
   exact ⟨m, ⟨h1, h2, h3, h5⟩, h6⟩
  ·rintro ⟨m, ⟨h1, h2, h3, h5⟩, h6⟩
   exact ⟨h1, h2, h3, Rn.app.mpr ⟨m, h5, h6⟩⟩
theorem Rn.len {xs : Array Keyed} : ∀ {p : List (Nat × Nat)} {lo hi : Nat}, Rn le xs lo p hi -> lo + p.length <= hi
 | [], lo, hi, h => by cases h; exact ZbD _
 | r :: p, lo, hi, ⟨h1, h2, h3, h4⟩ => by
  have := Rn.len h4
  rw [Zao]
  omega
theorem Sg.congr {xs ys : Array Keyed} {lo hi : Nat} (s : Sg le xs lo hi) (h : ∀ q, lo <= q -> q < hi -> ys[q]? = xs[q]?) : Sg le ys lo hi := fun i j x y h1 h2 h3 hx hy => by
 rw [h i h1 (by omega)] at hx
 rw [h j (by omega) h3] at hy
 exact s i j x y h1 h2 h3 hx hy
theorem Rn.congr {xs ys : Array Keyed} : ∀ {p : List (Nat × Nat)} {lo hi : Nat}, Rn le xs lo p hi -> (∀ q, lo <= q -> q < hi -> ys[q]? = xs[q]?) -> Rn le ys lo p hi
 | [], lo, hi, h, _ => h
 | r :: p, lo, hi, ⟨h1, h2, h3, h4⟩, g => by
  have := Rn.len h4
  exact ⟨h1, h2, h3.congr fun q q1 q2 => g q q1 (by omega), h4.congr fun q q1 q2 => g q (by omega) q2⟩
noncomputable def pj (P : Array (Nat × Nat × Nat)) : List (Nat × Nat) := P.toList.map fun r => (r.1, r.2.1)
theorem ZnX (P : Array (Nat × Nat × Nat)) : (pj P).length = P.size := by unfold pj; rw [Zar, ZcB]
theorem ZmB (P : Array (Nat × Nat × Nat)) (r : Nat × Nat × Nat) : pj (P.push r) = pj P ++ [(r.1, r.2.1)] := by unfold pj; rw [ZcH, ZaZ]; rfl
theorem ZpM (P : Array (Nat × Nat × Nat)) (i pw : Nat) : pj (P.modify i fun x => (x.1, x.2.1, pw)) = pj P := by
 unfold pj
 rw [Array.toList_modify]
 apply Zbo
 intro k
 rw [ZaA, ZaA, List.getElem?_modify]
 cases P.toList[k]? with
 | none => rfl
 | some r =>
  obtain ⟨a, b, c⟩ := r
  by_cases e : i = k
  ·simp [e]
  ·simp [e]
end
section
variable {prog : Program} {w : World} {A : Around} {E : Value -> Shared -> Prop} {s : Shared} {le : Keyed -> Keyed -> Prop} {κ : SortKind} {U : List Keyed}
theorem Ziq (ask : Ask prog w A s κ U le) (o : Ord le) {xs : Array Keyed} {P : Array (Nat × Nat × Nat)} {g i hi : Nat} {Q : Bool -> SortSt -> Prop} (hU : In U xs) (hs : hi <= xs.size) (h1 : i + 1 < P.size) (hr : Rn le xs 0 (pj P) hi)
  (h : ∀ ys P' g', ys.Perm xs -> (∀ q, hi <= q -> ys[q]? = xs[q]?) -> Rn le ys 0 (pj P') hi -> P'.size + 1 = P.size -> Q true (SortSt.mk' κ ys P' g' none)) : wpS (model prog w) A E s (mergeAt' i) Q (SortSt.mk' κ xs P g none) := by
 obtain ⟨p1, q1, e1, n1⟩ := Zo2 P.toList i (by rw [ZcB]; omega)
 have t1 : q1.length = P.size - i := by have := congrArg Zaw e1; rw [ZaC, ZcB] at this; omega
 obtain ⟨r1, q2, rfl⟩ : ∃ r q, q1 = r :: q := by
  cases q1 with
  | nil => rw [ZaG] at t1; omega
  | cons r q => exact ⟨r, q, rfl⟩
 rw [Zao] at t1
 obtain ⟨r2, p2, rfl⟩ : ∃ r q, q2 = r :: q := by
  cases q2 with
  | nil => rw [ZaG] at t1; omega
  | cons r q => exact ⟨r, q, rfl⟩
 obtain ⟨sa, na, pw⟩ := r1
 obtain ⟨sb, nb, pv⟩ := r2
 have hr' := hr
 unfold pj at hr'
 rw [e1, ZaZ] at hr'
 obtain ⟨m, g1, ⟨rfl, na1, sA, ⟨hb, nb1, sB, g2⟩⟩⟩ := Rn.app.mp hr'
 dsimp only at na1 sA hb nb1 sB g1 g2
 have G1 := Rn.len g1
 have G2 := Rn.len g2
 refine Zkm ask o (st := SortSt.mk' κ xs P g none) (i := i) (sa := sa) (na := na) (sb := sb) (nb := nb) (pw := pw) (pv := pv) rfl rfl hU ?_ ?_ hb na1 nb1 (show sb + nb <= xs.size by omega) (by rw [hb]; exact sA) (by rw [hb]; exact sB) fun ys g' hp ho hsg => ?_
 ·show P[i]? = _
  rw [<- ZcC, e1, Zay (by omega), n1, ZbO]
  rfl
 ·show P[i + 1]? = _
  rw [<- ZcC, e1, Zay (by omega), n1, ZbQ]
  rfl
 have ep : ((P.setIfInBounds i (sa, na + nb, pw)).eraseIdxIfInBounds (i + 1)).toList = p1 ++ (sa, na + nb, pw) :: p2 := by
  rw [Array.toList_eraseIdxIfInBounds, ZcJ, e1, <- n1, Zbn _ _ (ZbD _), ZbO, List.set_cons_zero, List.eraseIdx_append_of_length_le (by omega), ZbQ]
  rfl
 refine h ys _ g' hp (fun q hq => ho q (.inr (by omega))) ?_ ?_
 ·unfold pj
  rw [ep, ZaZ]
  refine Rn.app.mpr ⟨sa, g1.congr fun q _ q2 => ho q (.inl q2), rfl, by show 1 <= na + nb; omega, ?_, ?_⟩
  ·show Sg le ys sa (sa + (na + nb))
   rw [show sa + (na + nb) = sb + nb by omega]
   exact hsg
  ·show Rn le ys (sa + (na + nb)) _ hi
   rw [show sa + (na + nb) = sb + nb by omega]
   rw [hb]
   exact g2.congr fun q q1 _ => ho q (.inr (by omega))
 ·have := congrArg Zaw ep
  rw [ZcB, ZaC, Zao] at this
  rw [this]
  have z := congrArg Zaw e1
  rw [ZcB, ZaC, Zao, Zao] at z
  omega
theorem wpS_sortRunsG (ask : Ask prog w A s κ U le) (o : Ord le) {xs₀ : Array Keyed} {g₀ : Nat} {Q : Unit -> SortSt -> Prop} (hU : In U xs₀)
  (h : ∀ st', (arrOf st').Perm xs₀ -> failedOf st' = none -> Srt le (arrOf st').toList -> Q () st') : wpS (model prog w) A E s sortRuns' Q (SortSt.mk' κ xs₀ #[] g₀ none) := by
 refine wpS_bind (wpS_get ?_)
 dsimp only
 refine wpS_bind (wpS_mono (wpS_forRange
  (I := fun x c st' => ∃ xs P g lo, st' = SortSt.mk' κ xs P g none /\ c = (none, lo) /\ xs.Perm xs₀ /\ Rn le xs 0 (pj P) lo /\ lo <= xs₀.size /\ min x xs₀.size <= lo)
  (Q := fun c st' => ∃ xs P g lo, st' = SortSt.mk' κ xs P g none /\ c = (none, lo) /\ xs.Perm xs₀ /\ Rn le xs 0 (pj P) xs₀.size) ?step ?fin ⟨xs₀, #[], g₀, 0, rfl, rfl, Array.Perm.refl _, rfl, by omega, by omega⟩) ?post)
 case fin =>
  rintro c st' ⟨xs, P, g, lo, rfl, rfl, hp, hr, h1, h2⟩
  have : lo = xs₀.size := by omega
  subst this
  exact ⟨xs, P, g, _, rfl, rfl, hp, hr⟩
 case step =>
  rintro x c st' _ hx ⟨xs, P, g, lo, rfl, rfl, hp, hr, h1, h2⟩
  have sz := hp.size_eq
  dsimp only
  refine ifS (fun z => wpS_pure ⟨xs, P, g, lo, rfl, rfl, hp, ?_⟩) fun z => ?_
  ·have : lo = xs₀.size := by omega
   rw [<- this]
   exact hr
  refine wpS_bind (ZiM ask o (st := SortSt.mk' κ xs P g none) rfl (hU.perm hp) (show lo + (xs₀.size - lo) <= xs.size by omega) (by omega) fun n ys hpm n1 n2 hsg => ?_)
  have hpm : Pm lo xs ys := hpm
  have szy := hpm.size
  dsimp only
  refine ifS (fun zq => wpS_bind (wpS_lift (wpAny_rule ⟨rfl, wpS_bind (ZhM ask o (st := SortSt.mk' κ ys P g none) rfl (hU.perm (hpm.1.trans hp)) (show lo + min (xs₀.size - lo) (minRun' xs₀.size xs₀.size 0) <= ys.size by omega) (show n <= min (xs₀.size - lo) (minRun' xs₀.size xs₀.size 0) from by
   have zq : n < minRun' xs₀.size xs₀.size 0 := zq
   omega) hsg fun zs hpz hsz => ?_)⟩))) fun zq => ?_
  rw [if_neg (by simp)]
  obtain ⟨m, hm⟩ : ∃ m, m = min (xs₀.size - lo) (minRun' xs₀.size xs₀.size 0) := ⟨_, rfl⟩
  have m1 : 1 <= m /\ lo + m <= xs₀.size := by
   have zq : n < minRun' xs₀.size xs₀.size 0 := zq
   omega
  have hpz : Pm lo xs zs := hpm.trans hpz
  have hsz : Sg le zs lo (lo + m) := by rw [hm]; exact hsz
  have hm' : min (xs₀.size - lo) ((sortPriv% PySem.Builtin.minRun) xs₀.size xs₀.size 0) = m := hm.symm
  rw [hm']
  rotate_left
  obtain ⟨m, zs, hm, hzs⟩ : ∃ m zs, m = n /\ zs = ys := ⟨_, _, rfl, rfl⟩
  have m1 : 1 <= m /\ lo + m <= xs₀.size := by omega
  have hpz : Pm lo xs zs := by rw [hzs]; exact hpm
  have hsz : Sg le zs lo (lo + m) := by rw [hzs, hm]; exact hsg
  rw [<- hzs, <- hm]
  all_goals
   have hrz : Rn le zs 0 (pj P) lo := hr.congr fun q _ q2 => hpz.2 q q2
   have hpp := hpz.1.trans hp
   refine wpS_bind (wpS_get ?_)
   dsimp only
   cases hb : (pendingOf (SortSt.mk' κ zs P g none)).back? with
   | none =>
    dsimp only
    refine wpS_bind (wpS_modify (wpS_pure ⟨zs, _, _, _, rfl, rfl, hpp, ?_, m1.2, by omega⟩))
    rw [ZmB]
    exact Rn.app.mpr ⟨lo, hrz, rfl, m1.1, hsz, rfl⟩
   | some r =>
    obtain ⟨s1, n1', p1⟩ := r
    dsimp only
    refine wpS_bind (wpS_mono (wpS_forRange
     (I := fun x c st' => ∃ zs P g, st' = SortSt.mk' κ zs P g none /\ c = (none, ()) /\ zs.Perm xs₀ /\ Rn le zs 0 (pj P) lo /\ Sg le zs lo (lo + m))
     (Q := fun c st' => ∃ zs P g, st' = SortSt.mk' κ zs P g none /\ c = (none, ()) /\ zs.Perm xs₀ /\ Rn le zs 0 (pj P) lo /\ Sg le zs lo (lo + m)) ?mstep (fun c st' hh => hh) ⟨zs, P, g, rfl, rfl, hpp, hrz, hsz⟩) ?mpost)
    case mpost =>
     rintro c st' ⟨zs, P, g, rfl, rfl, hpp, hrz, hsz⟩
     dsimp only
     refine wpS_bind (wpS_modify (wpS_bind (wpS_modify (wpS_pure ⟨zs, _, _, _, rfl, rfl, hpp, ?_, m1.2, by omega⟩))))
     rw [ZmB]
     refine Rn.app.mpr ⟨lo, ?_, rfl, m1.1, hsz, rfl⟩
     show Rn le zs 0 (pj (P.modify _ _)) lo
     rw [ZpM]
     exact hrz
    case mstep =>
     rintro y c st' _ hy ⟨zs, P, g, rfl, rfl, hpp, hrz, hsz⟩
     have szz := hpp.size_eq
     refine wpS_bind (wpS_get ?_)
     dsimp only
     by_cases zp : P.size > 1
     ·rw [if_pos zp]
      obtain ⟨r, hr2⟩ : ∃ r, P[P.size - 2]? = some r := ⟨_, getElem?_pos P (P.size - 2) (by omega)⟩
      obtain ⟨q1, q2, older⟩ := r
      rw [hr2]
      dsimp only
      refine ifS (fun _ => wpS_pure ⟨zs, P, g, rfl, rfl, hpp, hrz, hsz⟩) fun _ => ?_
      refine wpS_bind (Ziq ask o (hU.perm hpp) (by omega) (by omega) hrz fun ys P' g' hp' ho' hr' hz' => ?_)
      rw [if_neg (by simp)]
      exact wpS_pure ⟨ys, P', g', rfl, rfl, hp'.trans hpp, hr', hsz.congr fun q q1 _ => ho' q q1⟩
     ·rw [if_neg zp]
      exact wpS_pure ⟨zs, P, g, rfl, rfl, hpp, hrz, hsz⟩
 case post =>
  rintro c st' ⟨xs, P, g, lo, rfl, rfl, hp, hr⟩
  have sz := hp.size_eq
  have rl := Rn.len hr
  rw [ZnX] at rl
  dsimp only
  refine wpS_bind (wpS_mono (wpS_forRange
   (I := fun x c st' => ∃ xs P g, st' = SortSt.mk' κ xs P g none /\ c = (none, ()) /\ xs.Perm xs₀ /\ Rn le xs 0 (pj P) xs₀.size /\ (P.size <= 1 \/ P.size + x <= xs₀.size))
   (Q := fun c st' => ∃ xs P g, st' = SortSt.mk' κ xs P g none /\ c = (none, ()) /\ xs.Perm xs₀ /\ Rn le xs 0 (pj P) xs₀.size /\ P.size <= 1) ?fstep ?ffin ⟨xs, P, g, rfl, rfl, hp, hr, by omega⟩) ?fpost)
  case ffin =>
   rintro c st' ⟨xs, P, g, rfl, rfl, hp, hr, hh⟩
   exact ⟨xs, P, g, rfl, rfl, hp, hr, by omega⟩
  case fstep =>
   rintro x c st' _ hx ⟨xs, P, g, rfl, rfl, hp, hr, hh⟩
   have sz := hp.size_eq
   refine wpS_bind (wpS_get ?_)
   dsimp only
   refine ifS (fun z => wpS_pure ⟨xs, P, g, rfl, rfl, hp, hr, z⟩) fun z => ?_
   have z : ¬ P.size <= 1 := z
   refine wpS_bind (Ziq ask o (hU.perm hp) (ZbF sz.symm) ?_ hr fun ys P' g' hp' ho' hr' hz' => ?_)
   ·have ifl : ∀ (b : Prop) [Decidable b], (if b then P.size - 2 - 1 else P.size - 2) + 1 < P.size := fun b _ => by
     by_cases hb : b
     ·rw [if_pos hb]; omega
     ·rw [if_neg hb]; omega
    exact ifl _
   ·rw [if_neg (by simp)]
    exact wpS_pure ⟨ys, P', g', rfl, rfl, hp'.trans hp, hr', by omega⟩
  case fpost =>
   rintro c st' ⟨xs, P, g, rfl, rfl, hp, hr, hh⟩
   have sz := hp.size_eq
   refine wpS_pure (h _ hp rfl ?_)
   show Srt le xs.toList
   have q : Sg le xs 0 xs₀.size := by
    have pl := ZnX P
    cases hpj : pj P with
    | nil =>
     rw [hpj] at hr
     intro i j x y _ _ h3
     rw [<- (show 0 = xs₀.size from hr)] at h3
     omega
    | cons r p =>
     rw [hpj] at hr pl
     rw [Zao] at pl
     have : p = [] := Zbm (by omega)
     subst this
     obtain ⟨_, _, h3, h4⟩ := hr
     rw [<- (show 0 + r.2 = xs₀.size from h4)]
     exact h3
   have := ZmA q
   rw [Zbb, Zba (by rw [ZcB]; omega)] at this
   exact this
end
end TS.Internal
namespace L2.Internal
open PySem PySem.Spec PyProof.Rows PySem.W
section
variable {prog : Program} {w : World} {A : Around} {E : Value -> Shared -> Prop} {s : Shared} {le : Keyed -> Keyed -> Prop}
def ZmC (prog : Program) (w : World) (A : Around) (le : Keyed -> Keyed -> Prop) (vs : List Value) (s : Shared) : Prop :=
 ∃ κ, (∀ (Q : SortKind -> Shared -> Prop) (E : Value -> Shared -> Prop), Q κ s -> wpAny (model prog w) A (keyKind' vs.toArray) Q E s) /\ TS.Internal.Ask prog w A s κ (vs.zip vs) le
theorem Znq {a : Addr} {vs : List Value} {n : Nat} {P : PySem.Fin -> Shared -> Prop} (o : TS.Internal.Ord le) (ho : s.heap.get? a = some (seqObj "list" vs.toArray n)) (h2 : 2 <= vs.length) (hz : vs.length <= sizeLine)
  (hk : ∀ h', (∀ b o, b ≠ a -> s.heap.get? b = some o -> h'.get? b = some o) -> ZmC prog w A le vs { s with heap := h' })
  (hq : ∀ out : List Value, out.Perm vs -> out.Pairwise (fun x y => le (x, x) (y, y)) -> P (.done (.ret .none)) { s with heap := sortedHeap s.heap a vs (Za3 out) }) : wpAny (model prog w) A (Builtin.«list.sort» ⟨[.ref a], []⟩) P E s := by
 have lt : a < s.heap.objs.size := ZcN ho
 obtain ⟨e1, g1⟩ : ∃ e1, (s.heap.update a (Obj.mapSeq fun _ => (#[] : Array Value))).get? a = some (seqObj "list" #[] e1) := ⟨_, get?_update_seq ho fun _ => #[]⟩
 have old : ∀ b o, b ≠ a -> s.heap.get? b = some o -> (((s.heap.update a (Obj.mapSeq fun _ => (#[] : Array Value))).push (seqObj "tuple" vs.toArray 0)).push (seqObj "list" #[] 0)).get? b = some o := fun b o nb e =>
  ZcP _ (ZcP _ ((Heap.get?_update_ne _ _ _ _ nb).trans e))
 have g2 : (((s.heap.update a (Obj.mapSeq fun _ => (#[] : Array Value))).push (seqObj "tuple" vs.toArray 0)).push (seqObj "list" #[] 0)).get? a = some (seqObj "list" #[] e1) := ZcP _ (ZcP _ g1)
 obtain ⟨κ, k1, k2⟩ := hk _ old
 rw [list_sort_plain]
 refine wpAny_bind (listItems_at ho rfl (wpAny_bind (listUpdate_at ho rfl ?_ (by rw [ZaJ]; exact hz) (ZbE _))))
 refine wpAny_bind (seqEpoch_at g1 rfl (wpAny_bind (wpAny_newTuple ?_ hz)))
 refine wpAny_bind (wpAny_newList (wpAny_holding ?_) (ZbE _))
 dsimp only
 have n2 : ¬ vs.toArray.size < 2 := by rw [ZaJ]; omega
 rw [if_neg n2, if_neg n2]
 refine wpAny_bind (k1 _ _ ?_)
 have ez : (vs.toArray.zip vs.toArray).toList = vs.zip vs := by simp
 refine wpAny_bind (wpAny_mono (TS.Internal.wpS_sortRunsG (xs₀ := vs.toArray.zip vs.toArray) (g₀ := 7) (Q := fun _ st' => (arrOf st').Perm (vs.toArray.zip vs.toArray) /\ failedOf st' = none /\ TS.Internal.Srt le (arrOf st').toList) k2 o (fun x hx => by rw [ez] at hx; exact hx) fun st' a1 a2 a3 => ⟨a1, a2, a3⟩) ?_ fun _ _ e => e)
 rintro ⟨⟨⟩, st'⟩ s' ⟨rfl, hp, hf, hs⟩
 dsimp only
 have hl : (arrOf st').toList.Perm (vs.zip vs) := by rw [<- ez]; exact ZcE.mp hp
 have eo : (arrOf st').map (·.2) = Za3 ((arrOf st').toList.map Prod.snd) := by
  apply Array.toList_inj.mp
  simp
 rw [eo]
 have po : ((arrOf st').toList.map Prod.snd).Perm vs := by
  have := hl.map Prod.snd
  rwa [List.map_snd_zip (ZbD _)] at this
 have pw : ((arrOf st').toList.map Prod.snd).Pairwise (fun x y => le (x, x) (y, y)) := by
  rw [Zbp]
  refine List.Pairwise.imp_of_mem (fun {x y} hx hy h => ?_) hs
  have dx := (mem_zip_self (hl.mem_iff.mp hx)).1
  have dy := (mem_zip_self (hl.mem_iff.mp hy)).1
  obtain ⟨x1, x2⟩ := x
  obtain ⟨y1, y2⟩ := y
  cases (show x1 = x2 from dx)
  cases (show y1 = y2 from dy)
  exact h
 have hz2 : (Za3 ((arrOf st').toList.map Prod.snd)).size = vs.length := by rw [ZaJ]; exact po.length_eq
 refine wpAny_bind (seqEpoch_at g2 rfl (wpAny_bind (listUpdate_at g2 rfl ?_ (ZbE _) (by rw [hz2]; exact ZbL hz))))
 rw [hf]
 simp only [bne_self_eq_false, Bool.false_eq_true, if_false]
 exact wpAny_pure (hq _ po pw)
theorem ZpN {α : Type} {R : α -> α -> Prop} : ∀ {l : List α}, l.length < 2 -> l.Pairwise R
 | [], _ => .nil
 | [x], _ => by simp
 | _ :: _ :: _, h => by simp only [Zao] at h; omega
theorem Zir {r : Addr} {F : Heap -> Nat -> List Value -> Prop} {Q : Value -> Shared -> Prop} (o : TS.Internal.Ord le) (hcol : ∀ R : List Value -> Shared -> Prop, (∀ h1 tk vs, F h1 tk vs -> R vs { s with heap := h1, toks := tk }) -> wpAny (model prog w) A.in1 (collect (.ref r)) R E s)
  (hF : ∀ h1 tk vs, F h1 tk vs -> vs.length <= sizeLine /\ (2 <= vs.length -> ∀ h', (∀ b o, h1.get? b = some o -> h'.get? b = some o) -> ZmC prog w A.in1.in1 le vs { s with heap := h', toks := tk }))
  (hq : ∀ h1 tk vs out, F h1 tk vs -> out.Perm vs -> out.Pairwise (fun x y => le (x, x) (y, y)) -> Q (.ref h1.objs.size) { s with heap := sortedHeap (h1.push (seqObj "list" vs.toArray 0)) h1.objs.size vs (Za3 out), toks := tk }) : wpAny (model prog w) A (call (.builtin "sorted") [.ref r]) Q E s := by
 refine Calls.call_function_entry kind_sorted plain_sorted entry_sorted (args_sorted1 _) ?_
 unfold Builtin.«sorted»
 refine wpAny_bind (m := checkCount "sorted" 1 1 _) (wpAny_pure ?_)
 refine wpAny_bind (hcol _ fun h1 tk vs hf => ?_)
 obtain ⟨hz, hs⟩ := hF h1 tk vs hf
 refine wpAny_bind (wpAny_newList ?_ hz)
 have g1 : (h1.push (seqObj "list" vs.toArray 0)).get? h1.objs.size = some (seqObj "list" vs.toArray 0) := ZcO _ rfl
 refine wpAny_bind (wpAny_holding (wpAny_call_entry slot_list_sort ⟨_, g1, rfl⟩ entry_list_sort ?body (args_list_sort _)))
 case body =>
  by_cases h2 : 2 <= vs.length
  ·exact Znq (s := { s with heap := h1.push (seqObj "list" vs.toArray 0), toks := tk }) o g1 h2 hz (fun h' k => hs h2 h' fun b u e => k b u (Zbz (ZcN e)) (ZcP _ e)) fun out po pw => ⟨_, rfl, wpAny_pure ⟨_, rfl, hq h1 tk vs out hf po pw⟩⟩
  ·exact Zmt (s := { s with heap := h1.push (seqObj "list" vs.toArray 0), toks := tk }) g1 (by omega) ⟨_, rfl, wpAny_pure ⟨_, rfl, hq h1 tk vs vs hf (.refl _) (ZpN (by omega))⟩⟩
def leN (x y : Keyed) : Prop := numOf x.1 <= numOf y.1
theorem Zrx : TS.Internal.Ord leN := ⟨fun x y => Int.le_total _ _, fun _ _ _ => Int.le_trans⟩
theorem ZmD {vs : List Value} {ns : List Int} (hI : IntsAre vs ns) (h2 : 2 <= vs.length) : ZmC prog w A leN vs s := by
 refine ⟨oneType', fun Q E q => ?_, fun x y hx hy E Q st hk h => ?_⟩
 ·obtain ⟨v₁, v₂, rest, rfl⟩ : ∃ v₁ v₂ rest, vs = v₁ :: v₂ :: rest := by
   match vs, h2 with
   | v₁ :: v₂ :: rest, _ => exact ⟨v₁, v₂, rest, rfl⟩
  rw [keyKind_ints hI]
  exact wpAny_pure q
 ·obtain ⟨n, t, ex⟩ := hI.all _ (mem_zip_self hx).2
  obtain ⟨m, u, ey⟩ := hI.all _ (mem_zip_self hy).2
  rw [lt'_eq]
  refine wpS_bind (wpS_get ?_)
  rw [hk, keyLt'_oneType, ex, ey]
  refine wpS_bind (wpS_lift (wpAny_attempt (oneLt_int ⟨rfl, ?_⟩)))
  refine wpS_pure (h _ ?_)
  unfold leN
  rw [ex, ey]
  show decide (n < m) = true ↔ ¬ m <= n
  rw [decide_eq_true_eq]
  exact Int.not_le.symm
theorem pwN {vs : List Value} (h : vs.Pairwise (fun x y => leN (x, x) (y, y))) : (vs.map numOf).Pairwise (· <= ·) := by
 rw [Zbp]
 exact h
end
section
variable {X : Cx}
theorem Zkn : ∀ {ns : List Int} {us : List Value}, Zem (ns.map V.int) us -> IntsAre us ns
 | [], _, .nil => .nil
 | x :: ns, _, .cons h r => by
  obtain ⟨t, e⟩ := h
  cases e
  exact .cons x t (Zkn r)
theorem ZhN : ∀ {ns : List Int} {us : List Value}, IntsAre us ns -> Zem (ns.map V.int) us
 | _, _, .nil => .nil
 | _, _, .cons y t r => .cons ⟨t, rfl⟩ (ZhN r)
theorem Zhb {vs out : List Value} {ns : List Int} (hI : IntsAre vs ns) (p : out.Perm vs) : IntsAre out (out.map numOf) /\ (out.map numOf).Perm ns := by
 refine ⟨intsAre_map out fun v hv => hI.all v (p.mem_iff.mp hv), ?_⟩
 have := p.map numOf
 rwa [hI.nums] at this
theorem ZjK : ZgD X (.builtin "sorted") (fun xs H Q => ∃ (a : Addr) (ns : List Int), xs = [.ref a] /\ SqL X.K H a (ns.map V.int) /\ ∀ (l : Addr) (ns' : List Int), H l = none -> ns'.Perm ns -> ns'.Pairwise (· <= ·) -> Q (.ref l) (upd H l (.lst (ns'.map V.int)))) := by
 intro pins s σ H xs us Q I r h
 obtain ⟨a, ns, rfl, hq, q⟩ := h
 obtain ⟨u, rfl, ru⟩ := Zhc r
 cases ru
 obtain ⟨its, rv, p, hz⟩ := I.list hq
 have l1 := rv.length
 rw [Zar] at hz l1
 have hI := Zkn rv
 refine Zir (le := leN) (F := fun h1 tk vs => h1 = (s.heap.push (seqObj "list" #[] 0)).update s.heap.objs.size (Obj.mapSeq (· ++ its.toArray)) /\ tk = s.toks /\ vs = its) Zrx (fun R hR => collect_list p.isList (hR _ _ _ ⟨rfl, rfl, rfl⟩) (by omega)) (fun h1 tk vs hf => ?_) fun h1 tk vs out hf po pw => ?_
 ·obtain ⟨rfl, rfl, rfl⟩ := hf
  exact ⟨by omega, fun h2 h' _ => ZmD hI h2⟩
 ·obtain ⟨rfl, rfl, rfl⟩ := hf
  obtain ⟨i1, i2⟩ := Zhb hI po
  have z1 : ((s.heap.push (seqObj "list" #[] 0)).update s.heap.objs.size (Obj.mapSeq (· ++ vs.toArray))).objs.size = s.heap.objs.size + 1 := by rw [Heap.size_update, size_push']
  rw [z1]
  obtain ⟨e, he⟩ := sortedAll_at s.heap vs (Za3 out)
  refine ⟨.ref (s.heap.objs.size + 1), _, I.laid (t' := s.toks) (a := s.heap.objs.size + 1) (o := .lst ((out.map numOf).map V.int)) (fun _ _ => sortedAll_old) (Nat.le_succ _) ⟨?_, out, e, ZhN i1, he⟩, rfl, q _ _ (I.hok.fresh (Nat.le_succ _)) i2 (pwN pw)⟩
  rw [Zar, i2.length_eq]
  exact hz
theorem ZlE {P : Nat -> Value -> Prop} {ks : List Int} {acc : Array Value} (h : ItemsOf P acc ks.length) (hp : ∀ i v, P i v -> ∃ k t, ks[i]? = some k /\ v = .int k t) : IntsAre acc.toList ks := by
 have h1 : IntsAre acc.toList (acc.toList.map numOf) := intsAre_map _ fun v hv => by
  obtain ⟨i, hi⟩ := Zbe.mp hv
  rw [ZcC] at hi
  obtain ⟨k, t, _, e⟩ := hp i v (h.2 i v hi)
  exact ⟨k, t, e⟩
 have e : acc.toList.map numOf = ks := by
  apply Zbo
  intro i
  rw [ZaA, ZcC]
  cases hi : acc[i]? with
  | none =>
   have := Array.getElem?_eq_none_iff.mp hi
   have h2 := h.1
   rw [Zbq (by omega)]
   rfl
  | some v =>
   obtain ⟨k, t, e1, e2⟩ := hp i v (h.2 i v hi)
   rw [e1, e2]
   rfl
 rw [e] at h1
 exact h1
theorem ZiN (hc : X.calm = true) : ZgD X (.builtin "sorted") (fun xs H Q => ∃ (d : Addr) (kvs : List (Key × V)) (ks : List Int), xs = [.ref d] /\ H d = some (.dK kvs) /\ kvs.map Prod.fst = ks.map Sum.inl /\ ∀ (l : Addr) (ns' : List Int), H l = none -> ns'.Perm ks -> ns'.Pairwise (· <= ·) -> Q (.ref l) (upd H l (.lst (ns'.map V.int)))) := by
 intro pins s σ H xs us Q I rx h
 obtain ⟨d, kvs, ks, rfl, ed, hks, q⟩ := h
 obtain ⟨u, rfl, ru⟩ := Zhc rx
 cases ru
 obtain ⟨hz, hs, vs, kv, o, es, ep, g1, g2, g3, g4⟩ := I.hok d _ ed
 have lv := ZnV kv
 have lk : kvs.length = ks.length := by have := congrArg Zaw hks; rw [Zar, Zar] at this; exact this
 have hh : X.A.in1.handled = none := I.ok.hd hc
 refine Zir (le := leN) (F := fun h1 tk us => (∀ b o, s.heap.get? b = some o -> h1.get? b = some o) /\ IntsAre us ks) Zrx (fun R hR => kdu_collect (A := X.A.in1) (kdl_dict (knd := Zd4 X.prog X.w) (kvs := vs) (ep := ep) hs) hh ⟨o, es, g1, g2, g3, g4⟩ (by rw [<- lv]; exact hz) fun h1 tk acc kp ia => hR h1 tk acc.toList ⟨kp, ?_⟩) (fun h1 tk us hf => ⟨?_, fun h2 h' _ => ZmD hf.2 h2⟩) fun h1 tk us out hf po pw => ?_
 ·refine ZlE (by rw [<- lk, lv]; exact ia) fun i v hp => ?_
  obtain ⟨k, x, e1, e2⟩ := hp
  have hi : i < kvs.length := by have := (Zaj.mp e1).1; omega
  obtain ⟨⟨k', x'⟩, f1, f2, f3⟩ := ZpJ kv (ZaQ hi)
  rw [e1] at f1
  cases f1
  have hk : (kvs.map Prod.fst)[i]? = some k := by rw [ZaA, ZaQ hi]; exact congrArg some f2
  rw [hks, ZaA] at hk
  obtain ⟨n, hn, e⟩ := ZbV.mp hk
  rcases ZdY e2 with ⟨i', t, z1, z2⟩ | ⟨y, t, z1, z2⟩
  ·rw [<- e] at z1
   cases z1
   exact ⟨_, t, hn, z2⟩
  ·rw [<- e] at z1
   cases z1
 ·rw [hf.2.length, <- lk]
  exact hz
 ·obtain ⟨kp, hI⟩ := hf
  obtain ⟨i1, i2⟩ := Zhb hI po
  have g : (h1.push (seqObj "list" us.toArray 0)).get? h1.objs.size = some (seqObj "list" us.toArray 0) := ZcO _ rfl
  obtain ⟨e, he⟩ := sortedHeap_at (out := Za3 out) g
  have nB : ∀ b u, s.heap.get? b = some u -> b ≠ h1.objs.size := fun b u e => Zbz (ZcN (kp b u e))
  have HB : H h1.objs.size = none := by
   cases e : H h1.objs.size with
   | none => rfl
   | some o =>
    obtain ⟨u, eu⟩ : ∃ u, s.heap.get? h1.objs.size = some u := (I.hok _ _ e).there
    exact absurd rfl (nB _ u eu)
  refine ⟨.ref h1.objs.size, upd H h1.objs.size (.lst ((out.map numOf).map V.int)), ?_, rfl, q _ _ HB i2 (pwN pw)⟩
  refine I.more (t' := tk) (fun b u eb => ?_) (fun b o eb => ?_) (fun b u eb hb => ?_) fun b o eb hb => ?_
  ·rw [sortedHeap_old (nB b u eb) (ZcN (ZcP _ (kp b u eb)))]
   exact ZcP _ (kp b u eb)
  ·rw [Zc6 (fun z => by rw [z, HB] at eb; cases eb)]
   exact eb
  ·rw [Zc6 (nB b u eb)]
   exact hb
  ·by_cases z : b = h1.objs.size
   ·subst z
    rw [ZcX] at eb
    cases eb
    refine ⟨?_, out, e, ZhN i1, he⟩
    rw [Zar, i2.length_eq, <- lk]
    exact hz
   ·rw [Zc6 z, hb] at eb
    cases eb
theorem ZpO : bootBuiltins "set" = some (.type "set") := by decide +kernel
def ZmE (prog : Program) (w : World) (a : Addr) (n : Nat) (h : Heap) : Prop := ∃ S, h.SetOf (intKind prog w) a S n
theorem Zk7 : ∀ (ns acc : List Int), (acc ++ ns).Nodup -> ns.foldl step_dedup acc = acc ++ ns
 | [], acc, _ => by simp
 | n :: ns, acc, h => by
  rw [ZaR]
  have hn : acc.any (· == n) = false := by
   rw [List.any_eq_false]
   intro x hx z
   have e : x = n := by simpa using z
   rw [Zbr] at h
   exact h.2.2 x hx n Zae e
  have e : step_dedup acc n = acc ++ [n] := by unfold step_dedup; rw [hn]; rfl
  rw [e, Zk7 ns (acc ++ [n]) (by rw [Za1]; exact h), Za1]
  rfl
theorem Zko {ns : List Int} (h : ns.Nodup) : firstMet (fun i => ns.getD i 0) ns.length = ns := by
 unfold firstMet
 have e : (Zaa ns.length).map (fun i => ns.getD i 0) = ns := by
  apply Zbo
  intro i
  rw [ZaA]
  by_cases hi : i < ns.length
  ·rw [List.getElem?_range hi, ZaQ hi]
   simp [hi]
  ·rw [Zbq (by simp; omega), Zbq (by omega)]
   rfl
 rw [e, Zk7 ns [] h]
 rfl
theorem ZmF (hc : X.calm = true) : ZgD X (.type "set") (fun xs H Q => ∃ (a : Addr) (ns : List Int), xs = [.ref a] /\ SqL X.K H a (ns.map V.int) /\ ns.Nodup /\ ns.length + 1 < 4096 /\ ∀ r, H r = none -> Q (.ref r) (upd H r (.ext (ZmE X.prog X.w r ns.length)))) := by
 intro pins s σ H xs us Q I r h
 obtain ⟨a, ns, rfl, hq, hnd, hlt, q⟩ := h
 obtain ⟨u, rfl, ru⟩ := Zhc r
 cases ru
 obtain ⟨its, rv, p, hz⟩ := I.list hq
 have l1 := rv.length
 rw [Zar] at hz l1
 have hI := Zkn rv
 have hh : X.A.in1.handled = none := I.ok.hd hc
 refine call_set_list (items := its.toArray) (ns := ns) hh p.isList hI (by rw [ZaJ]; unfold scanBound; omega) fun h' tk hS kp => ?_
 rw [show its.toArray.size = ns.length from by rw [ZaJ, l1], Zko hnd] at hS
 refine ⟨.ref s.heap.objs.size, _, I.laid (t' := tk) (a := s.heap.objs.size) (o := .ext (ZmE X.prog X.w s.heap.objs.size ns.length)) (fun b o e => kp b o (ZcN e) e) (ZbD _) ⟨⟨_, hS⟩, ?_, fun h1 h2 z k => ?_⟩, rfl, q _ (I.hok.fresh (ZbD _))⟩
 ·obtain ⟨o, _, _, _, g, _⟩ := hS
  exact ⟨o, g⟩
 ·obtain ⟨S, o, es, ep, t, g, rest⟩ := z
  exact ⟨S, o, es, ep, t, k _ g, rest⟩
theorem Zkp : ZgD X (.builtin "len") (fun xs H Q => ∃ (a : Addr) (n : Nat), xs = [.ref a] /\ H a = some (.ext (ZmE X.prog X.w a n)) /\ n < 4096 /\ Q (.int n) H) := by
 intro pins s σ H xs us Q I r h
 obtain ⟨a, n, rfl, ha, hn, q⟩ := h
 obtain ⟨u, rfl, ru⟩ := Zhc r
 cases ru
 obtain ⟨⟨S, o, es, ep, t, g, hex, hd, _, _, _, hf, he⟩, _, _⟩ := I.hok a _ ha
 subst he
 refine call_len_set g hex hd hf (Int.lt_of_lt_of_le (b := 4096) (by omega) (by decide)) ⟨.int es.size, H, I.tok _, ⟨_, rfl⟩, q⟩
def ZqS (K : PySem.W.Frag) : R2 := fun x y H Q => ∃ p xs ds d, y = .ref p /\ SqL K H p xs /\ Ats K H xs ds /\ At K H x d /\ (∀ e ∈ ds, ZfU e d = true /\ ZgI e <= 100) /\ (∃ (j : Nat) (e : Dt), ds[j]? = some e /\ eqD e d = true) /\ Q (.bl false) H
theorem ZoA {k : Nat} (hr : ZgC k X.A) : OpR X (compareOp .NotIn) (ZqS X.K) := by
 intro pins s σ H x y v u Q I rx ry h
 obtain ⟨p, xs, ds, d, rfl, hq, hs, hx, hc, ⟨j0, e0, hj0, he0⟩, q⟩ := h
 cases ry
 have hu := hr.un
 obtain ⟨its, r, pl, hz⟩ := I.list hq
 have one : ∀ {j : Nat} {z : V} {w : Value}, xs[j]? = some z -> ZdU z w -> ∃ e, ds[j]? = some e /\ SeqAt.EqAt X.A.in1 s w v (eqD e d) := fun {j z w} hz rz => by
  obtain ⟨e, he, ha⟩ := hs.get hz
  have := hc e (ZaB he)
  exact ⟨e, he, ZkU I 100 X.A.in1 rz rx ha hx this.1 this.2 (by show X.A.units + 1 + 100 < cLine; omega)⟩
 let E : Value -> Prop := fun w => ∃ (j : Nat) (z : V) (e : Dt), xs[j]? = some z /\ ZdU z w /\ ds[j]? = some e /\ eqD e d = true
 haveI : DecidablePred E := fun _ => Classical.propDecidable _
 refine SeqAt.notIn_listAt (fun w => decide (E w)) pl.isList (fun w hw => ?_) ⟨.bl false, H, I, ?_, q⟩
 ·by_cases hE : E w
  ·obtain ⟨j, z, e, h1, h2, h3, h4⟩ := id hE
   obtain ⟨e', h5, h6⟩ := one h1 h2
   rw [h3] at h5
   cases h5
   rw [h4] at h6
   show SeqAt.EqAt _ _ _ _ (decide (E w))
   rw [decide_eq_true hE]
   exact h6
  ·obtain ⟨j, z, h1, h2⟩ := ZiJ r (by simpa using hw)
   obtain ⟨e', h5, h6⟩ := one h1 h2
   have : eqD e' d = false := by
    cases h : eqD e' d with
    | false => rfl
    | true => exact absurd ⟨j, z, e', h1, h2, h5, h⟩ hE
   rw [this] at h6
   show SeqAt.EqAt _ _ _ _ (decide (E w))
   rw [decide_eq_false hE]
   exact h6
 ·have hl := hs.length
  have hjl := (Zaj.mp hj0).1
  obtain ⟨z, hz0⟩ : ∃ z, xs[j0]? = some z := ⟨_, ZaQ (by omega)⟩
  obtain ⟨w, hw, rw_⟩ := ZiK r hz0
  have : its.toArray.any (fun w => decide (E w)) = true := by
   simp only [List.any_toArray, List.any_eq_true, decide_eq_true_eq]
   exact ⟨w, hw, j0, z, e0, hz0, rw_, hj0, he0⟩
  rw [this]
  rfl
end
end L2.Internal
namespace K34.Internal
open PySem L2.Internal
theorem l0 {P : List Value -> Prop} (h : P []) : ∀ us : List Value, us.length = 0 -> P us := fun us e => by rw [Zbm e]; exact h
theorem lS {n : Nat} {P : List Value -> Prop} (h : ∀ a, ∀ us : List Value, us.length = n -> P (a :: us)) : ∀ us : List Value, us.length = n + 1 -> P us := fun us e => by
 cases us with
 | nil => cases e
 | cons a t => exact h a t (Nat.succ.inj e)
noncomputable def top (i : Nat) : Stmt := PySem.Challenge.pw_flowkinds_k34_a_way_by_itself.main.body.getD i (.Pass ⟨0, 0, 0, 0⟩)
noncomputable abbrev ZdQ : Stmt := top 10
noncomputable abbrev Zkq : Stmt := top 12
noncomputable abbrev Zef : Stmt := top 13
noncomputable abbrev Zeu : Stmt := top 14
noncomputable abbrev Zeg : Stmt := top 15
noncomputable abbrev Zfv : Stmt := top 18
noncomputable abbrev ZeU : Stmt := top 21
noncomputable abbrev Zev : Stmt := top 22
noncomputable abbrev Zew : Stmt := top 23
noncomputable abbrev ZeV : Stmt := top 24
noncomputable abbrev Ze5 : Stmt := top 25
noncomputable abbrev Zeh : Stmt := top 26
noncomputable abbrev Zex : Stmt := top 27
noncomputable abbrev Zey : Stmt := top 28
noncomputable abbrev Ze6 : Stmt := top 29
noncomputable abbrev Zez : Stmt := top 30
noncomputable abbrev ZeW : Stmt := top 31
noncomputable abbrev Zei : Stmt := top 32
noncomputable abbrev Zej : Stmt := top 33
noncomputable abbrev ZdK : Stmt := top 34
noncomputable abbrev ZeX : Stmt := top 35
noncomputable abbrev Ze7 : Stmt := top 36
noncomputable abbrev ZiO : Stmt := top 37
noncomputable abbrev ZdR : Stmt := ZdM (top 2) 0
noncomputable abbrev Zd1 : Stmt := ZdM (top 3) 0
noncomputable abbrev ZeA : Stmt := ZdM (top 4) 0
noncomputable abbrev ZdD : Stmt := ZdM (top 5) 0
noncomputable abbrev Zek : Stmt := ZdM (top 5) 1
noncomputable abbrev ZdE : Stmt := ZdM (top 6) 0
noncomputable abbrev ZdV : Stmt := ZdM (top 6) 1
noncomputable abbrev ZdF : Stmt := ZdM (top 7) 0
noncomputable abbrev ZdW : Stmt := ZdM (top 7) 1
noncomputable abbrev ZdI : Stmt := ZdM (top 8) 0
noncomputable abbrev ZeB : Stmt := ZdM (top 8) 1
noncomputable abbrev ZdL : Stmt := ZdM (top 9) 0
noncomputable abbrev Zel : Stmt := ZdM (top 9) 1
noncomputable abbrev ZeC : Stmt := ZdM (top 9) 2
noncomputable abbrev ZeY : Stmt := ZdM (top 9) 3
noncomputable abbrev ZeD : Stmt := ZdM (top 9) 4
noncomputable abbrev Zd2 : Stmt := ZdM (top 17) 0
noncomputable abbrev Zdy : Stmt := ZdM (top 19) 0
noncomputable abbrev Zd3 : Stmt := ZdM (top 19) 1
noncomputable abbrev ZdS : Stmt := ZdM (top 19) 2
noncomputable abbrev Zds : Stmt := ZdM (top 19) 3
noncomputable abbrev Zdt : Stmt := ZdM (top 19) 4
noncomputable abbrev Zdu : Stmt := ZdM (top 19) 5
noncomputable abbrev Zdv : Stmt := ZdM (top 19) 6
set_option genInjectivity false in
set_option genSizeOf false in
structure Txt (K : PySem.W.Frag) (mg : Str -> Option Value) where
 a_uses_by_point : Addr
 fd_uses_by_point : FuncData
 F_uses_by_point : Fun K "uses_by_point" "uses_by_point" ZdQ a_uses_by_point fd_uses_by_point
 b_uses_by_point : ZdH K fd_uses_by_point ["board"] []
 m_uses_by_point : mg "uses_by_point" = some (.ref a_uses_by_point)
 k_uses_by_point : Zb8 K (.ref a_uses_by_point) = true
 a_way : Addr
 fd_way : FuncData
 F_way : Fun K "way" "way" Zkq a_way fd_way
 b_way : ZdH K fd_way ["log", "k"] []
 m_way : mg "way" = some (.ref a_way)
 k_way : Zb8 K (.ref a_way) = true
 a_needed_rows : Addr
 fd_needed_rows : FuncData
 F_needed_rows : Fun K "needed_rows" "needed_rows" Zef a_needed_rows fd_needed_rows
 b_needed_rows : ZdH K fd_needed_rows ["log", "k"] []
 m_needed_rows : mg "needed_rows" = some (.ref a_needed_rows)
 k_needed_rows : Zb8 K (.ref a_needed_rows) = true
 a_named_rows : Addr
 fd_named_rows : FuncData
 F_named_rows : Fun K "named_rows" "named_rows" Zeu a_named_rows fd_named_rows
 b_named_rows : ZdH K fd_named_rows ["row"] []
 m_named_rows : mg "named_rows" = some (.ref a_named_rows)
 k_named_rows : Zb8 K (.ref a_named_rows) = true
 a_with_places : Addr
 fd_with_places : FuncData
 F_with_places : Fun K "with_places" "with_places" Zeg a_with_places fd_with_places
 b_with_places : ZdH K fd_with_places ["row", "places"] []
 m_with_places : mg "with_places" = some (.ref a_with_places)
 k_with_places : Zb8 K (.ref a_with_places) = true
 a_settled : Addr
 fd_settled : FuncData
 F_settled : Fun K "settled" "settled" Zfv a_settled fd_settled
 b_settled : ZdH K fd_settled ["board"] []
 m_settled : mg "settled" = some (.ref a_settled)
 k_settled : Zb8 K (.ref a_settled) = true
 a_pick : Addr
 fd_pick : FuncData
 F_pick : Fun K "_law_pick" "_law_pick" ZeU a_pick fd_pick
 b_pick : ZdH K fd_pick ["_law_cell", "_law_turn", "_law_many"] []
 m_pick : mg "_law_pick" = some (.ref a_pick)
 k_pick : Zb8 K (.ref a_pick) = true
 a_words : Addr
 fd_words : FuncData
 F_words : Fun K "_law_words" "_law_words" Zev a_words fd_words
 b_words : ZdH K fd_words ["_law_cell"] []
 m_words : mg "_law_words" = some (.ref a_words)
 k_words : Zb8 K (.ref a_words) = true
 a_named : Addr
 fd_named : FuncData
 F_named : Fun K "_law_named" "_law_named" Zew a_named fd_named
 b_named : ZdH K fd_named ["_law_words_here", "_law_cell", "_law_spots"] []
 m_named : mg "_law_named" = some (.ref a_named)
 k_named : Zb8 K (.ref a_named) = true
 a_make : Addr
 fd_make : FuncData
 F_make : Fun K "_law_make" "_law_make" ZeV a_make fd_make
 b_make : ZdH K fd_make ["_law_words_here", "_law_cell", "_law_many"] []
 m_make : mg "_law_make" = some (.ref a_make)
 k_make : Zb8 K (.ref a_make) = true
 a_use : Addr
 fd_use : FuncData
 F_use : Fun K "_law_use" "_law_use" Ze5 a_use fd_use
 b_use : ZdH K fd_use ["_law_words_here", "_law_cell", "_law_many"] []
 m_use : mg "_law_use" = some (.ref a_use)
 k_use : Zb8 K (.ref a_use) = true
 a_things : Addr
 fd_things : FuncData
 F_things : Fun K "_law_things" "_law_things" Zeh a_things fd_things
 b_things : ZdH K fd_things ["_law_script"] []
 m_things : mg "_law_things" = some (.ref a_things)
 k_things : Zb8 K (.ref a_things) = true
 a_using : Addr
 fd_using : FuncData
 F_using : Fun K "_law_using" "_law_using" Zex a_using fd_using
 b_using : ZdH K fd_using ["_law_told"] []
 m_using : mg "_law_using" = some (.ref a_using)
 k_using : Zb8 K (.ref a_using) = true
 a_board : Addr
 fd_board : FuncData
 F_board : Fun K "_law_board" "_law_board" Zey a_board fd_board
 b_board : ZdH K fd_board ["_law_things_here"] []
 m_board : mg "_law_board" = some (.ref a_board)
 k_board : Zb8 K (.ref a_board) = true
 a_met : Addr
 fd_met : FuncData
 F_met : Fun K "_law_met" "_law_met" Ze6 a_met fd_met
 b_met : ZdH K fd_met ["_law_make_here", "_law_use_here"] []
 m_met : mg "_law_met" = some (.ref a_met)
 k_met : Zb8 K (.ref a_met) = true
 a_whole : Addr
 fd_whole : FuncData
 F_whole : Fun K "_law_whole" "_law_whole" Zez a_whole fd_whole
 b_whole : ZdH K fd_whole ["_law_x"] []
 m_whole : mg "_law_whole" = some (.ref a_whole)
 k_whole : Zb8 K (.ref a_whole) = true
 a_pair : Addr
 fd_pair : FuncData
 F_pair : Fun K "_law_pair" "_law_pair" ZeW a_pair fd_pair
 b_pair : ZdH K fd_pair ["_law_x"] []
 m_pair : mg "_law_pair" = some (.ref a_pair)
 k_pair : Zb8 K (.ref a_pair) = true
 a_shaped : Addr
 fd_shaped : FuncData
 F_shaped : Fun K "_law_shaped" "_law_shaped" Zei a_shaped fd_shaped
 b_shaped : ZdH K fd_shaped ["_law_rows"] []
 m_shaped : mg "_law_shaped" = some (.ref a_shaped)
 k_shaped : Zb8 K (.ref a_shaped) = true
 a_caused : Addr
 fd_caused : FuncData
 F_caused : Fun K "_law_caused" "_law_caused" Zej a_caused fd_caused
 b_caused : ZdH K fd_caused ["_law_things_here", "_law_rows", "_law_number"] []
 m_caused : mg "_law_caused" = some (.ref a_caused)
 k_caused : Zb8 K (.ref a_caused) = true
 a_by_itself : Addr
 fd_by_itself : FuncData
 F_by_itself : Fun K "_law_by_itself" "_law_by_itself" ZdK a_by_itself fd_by_itself
 b_by_itself : ZdH K fd_by_itself ["_law_things_here", "_law_rows"] []
 m_by_itself : mg "_law_by_itself" = some (.ref a_by_itself)
 k_by_itself : Zb8 K (.ref a_by_itself) = true
 a_back : Addr
 fd_back : FuncData
 F_back : Fun K "_law_back" "_law_back" ZeX a_back fd_back
 b_back : ZdH K fd_back ["_law_found", "_law_numbers"] []
 m_back : mg "_law_back" = some (.ref a_back)
 k_back : Zb8 K (.ref a_back) = true
 a_one : Addr
 fd_one : FuncData
 F_one : Fun K "_law_one" "_law_one" Ze7 a_one fd_one
 b_one : ZdH K fd_one ["_law_things_here", "_law_log", "_law_k"] []
 m_one : mg "_law_one" = some (.ref a_one)
 k_one : Zb8 K (.ref a_one) = true
 a_Make : Addr
 m_Make : mg "Make" = some (.ref a_Make)
 cl_Make : Cls K a_Make
 ty_Make : ∀ (H : Hp) (a dx : Addr) (fs : List (Str × V)), H a = some (.ins a_Make dx fs) -> Zhv K H (.ref a) (.ref a_Make)
 n_Make_shape : Zdo K a_Make "shape"
 n_Make_parts : Zdo K a_Make "parts"
 n_Make_at : Zdo K a_Make "at"
 n_Make_place : Zdo K a_Make "place"
 a_Make___init__ : Addr
 fd_Make___init__ : FuncData
 F_Make___init__ : Fun K "__init__" "Make.__init__" ZdR a_Make___init__ fd_Make___init__
 b_Make___init__ : ZdH K fd_Make___init__ ["self", "shape", "parts", "at", "place"] []
 mk_Make : Mk K a_Make a_Make___init__
 a_Use : Addr
 m_Use : mg "Use" = some (.ref a_Use)
 cl_Use : Cls K a_Use
 ty_Use : ∀ (H : Hp) (a dx : Addr) (fs : List (Str × V)), H a = some (.ins a_Use dx fs) -> Zhv K H (.ref a) (.ref a_Use)
 n_Use_at : Zdo K a_Use "at"
 n_Use_place : Zdo K a_Use "place"
 n_Use_slot : Zdo K a_Use "slot"
 a_Use___init__ : Addr
 fd_Use___init__ : FuncData
 F_Use___init__ : Fun K "__init__" "Use.__init__" Zd1 a_Use___init__ fd_Use___init__
 b_Use___init__ : ZdH K fd_Use___init__ ["self", "at", "place", "slot"] []
 cm_Use___init__ : Zrr K a_Use "__init__" a_Use___init__
 mk_Use : Mk K a_Use a_Use___init__
 a_NumUse : Addr
 m_NumUse : mg "NumUse" = some (.ref a_NumUse)
 cl_NumUse : Cls K a_NumUse
 ty_NumUse : ∀ (H : Hp) (a dx : Addr) (fs : List (Str × V)), H a = some (.ins a_NumUse dx fs) -> Zhv K H (.ref a) (.ref a_NumUse)
 n_NumUse_at : Zdo K a_NumUse "at"
 n_NumUse_place : Zdo K a_NumUse "place"
 n_NumUse_slot : Zdo K a_NumUse "slot"
 a_NumUse_met : Addr
 fd_NumUse_met : FuncData
 F_NumUse_met : Fun K "met" "NumUse.met" ZeA a_NumUse_met fd_NumUse_met
 b_NumUse_met : ZdH K fd_NumUse_met ["self", "make"] []
 me_NumUse_met : Zjp K a_NumUse "met" a_NumUse_met
 mk_NumUse : Mk K a_NumUse a_Use___init__
 a_CallUse : Addr
 m_CallUse : mg "CallUse" = some (.ref a_CallUse)
 cl_CallUse : Cls K a_CallUse
 ty_CallUse : ∀ (H : Hp) (a dx : Addr) (fs : List (Str × V)), H a = some (.ins a_CallUse dx fs) -> Zhv K H (.ref a) (.ref a_CallUse)
 n_CallUse_arg : Zdo K a_CallUse "arg"
 n_CallUse_out : Zdo K a_CallUse "out"
 n_CallUse_at : Zdo K a_CallUse "at"
 n_CallUse_place : Zdo K a_CallUse "place"
 n_CallUse_slot : Zdo K a_CallUse "slot"
 a_CallUse___init__ : Addr
 fd_CallUse___init__ : FuncData
 F_CallUse___init__ : Fun K "__init__" "CallUse.__init__" ZdD a_CallUse___init__ fd_CallUse___init__
 b_CallUse___init__ : ZdH K fd_CallUse___init__ ["self", "at", "place", "slot", "arg", "out"] []
 mk_CallUse : Mk K a_CallUse a_CallUse___init__
 a_CallUse_met : Addr
 fd_CallUse_met : FuncData
 F_CallUse_met : Fun K "met" "CallUse.met" Zek a_CallUse_met fd_CallUse_met
 b_CallUse_met : ZdH K fd_CallUse_met ["self", "make"] []
 me_CallUse_met : Zjp K a_CallUse "met" a_CallUse_met
 a_TakeUse : Addr
 m_TakeUse : mg "TakeUse" = some (.ref a_TakeUse)
 cl_TakeUse : Cls K a_TakeUse
 ty_TakeUse : ∀ (H : Hp) (a dx : Addr) (fs : List (Str × V)), H a = some (.ins a_TakeUse dx fs) -> Zhv K H (.ref a) (.ref a_TakeUse)
 n_TakeUse_fields : Zdo K a_TakeUse "fields"
 n_TakeUse_at : Zdo K a_TakeUse "at"
 n_TakeUse_place : Zdo K a_TakeUse "place"
 n_TakeUse_slot : Zdo K a_TakeUse "slot"
 a_TakeUse___init__ : Addr
 fd_TakeUse___init__ : FuncData
 F_TakeUse___init__ : Fun K "__init__" "TakeUse.__init__" ZdE a_TakeUse___init__ fd_TakeUse___init__
 b_TakeUse___init__ : ZdH K fd_TakeUse___init__ ["self", "at", "place", "slot", "fields"] []
 mk_TakeUse : Mk K a_TakeUse a_TakeUse___init__
 a_TakeUse_met : Addr
 fd_TakeUse_met : FuncData
 F_TakeUse_met : Fun K "met" "TakeUse.met" ZdV a_TakeUse_met fd_TakeUse_met
 b_TakeUse_met : ZdH K fd_TakeUse_met ["self", "make"] []
 me_TakeUse_met : Zjp K a_TakeUse "met" a_TakeUse_met
 a_CaseUse : Addr
 m_CaseUse : mg "CaseUse" = some (.ref a_CaseUse)
 cl_CaseUse : Cls K a_CaseUse
 ty_CaseUse : ∀ (H : Hp) (a dx : Addr) (fs : List (Str × V)), H a = some (.ins a_CaseUse dx fs) -> Zhv K H (.ref a) (.ref a_CaseUse)
 n_CaseUse_arms : Zdo K a_CaseUse "arms"
 n_CaseUse_at : Zdo K a_CaseUse "at"
 n_CaseUse_place : Zdo K a_CaseUse "place"
 n_CaseUse_slot : Zdo K a_CaseUse "slot"
 a_CaseUse___init__ : Addr
 fd_CaseUse___init__ : FuncData
 F_CaseUse___init__ : Fun K "__init__" "CaseUse.__init__" ZdF a_CaseUse___init__ fd_CaseUse___init__
 b_CaseUse___init__ : ZdH K fd_CaseUse___init__ ["self", "at", "place", "slot", "arms"] []
 mk_CaseUse : Mk K a_CaseUse a_CaseUse___init__
 a_CaseUse_met : Addr
 fd_CaseUse_met : FuncData
 F_CaseUse_met : Fun K "met" "CaseUse.met" ZdW a_CaseUse_met fd_CaseUse_met
 b_CaseUse_met : ZdH K fd_CaseUse_met ["self", "make"] []
 me_CaseUse_met : Zjp K a_CaseUse "met" a_CaseUse_met
 a_RowUse : Addr
 m_RowUse : mg "RowUse" = some (.ref a_RowUse)
 cl_RowUse : Cls K a_RowUse
 ty_RowUse : ∀ (H : Hp) (a dx : Addr) (fs : List (Str × V)), H a = some (.ins a_RowUse dx fs) -> Zhv K H (.ref a) (.ref a_RowUse)
 n_RowUse_out : Zdo K a_RowUse "out"
 n_RowUse_at : Zdo K a_RowUse "at"
 n_RowUse_place : Zdo K a_RowUse "place"
 n_RowUse_slot : Zdo K a_RowUse "slot"
 a_RowUse___init__ : Addr
 fd_RowUse___init__ : FuncData
 F_RowUse___init__ : Fun K "__init__" "RowUse.__init__" ZdI a_RowUse___init__ fd_RowUse___init__
 b_RowUse___init__ : ZdH K fd_RowUse___init__ ["self", "at", "place", "slot", "out"] []
 mk_RowUse : Mk K a_RowUse a_RowUse___init__
 a_RowUse_met : Addr
 fd_RowUse_met : FuncData
 F_RowUse_met : Fun K "met" "RowUse.met" ZeB a_RowUse_met fd_RowUse_met
 b_RowUse_met : ZdH K fd_RowUse_met ["self", "make"] []
 me_RowUse_met : Zjp K a_RowUse "met" a_RowUse_met
 a_Board : Addr
 m_Board : mg "Board" = some (.ref a_Board)
 cl_Board : Cls K a_Board
 ty_Board : ∀ (H : Hp) (a dx : Addr) (fs : List (Str × V)), H a = some (.ins a_Board dx fs) -> Zhv K H (.ref a) (.ref a_Board)
 n_Board_points : Zdo K a_Board "points"
 n_Board_makes : Zdo K a_Board "makes"
 n_Board_uses : Zdo K a_Board "uses"
 n_Board_flows : Zdo K a_Board "flows"
 n_Board_root : Zdo K a_Board "root"
 a_Board___init__ : Addr
 fd_Board___init__ : FuncData
 F_Board___init__ : Fun K "__init__" "Board.__init__" ZdL a_Board___init__ fd_Board___init__
 b_Board___init__ : ZdH K fd_Board___init__ ["self"] []
 mk_Board : Mk K a_Board a_Board___init__
 a_Board_point : Addr
 fd_Board_point : FuncData
 F_Board_point : Fun K "point" "Board.point" Zel a_Board_point fd_Board_point
 b_Board_point : ZdH K fd_Board_point ["self", "place"] []
 me_Board_point : Zjp K a_Board "point" a_Board_point
 a_Board_make : Addr
 fd_Board_make : FuncData
 F_Board_make : Fun K "make" "Board.make" ZeC a_Board_make fd_Board_make
 b_Board_make : ZdH K fd_Board_make ["self", "shape", "parts", "at", "place"] []
 me_Board_make : Zjp K a_Board "make" a_Board_make
 a_Board_use : Addr
 fd_Board_use : FuncData
 F_Board_use : Fun K "use" "Board.use" ZeY a_Board_use fd_Board_use
 b_Board_use : ZdH K fd_Board_use ["self", "one"] []
 me_Board_use : Zjp K a_Board "use" a_Board_use
 a_Board_flow : Addr
 fd_Board_flow : FuncData
 F_Board_flow : Fun K "flow" "Board.flow" ZeD a_Board_flow fd_Board_flow
 b_Board_flow : ZdH K fd_Board_flow ["self", "p", "q"] []
 me_Board_flow : Zjp K a_Board "flow" a_Board_flow
 a_Log : Addr
 m_Log : mg "Log" = some (.ref a_Log)
 cl_Log : Cls K a_Log
 ty_Log : ∀ (H : Hp) (a dx : Addr) (fs : List (Str × V)), H a = some (.ins a_Log dx fs) -> Zhv K H (.ref a) (.ref a_Log)
 n_Log_rows : Zdo K a_Log "rows"
 n_Log_bads : Zdo K a_Log "bads"
 a_Log___init__ : Addr
 fd_Log___init__ : FuncData
 F_Log___init__ : Fun K "__init__" "Log.__init__" Zd2 a_Log___init__ fd_Log___init__
 b_Log___init__ : ZdH K fd_Log___init__ ["self", "rows", "bads"] []
 mk_Log : Mk K a_Log a_Log___init__
 a_Settling : Addr
 m_Settling : mg "Settling" = some (.ref a_Settling)
 cl_Settling : Cls K a_Settling
 ty_Settling : ∀ (H : Hp) (a dx : Addr) (fs : List (Str × V)), H a = some (.ins a_Settling dx fs) -> Zhv K H (.ref a) (.ref a_Settling)
 n_Settling_board : Zdo K a_Settling "board"
 n_Settling_uses_at : Zdo K a_Settling "uses_at"
 n_Settling_rows : Zdo K a_Settling "rows"
 n_Settling_bads : Zdo K a_Settling "bads"
 n_Settling_known : Zdo K a_Settling "known"
 n_Settling_goes : Zdo K a_Settling "goes"
 n_Settling_heres : Zdo K a_Settling "heres"
 a_Settling___init__ : Addr
 fd_Settling___init__ : FuncData
 F_Settling___init__ : Fun K "__init__" "Settling.__init__" Zdy a_Settling___init__ fd_Settling___init__
 b_Settling___init__ : ZdH K fd_Settling___init__ ["self", "board"] []
 mk_Settling : Mk K a_Settling a_Settling___init__
 a_Settling_put : Addr
 fd_Settling_put : FuncData
 F_Settling_put : Fun K "put" "Settling.put" Zd3 a_Settling_put fd_Settling_put
 b_Settling_put : ZdH K fd_Settling_put ["self", "word", "first", "second", "why"] []
 me_Settling_put : Zjp K a_Settling "put" a_Settling_put
 a_Settling_work : Addr
 fd_Settling_work : FuncData
 F_Settling_work : Fun K "work" "Settling.work" ZdS a_Settling_work fd_Settling_work
 b_Settling_work : ZdH K fd_Settling_work ["self", "number"] []
 me_Settling_work : Zjp K a_Settling "work" a_Settling_work
 a_Settling_work_goes : Addr
 fd_Settling_work_goes : FuncData
 F_Settling_work_goes : Fun K "work_goes" "Settling.work_goes" Zds a_Settling_work_goes fd_Settling_work_goes
 b_Settling_work_goes : ZdH K fd_Settling_work_goes ["self", "number", "p", "q"] []
 me_Settling_work_goes : Zjp K a_Settling "work_goes" a_Settling_work_goes
 a_Settling_work_uses : Addr
 fd_Settling_work_uses : FuncData
 F_Settling_work_uses : Fun K "work_uses" "Settling.work_uses" Zdt a_Settling_work_uses fd_Settling_work_uses
 b_Settling_work_uses : ZdH K fd_Settling_work_uses ["self", "number", "m", "p"] []
 me_Settling_work_uses : Zjp K a_Settling "work_uses" a_Settling_work_uses
 a_Settling_put_flows : Addr
 fd_Settling_put_flows : FuncData
 F_Settling_put_flows : Fun K "put_flows" "Settling.put_flows" Zdu a_Settling_put_flows fd_Settling_put_flows
 b_Settling_put_flows : ZdH K fd_Settling_put_flows ["self", "flows", "why"] []
 me_Settling_put_flows : Zjp K a_Settling "put_flows" a_Settling_put_flows
 a_Settling_work_here : Addr
 fd_Settling_work_here : FuncData
 F_Settling_work_here : Fun K "work_here" "Settling.work_here" Zdv a_Settling_work_here fd_Settling_work_here
 b_Settling_work_here : ZdH K fd_Settling_work_here ["self", "number", "m", "p"] []
 me_Settling_work_here : Zjp K a_Settling "work_here" a_Settling_work_here
 z_all : mg "all" = none
 z_bool : mg "bool" = none
 z_dict : mg "dict" = none
 z_enumerate : mg "enumerate" = none
 z_int : mg "int" = none
 z_isinstance : mg "isinstance" = none
 z_len : mg "len" = none
 z_list : mg "list" = none
 z_range : mg "range" = none
 z_set : mg "set" = none
 z_sorted : mg "sorted" = none
 z_str : mg "str" = none
 z_sum : mg "sum" = none
 z_tuple : mg "tuple" = none
theorem ZeT : Zdh ["board", "found", "number", "one"] ["board"] (Zc5 ZdQ) := ⟨rfl, rfl, rfl, by decide +kernel, rfl, by decide +kernel, by decide +kernel⟩
theorem ZjL : Zdh ["log", "k", "needed", "places", "place", "number"] ["log", "k"] (Zc5 Zkq) := ⟨rfl, rfl, rfl, by decide +kernel, rfl, by decide +kernel, by decide +kernel⟩
theorem ZeR : Zdh ["log", "k", "needed", "ahead", "row", "number"] ["log", "k"] (Zc5 Zef) := ⟨rfl, rfl, rfl, by decide +kernel, rfl, by decide +kernel, by decide +kernel⟩
theorem ZgO : Zdh ["row", "why"] ["row"] (Zc5 Zeu) := ⟨rfl, rfl, rfl, by decide +kernel, rfl, by decide +kernel, by decide +kernel⟩
theorem Zgk : Zdh ["row", "places", "why"] ["row", "places"] (Zc5 Zeg) := ⟨rfl, rfl, rfl, by decide +kernel, rfl, by decide +kernel, by decide +kernel⟩
theorem Ze8 : Zdh ["board", "settling", "flow", "number", "make", "worked"] ["board"] (Zc5 Zfv) := ⟨rfl, rfl, rfl, by decide +kernel, rfl, by decide +kernel, by decide +kernel⟩
theorem Zf1 : Zdh ["_law_cell", "_law_turn", "_law_many", "_law_factors", "_law_primes"] ["_law_cell", "_law_turn", "_law_many"] (Zc5 ZeU) := ⟨rfl, rfl, rfl, by decide +kernel, rfl, by decide +kernel, by decide +kernel⟩
theorem ZeJ : Zdh ["_law_cell", "_law_c", "_law_stem", "_law_k", "_law_at"] ["_law_cell"] (Zc5 Zev) := ⟨rfl, rfl, rfl, by decide +kernel, rfl, by decide +kernel, by decide +kernel⟩
theorem ZgP : Zdh ["_law_words_here", "_law_cell", "_law_spots", "_law_first"] ["_law_words_here", "_law_cell", "_law_spots"] (Zc5 Zew) := ⟨rfl, rfl, rfl, by decide +kernel, rfl, by decide +kernel, by decide +kernel⟩
theorem Zd9 : Zdh ["_law_words_here", "_law_cell", "_law_many", "_law_spots", "_law_shape", "_law_parts"] ["_law_words_here", "_law_cell", "_law_many"] (Zc5 ZeV) := ⟨rfl, rfl, rfl, by decide +kernel, rfl, by decide +kernel, by decide +kernel⟩
theorem ZfK : Zdh ["_law_words_here", "_law_cell", "_law_many", "_law_spots", "_law_word", "_law_head"] ["_law_words_here", "_law_cell", "_law_many"] (Zc5 Ze5) := ⟨rfl, rfl, rfl, by decide +kernel, rfl, by decide +kernel, by decide +kernel⟩
theorem ZdO : Zdh ["_law_script", "_law_words_here", "_law_start", "_law_many", "_law_things_here", "_law_cell", "_law_sort"] ["_law_script"] (Zc5 Zeh) := ⟨rfl, rfl, rfl, by decide +kernel, rfl, by decide +kernel, by decide +kernel⟩
theorem ZiP : Zdh ["_law_told"] ["_law_told"] (Zc5 Zex) := ⟨rfl, rfl, rfl, by decide +kernel, rfl, by decide +kernel, by decide +kernel⟩
theorem ZeK : Zdh ["_law_things_here", "_law_board_here", "_law_place", "_law_make_here", "_law_told", "_law_pair_here"] ["_law_things_here"] (Zc5 Zey) := ⟨rfl, rfl, rfl, by decide +kernel, rfl, by decide +kernel, by decide +kernel⟩
theorem Zgs : Zdh ["_law_make_here", "_law_use_here", "_law_arm", "_law_there"] ["_law_make_here", "_law_use_here"] (Zc5 Ze6) := ⟨rfl, rfl, rfl, by decide +kernel, rfl, by decide +kernel, by decide +kernel⟩
theorem ZiQ : Zdh ["_law_x"] ["_law_x"] (Zc5 Zez) := ⟨rfl, rfl, rfl, by decide +kernel, rfl, by decide +kernel, by decide +kernel⟩
theorem ZjM : Zdh ["_law_x"] ["_law_x"] (Zc5 ZeW) := ⟨rfl, rfl, rfl, by decide +kernel, rfl, by decide +kernel, by decide +kernel⟩
theorem Zgl : Zdh ["_law_rows", "_law_row"] ["_law_rows"] (Zc5 Zei) := ⟨rfl, rfl, rfl, by decide +kernel, rfl, by decide +kernel, by decide +kernel⟩
theorem Zep : Zdh ["_law_things_here", "_law_rows", "_law_number", "_law_row", "_law_why", "_law_one_here", "_law_flows", "_law_other"] ["_law_things_here", "_law_rows", "_law_number"] (Zc5 Zej) := ⟨rfl, rfl, rfl, by decide +kernel, rfl, by decide +kernel, by decide +kernel⟩
theorem ZeL : Zdh ["_law_things_here", "_law_rows", "_law_named_here", "_law_number", "_law_row"] ["_law_things_here", "_law_rows"] (Zc5 ZdK) := ⟨rfl, rfl, rfl, by decide +kernel, rfl, by decide +kernel, by decide +kernel⟩
theorem ZeZ : Zdh ["_law_found", "_law_numbers", "_law_back_here", "_law_row", "_law_why"] ["_law_found", "_law_numbers"] (Zc5 ZeX) := ⟨rfl, rfl, rfl, by decide +kernel, rfl, by decide +kernel, by decide +kernel⟩
theorem ZeE : Zdh ["_law_things_here", "_law_log", "_law_k", "_law_found", "_law_spots", "_law_number", "_law_row", "_law_numbers", "_law_kept"] ["_law_things_here", "_law_log", "_law_k"] (Zc5 Ze7) := ⟨rfl, rfl, rfl, by decide +kernel, rfl, by decide +kernel, by decide +kernel⟩
theorem ZhO : Zdh ["_law_script", "_law_things_here", "_law_log", "_law_rows", "_law_bads", "_law_wanted", "_law_k"] ["_law_script"] (Zc5 ZiO) := ⟨rfl, rfl, rfl, by decide +kernel, rfl, by decide +kernel, by decide +kernel⟩
theorem Zhf : Zdh ["self", "shape", "parts", "at", "place"] ["self", "shape", "parts", "at", "place"] (Zc5 ZdR) := ⟨rfl, rfl, rfl, by decide +kernel, rfl, by decide +kernel, by decide +kernel⟩
theorem ZhP : Zdh ["self", "at", "place", "slot"] ["self", "at", "place", "slot"] (Zc5 Zd1) := ⟨rfl, rfl, rfl, by decide +kernel, rfl, by decide +kernel, by decide +kernel⟩
theorem ZiR : Zdh ["self", "make"] ["self", "make"] (Zc5 ZeA) := ⟨rfl, rfl, rfl, by decide +kernel, rfl, by decide +kernel, by decide +kernel⟩
theorem Zgt : Zdh ["self", "at", "place", "slot", "arg", "out"] ["self", "at", "place", "slot", "arg", "out"] (Zc5 ZdD) := ⟨rfl, rfl, rfl, by decide +kernel, rfl, by decide +kernel, by decide +kernel⟩
theorem Zh0 : Zdh ["self", "make"] ["self", "make"] (Zc5 Zek) := ⟨rfl, rfl, rfl, by decide +kernel, rfl, by decide +kernel, by decide +kernel⟩
theorem Zgu : Zdh ["self", "at", "place", "slot", "fields"] ["self", "at", "place", "slot", "fields"] (Zc5 ZdE) := ⟨rfl, rfl, rfl, by decide +kernel, rfl, by decide +kernel, by decide +kernel⟩
theorem Zfd : Zdh ["self", "make", "made", "flows", "field"] ["self", "make"] (Zc5 ZdV) := ⟨rfl, rfl, rfl, by decide +kernel, rfl, by decide +kernel, by decide +kernel⟩
theorem Zgv : Zdh ["self", "at", "place", "slot", "arms"] ["self", "at", "place", "slot", "arms"] (Zc5 ZdF) := ⟨rfl, rfl, rfl, by decide +kernel, rfl, by decide +kernel, by decide +kernel⟩
theorem Zgm : Zdh ["self", "make", "arms"] ["self", "make"] (Zc5 ZdW) := ⟨rfl, rfl, rfl, by decide +kernel, rfl, by decide +kernel, by decide +kernel⟩
theorem ZgQ : Zdh ["self", "at", "place", "slot", "out"] ["self", "at", "place", "slot", "out"] (Zc5 ZdI) := ⟨rfl, rfl, rfl, by decide +kernel, rfl, by decide +kernel, by decide +kernel⟩
theorem ZiS : Zdh ["self", "make"] ["self", "make"] (Zc5 ZeB) := ⟨rfl, rfl, rfl, by decide +kernel, rfl, by decide +kernel, by decide +kernel⟩
theorem Zg2 : Zdh ["self"] ["self"] (Zc5 ZdL) := ⟨rfl, rfl, rfl, by decide +kernel, rfl, by decide +kernel, by decide +kernel⟩
theorem Zh1 : Zdh ["self", "place"] ["self", "place"] (Zc5 Zel) := ⟨rfl, rfl, rfl, by decide +kernel, rfl, by decide +kernel, by decide +kernel⟩
theorem ZiT : Zdh ["self", "shape", "parts", "at", "place"] ["self", "shape", "parts", "at", "place"] (Zc5 ZeC) := ⟨rfl, rfl, rfl, by decide +kernel, rfl, by decide +kernel, by decide +kernel⟩
theorem ZjN : Zdh ["self", "one"] ["self", "one"] (Zc5 ZeY) := ⟨rfl, rfl, rfl, by decide +kernel, rfl, by decide +kernel, by decide +kernel⟩
theorem ZiU : Zdh ["self", "p", "q"] ["self", "p", "q"] (Zc5 ZeD) := ⟨rfl, rfl, rfl, by decide +kernel, rfl, by decide +kernel, by decide +kernel⟩
theorem ZhQ : Zdh ["self", "rows", "bads"] ["self", "rows", "bads"] (Zc5 Zd2) := ⟨rfl, rfl, rfl, by decide +kernel, rfl, by decide +kernel, by decide +kernel⟩
theorem Zgf : Zdh ["self", "board"] ["self", "board"] (Zc5 Zdy) := ⟨rfl, rfl, rfl, by decide +kernel, rfl, by decide +kernel, by decide +kernel⟩
theorem Zf2 : Zdh ["self", "word", "first", "second", "why", "beginning"] ["self", "word", "first", "second", "why"] (Zc5 Zd3) := ⟨rfl, rfl, rfl, by decide +kernel, rfl, by decide +kernel, by decide +kernel⟩
theorem ZfS : Zdh ["self", "number", "row"] ["self", "number"] (Zc5 ZdS) := ⟨rfl, rfl, rfl, by decide +kernel, rfl, by decide +kernel, by decide +kernel⟩
theorem Zfi : Zdh ["self", "number", "p", "q", "here"] ["self", "number", "p", "q"] (Zc5 Zds) := ⟨rfl, rfl, rfl, by decide +kernel, rfl, by decide +kernel, by decide +kernel⟩
theorem ZeF : Zdh ["self", "number", "m", "p", "u", "flows"] ["self", "number", "m", "p"] (Zc5 Zdt) := ⟨rfl, rfl, rfl, by decide +kernel, rfl, by decide +kernel, by decide +kernel⟩
theorem Zfj : Zdh ["self", "flows", "why", "flow"] ["self", "flows", "why"] (Zc5 Zdu) := ⟨rfl, rfl, rfl, by decide +kernel, rfl, by decide +kernel, by decide +kernel⟩
theorem Zfk : Zdh ["self", "number", "m", "p", "going"] ["self", "number", "m", "p"] (Zc5 Zdv) := ⟨rfl, rfl, rfl, by decide +kernel, rfl, by decide +kernel, by decide +kernel⟩
def Zk8 (K : PySem.W.Frag) : Sp := fun vs H Q _ => ∃ (a : Addr) (ns : List Int), vs = [.ref a] /\ SqL K H a (ns.map V.int) /\ ns.length <= 63 /\ ∀ H', Q (.bl true) H'
open BO.Internal
seal L2.Internal.PE L2.Internal.PA L2.Internal.PS L2.Internal.PSs L2.Internal.PT L2.Internal.PI
theorem ZdX {H H2 : Hp} {l : Addr} (s : Zdj H H2) (h : H l = none) (o : HO) : Zdj H (upd H2 l o) := fun b u e => by rw [Zc6 (Zc9 e h)]; exact s b u e
theorem ZqT (a p s : V) : ZfG "slot" s (ZfG "place" p (ZfG "at" a [])) = fU a p s := by
 have h1 : ¬ ("at" : Str) = "place" := by decide +kernel
 have h2 : ¬ ("at" : Str) = "slot" := by decide +kernel
 have h3 : ¬ ("place" : Str) = "slot" := by decide +kernel
 simp only [ZfG, if_neg h1, if_neg h2, if_neg h3, fU]
theorem ZmG (n : Str) (a p s x : V) (h1 : ¬ ("at" : Str) = n) (h2 : ¬ ("place" : Str) = n) (h3 : ¬ ("slot" : Str) = n) : ZfG n x (fU a p s) = fU1 n a p s x := by
 simp only [ZfG, fU, if_neg h1, if_neg h2, if_neg h3, fU1]
theorem ZpP (a p s x y : V) : ZfG "out" y (ZfG "arg" x (fU a p s)) = fU2 a p s x y := by
 have h1 : ¬ ("at" : Str) = "arg" := by decide +kernel
 have h2 : ¬ ("place" : Str) = "arg" := by decide +kernel
 have h3 : ¬ ("slot" : Str) = "arg" := by decide +kernel
 have h4 : ¬ ("at" : Str) = "out" := by decide +kernel
 have h5 : ¬ ("place" : Str) = "out" := by decide +kernel
 have h6 : ¬ ("slot" : Str) = "out" := by decide +kernel
 have h7 : ¬ ("arg" : Str) = "out" := by decide +kernel
 simp only [ZfG, fU, if_neg h1, if_neg h2, if_neg h3, if_neg h4, if_neg h5, if_neg h6, if_neg h7, fU2]
theorem ZqU (s f a p : V) : ZfG "place" p (ZfG "at" a (ZfG "parts" f (ZfG "shape" s []))) = fM s f a p := by
 have h1 : ¬ ("shape" : Str) = "parts" := by decide +kernel
 have h2 : ¬ ("shape" : Str) = "at" := by decide +kernel
 have h3 : ¬ ("shape" : Str) = "place" := by decide +kernel
 have h4 : ¬ ("parts" : Str) = "at" := by decide +kernel
 have h5 : ¬ ("parts" : Str) = "place" := by decide +kernel
 have h6 : ¬ ("at" : Str) = "place" := by decide +kernel
 simp only [ZfG, if_neg h1, if_neg h2, if_neg h3, if_neg h4, if_neg h5, if_neg h6, fM]
theorem ZeG {f : Str} {v : V} {fs : List (Str × V)} {n : Nat} (h : fs.length < n) : (ZfG f v fs).length < n + 1 := Nat.lt_of_le_of_lt (Zgp f v fs) (Nat.succ_lt_succ h)
theorem ZqV (a p s : V) : (fU a p s).lookup ("at" : Str) = some (a) := by
 unfold fU
 rw [ZaN, show (("at" : Str) == "at") = true by decide +kernel]
theorem ZmH (a p s : V) : (fU a p s).lookup ("met" : Str) = none := by
 unfold fU
 rw [ZaN, show (("met" : Str) == "at") = false by decide +kernel, ZaN, show (("met" : Str) == "place") = false by decide +kernel, ZaN, show (("met" : Str) == "slot") = false by decide +kernel]
 rfl
theorem ZpQ (a p s x y : V) : (fU2 a p s x y).lookup ("at" : Str) = some (a) := by
 unfold fU2
 rw [ZaN, show (("at" : Str) == "at") = true by decide +kernel]
theorem ZoB (a p s x y : V) : (fU2 a p s x y).lookup ("arg" : Str) = some (x) := by
 unfold fU2
 rw [ZaN, show (("arg" : Str) == "at") = false by decide +kernel, ZaN, show (("arg" : Str) == "place") = false by decide +kernel, ZaN, show (("arg" : Str) == "slot") = false by decide +kernel, ZaN, show (("arg" : Str) == "arg") = true by decide +kernel]
theorem ZoC (a p s x y : V) : (fU2 a p s x y).lookup ("out" : Str) = some (y) := by
 unfold fU2
 rw [ZaN, show (("out" : Str) == "at") = false by decide +kernel, ZaN, show (("out" : Str) == "place") = false by decide +kernel, ZaN, show (("out" : Str) == "slot") = false by decide +kernel, ZaN, show (("out" : Str) == "arg") = false by decide +kernel, ZaN, show (("out" : Str) == "out") = true by decide +kernel]
theorem ZlF (a p s x y : V) : (fU2 a p s x y).lookup ("met" : Str) = none := by
 unfold fU2
 rw [ZaN, show (("met" : Str) == "at") = false by decide +kernel, ZaN, show (("met" : Str) == "place") = false by decide +kernel, ZaN, show (("met" : Str) == "slot") = false by decide +kernel, ZaN, show (("met" : Str) == "arg") = false by decide +kernel, ZaN, show (("met" : Str) == "out") = false by decide +kernel]
 rfl
theorem ZgR (s f a p : V) : (fM s f a p).lookup ("shape" : Str) = some (s) := by
 unfold fM
 rw [ZaN, show (("shape" : Str) == "shape") = true by decide +kernel]
theorem ZfL (s f a p : V) : (fM s f a p).lookup ("parts" : Str) = some (f) := by
 unfold fM
 rw [ZaN, show (("parts" : Str) == "shape") = false by decide +kernel, ZaN, show (("parts" : Str) == "parts") = true by decide +kernel]
theorem ZqW (s f a p : V) : (fM s f a p).lookup ("at" : Str) = some (a) := by
 unfold fM
 rw [ZaN, show (("at" : Str) == "shape") = false by decide +kernel, ZaN, show (("at" : Str) == "parts") = false by decide +kernel, ZaN, show (("at" : Str) == "at") = true by decide +kernel]
theorem ZoD (a p s x : V) : (fU1 "fields" a p s x).lookup ("at" : Str) = some (a) := by
 unfold fU1
 rw [ZaN, show (("at" : Str) == "at") = true by decide +kernel]
theorem Zkr (a p s x : V) : (fU1 "fields" a p s x).lookup ("fields" : Str) = some (x) := by
 unfold fU1
 rw [ZaN, show (("fields" : Str) == "at") = false by decide +kernel, ZaN, show (("fields" : Str) == "place") = false by decide +kernel, ZaN, show (("fields" : Str) == "slot") = false by decide +kernel, ZaN, show (("fields" : Str) == "fields") = true by decide +kernel]
theorem Zks (a p s x : V) : (fU1 "fields" a p s x).lookup ("met" : Str) = none := by
 unfold fU1
 rw [ZaN, show (("met" : Str) == "at") = false by decide +kernel, ZaN, show (("met" : Str) == "place") = false by decide +kernel, ZaN, show (("met" : Str) == "slot") = false by decide +kernel, ZaN, show (("met" : Str) == "fields") = false by decide +kernel]
 rfl
theorem ZoE (a p s x : V) : (fU1 "arms" a p s x).lookup ("at" : Str) = some (a) := by
 unfold fU1
 rw [ZaN, show (("at" : Str) == "at") = true by decide +kernel]
theorem ZmI (a p s x : V) : (fU1 "arms" a p s x).lookup ("arms" : Str) = some (x) := by
 unfold fU1
 rw [ZaN, show (("arms" : Str) == "at") = false by decide +kernel, ZaN, show (("arms" : Str) == "place") = false by decide +kernel, ZaN, show (("arms" : Str) == "slot") = false by decide +kernel, ZaN, show (("arms" : Str) == "arms") = true by decide +kernel]
theorem Zkt (a p s x : V) : (fU1 "arms" a p s x).lookup ("met" : Str) = none := by
 unfold fU1
 rw [ZaN, show (("met" : Str) == "at") = false by decide +kernel, ZaN, show (("met" : Str) == "place") = false by decide +kernel, ZaN, show (("met" : Str) == "slot") = false by decide +kernel, ZaN, show (("met" : Str) == "arms") = false by decide +kernel]
 rfl
theorem ZoF (a p s x : V) : (fU1 "out" a p s x).lookup ("at" : Str) = some (a) := by
 unfold fU1
 rw [ZaN, show (("at" : Str) == "at") = true by decide +kernel]
theorem Znr (a p s x : V) : (fU1 "out" a p s x).lookup ("out" : Str) = some (x) := by
 unfold fU1
 rw [ZaN, show (("out" : Str) == "at") = false by decide +kernel, ZaN, show (("out" : Str) == "place") = false by decide +kernel, ZaN, show (("out" : Str) == "slot") = false by decide +kernel, ZaN, show (("out" : Str) == "out") = true by decide +kernel]
theorem Zku (a p s x : V) : (fU1 "out" a p s x).lookup ("met" : Str) = none := by
 unfold fU1
 rw [ZaN, show (("met" : Str) == "at") = false by decide +kernel, ZaN, show (("met" : Str) == "place") = false by decide +kernel, ZaN, show (("met" : Str) == "slot") = false by decide +kernel, ZaN, show (("met" : Str) == "out") = false by decide +kernel]
 rfl
section
variable {P : Program} {w : World} {K : PySem.W.Frag} {mg : Str -> Option Value} {base : Heap}
def ZhR (K : PySem.W.Frag) : Sp := fun vs H Q _ => ∃ (x C dx : Addr) (a p s : V), vs = [.ref x, a, p, s] /\ H x = some (.ins C dx []) /\ Cls K C /\ Zdo K C "at" /\ Zdo K C "place" /\ Zdo K C "slot" /\ Q .non (upd H x (.ins C dx (fU a p s)))
theorem ZeH (T : Txt K mg) : Ze0 P w K mg base CX0 1 T.a_Use___init__ T.fd_Use___init__ ["self", "at", "place", "slot"] (ZhR K) := by
 refine T.F_Use___init__.ok ZhP (fun vs H Q E h => ?_) (fun cdv A outer s H vs Q E hr h => ?_)
 ·obtain ⟨x, C, dx, a, p, s, rfl, _⟩ := h
  rfl
 obtain ⟨x, C, dx, a, p, sl, rfl, hx, cl, n1, n2, n3, q⟩ := h
 refine ⟨_, (Zc0 (Zd8 (pv 0) (pv 1) rfl)
  (Zc0 (Zd8 (pv 0) (pv 2) rfl)
  (Zc4 (Zd8 (pv 0) (pv 3) rfl)))), ?_⟩
 refine ⟨_, rfl, _, rfl, x, C, dx, [], rfl, hx, cl, n1, (by show 0 < 1000; decide), ?_⟩
 refine ⟨_, rfl, _, rfl, x, C, dx, _, rfl, ZcX, cl, n2, (by show 1 < 1000; decide), ?_⟩
 refine ⟨_, rfl, _, rfl, x, C, dx, _, rfl, ZcX, cl, n3, ZeG (ZeG (by show 0 < 998; decide)), ?_⟩
 rw [ZdZ, ZdZ, ZqT]
 exact q
def Zgw (C : Addr) : Sp := fun vs H Q _ => ∃ (x dx : Addr) (a p s y z : V), vs = [.ref x, a, p, s, y, z] /\ H x = some (.ins C dx []) /\ Q .non (upd H x (.ins C dx (fU2 a p s y z)))
theorem Zgx (T : Txt K mg) : Ze0 P w K mg base CX0 2 T.a_CallUse___init__ T.fd_CallUse___init__ ["self", "at", "place", "slot", "arg", "out"] (Zgw T.a_CallUse) := by
 have G_Use___init__ := ZeH (P := P) (w := w) (base := base) T
 refine T.F_CallUse___init__.ok Zgt (fun vs H Q E h => ?_) (fun cdv A outer s H vs Q E hr h => ?_)
 ·obtain ⟨x, dx, a, p, s, y, z, rfl, _⟩ := h
  rfl
 obtain ⟨x, dx, a, p, sl, y, z, rfl, hx, q⟩ := h
 refine ⟨_, (Zc0 (Zdr (ZiF (Znh rfl T.m_Use) T.cm_Use___init__ G_Use___init__ (hr.mono (by decide)) T.b_Use___init__ .nil Zdp (ZcW (pv 0) (ZcW (pv 1) (ZcW (pv 2) (ZcW (pv 3) Zc1))))))
  (Zc0 (Zd8 (pv 0) (pv 4) rfl)
  (Zc4 (Zd8 (pv 0) (pv 5) rfl)))), ?_⟩
 refine ⟨_, rfl, _, rfl, _, rfl, _, rfl, x, _, dx, a, p, sl, rfl, hx, T.cl_CallUse, T.n_CallUse_at, T.n_CallUse_place, T.n_CallUse_slot, ?_⟩
 refine ⟨_, rfl, _, rfl, x, _, dx, _, rfl, ZcX, T.cl_CallUse, T.n_CallUse_arg, (by show 3 < 1000; decide), ?_⟩
 refine ⟨_, rfl, _, rfl, x, _, dx, _, rfl, ZcX, T.cl_CallUse, T.n_CallUse_out, ZeG (by show 3 < 999; decide), ?_⟩
 rw [ZdZ, ZdZ, ZpP]
 exact q
def ZoG (C : Addr) (n : Str) : Sp := fun vs H Q _ => ∃ (x dx : Addr) (a p s y : V), vs = [.ref x, a, p, s, y] /\ H x = some (.ins C dx []) /\ Q .non (upd H x (.ins C dx (fU1 n a p s y)))
theorem Zgy (T : Txt K mg) : Ze0 P w K mg base CX0 2 T.a_TakeUse___init__ T.fd_TakeUse___init__ ["self", "at", "place", "slot", "fields"] (ZoG T.a_TakeUse "fields") := by
 have G_Use___init__ := ZeH (P := P) (w := w) (base := base) T
 refine T.F_TakeUse___init__.ok Zgu (fun vs H Q E h => ?_) (fun cdv A outer s H vs Q E hr h => ?_)
 ·obtain ⟨x, dx, a, p, s, y, rfl, _⟩ := h
  rfl
 obtain ⟨x, dx, a, p, sl, y, rfl, hx, q⟩ := h
 refine ⟨_, (Zc0 (Zdr (ZiF (Znh rfl T.m_Use) T.cm_Use___init__ G_Use___init__ (hr.mono (by decide)) T.b_Use___init__ .nil Zdp (ZcW (pv 0) (ZcW (pv 1) (ZcW (pv 2) (ZcW (pv 3) Zc1))))))
  (Zc4 (Zd8 (pv 0) (pv 4) rfl))), ?_⟩
 refine ⟨_, rfl, _, rfl, _, rfl, _, rfl, x, _, dx, a, p, sl, rfl, hx, T.cl_TakeUse, T.n_TakeUse_at, T.n_TakeUse_place, T.n_TakeUse_slot, ?_⟩
 refine ⟨_, rfl, _, rfl, x, _, dx, _, rfl, ZcX, T.cl_TakeUse, T.n_TakeUse_fields, (by show 3 < 1000; decide), ?_⟩
 rw [ZdZ, ZmG "fields" a p sl y (by decide +kernel) (by decide +kernel) (by decide +kernel)]
 exact q
theorem Zgz (T : Txt K mg) : Ze0 P w K mg base CX0 2 T.a_CaseUse___init__ T.fd_CaseUse___init__ ["self", "at", "place", "slot", "arms"] (ZoG T.a_CaseUse "arms") := by
 have G_Use___init__ := ZeH (P := P) (w := w) (base := base) T
 refine T.F_CaseUse___init__.ok Zgv (fun vs H Q E h => ?_) (fun cdv A outer s H vs Q E hr h => ?_)
 ·obtain ⟨x, dx, a, p, s, y, rfl, _⟩ := h
  rfl
 obtain ⟨x, dx, a, p, sl, y, rfl, hx, q⟩ := h
 refine ⟨_, (Zc0 (Zdr (ZiF (Znh rfl T.m_Use) T.cm_Use___init__ G_Use___init__ (hr.mono (by decide)) T.b_Use___init__ .nil Zdp (ZcW (pv 0) (ZcW (pv 1) (ZcW (pv 2) (ZcW (pv 3) Zc1))))))
  (Zc4 (Zd8 (pv 0) (pv 4) rfl))), ?_⟩
 refine ⟨_, rfl, _, rfl, _, rfl, _, rfl, x, _, dx, a, p, sl, rfl, hx, T.cl_CaseUse, T.n_CaseUse_at, T.n_CaseUse_place, T.n_CaseUse_slot, ?_⟩
 refine ⟨_, rfl, _, rfl, x, _, dx, _, rfl, ZcX, T.cl_CaseUse, T.n_CaseUse_arms, (by show 3 < 1000; decide), ?_⟩
 rw [ZdZ, ZmG "arms" a p sl y (by decide +kernel) (by decide +kernel) (by decide +kernel)]
 exact q
theorem ZgS (T : Txt K mg) : Ze0 P w K mg base CX0 2 T.a_RowUse___init__ T.fd_RowUse___init__ ["self", "at", "place", "slot", "out"] (ZoG T.a_RowUse "out") := by
 have G_Use___init__ := ZeH (P := P) (w := w) (base := base) T
 refine T.F_RowUse___init__.ok ZgQ (fun vs H Q E h => ?_) (fun cdv A outer s H vs Q E hr h => ?_)
 ·obtain ⟨x, dx, a, p, s, y, rfl, _⟩ := h
  rfl
 obtain ⟨x, dx, a, p, sl, y, rfl, hx, q⟩ := h
 refine ⟨_, (Zc0 (Zdr (ZiF (Znh rfl T.m_Use) T.cm_Use___init__ G_Use___init__ (hr.mono (by decide)) T.b_Use___init__ .nil Zdp (ZcW (pv 0) (ZcW (pv 1) (ZcW (pv 2) (ZcW (pv 3) Zc1))))))
  (Zc4 (Zd8 (pv 0) (pv 4) rfl))), ?_⟩
 refine ⟨_, rfl, _, rfl, _, rfl, _, rfl, x, _, dx, a, p, sl, rfl, hx, T.cl_RowUse, T.n_RowUse_at, T.n_RowUse_place, T.n_RowUse_slot, ?_⟩
 refine ⟨_, rfl, _, rfl, x, _, dx, _, rfl, ZcX, T.cl_RowUse, T.n_RowUse_out, (by show 3 < 1000; decide), ?_⟩
 rw [ZdZ, ZmG "out" a p sl y (by decide +kernel) (by decide +kernel) (by decide +kernel)]
 exact q
def Zhg (C : Addr) : Sp := fun vs H Q _ => ∃ (x dx : Addr) (s f a p : V), vs = [.ref x, s, f, a, p] /\ H x = some (.ins C dx []) /\ Q .non (upd H x (.ins C dx (fM s f a p)))
theorem Zhh (T : Txt K mg) : Ze0 P w K mg base CX0 1 T.a_Make___init__ T.fd_Make___init__ ["self", "shape", "parts", "at", "place"] (Zhg T.a_Make) := by
 refine T.F_Make___init__.ok Zhf (fun vs H Q E h => ?_) (fun cdv A outer s H vs Q E hr h => ?_)
 ·obtain ⟨x, dx, s, f, a, p, rfl, _⟩ := h
  rfl
 obtain ⟨x, dx, sh, f, a, p, rfl, hx, q⟩ := h
 refine ⟨_, (Zc0 (Zd8 (pv 0) (pv 1) rfl)
  (Zc0 (Zd8 (pv 0) (pv 2) rfl)
  (Zc0 (Zd8 (pv 0) (pv 3) rfl)
  (Zc4 (Zd8 (pv 0) (pv 4) rfl))))), ?_⟩
 refine ⟨_, rfl, _, rfl, x, _, dx, [], rfl, hx, T.cl_Make, T.n_Make_shape, (by show 0 < 1000; decide), ?_⟩
 refine ⟨_, rfl, _, rfl, x, _, dx, _, rfl, ZcX, T.cl_Make, T.n_Make_parts, (by show 1 < 1000; decide), ?_⟩
 refine ⟨_, rfl, _, rfl, x, _, dx, _, rfl, ZcX, T.cl_Make, T.n_Make_at, ZeG (ZeG (by show 0 < 998; decide)), ?_⟩
 refine ⟨_, rfl, _, rfl, x, _, dx, _, rfl, ZcX, T.cl_Make, T.n_Make_place, ZeG (ZeG (ZeG (by show 0 < 997; decide))), ?_⟩
 rw [ZdZ, ZdZ, ZdZ, ZqU]
 exact q
end
section
variable {P : Program} {w : World} {K : PySem.W.Frag} {mg : Str -> Option Value} {base : Heap}
noncomputable def cs (T : Txt K mg) : Cs := ⟨T.a_Make, T.a_NumUse, T.a_CallUse, T.a_TakeUse, T.a_CaseUse, T.a_RowUse, T.a_Board⟩
theorem ns {x y : Str} (h : x ≠ y) : decide (V.str x = V.str y) = false := decide_eq_false fun z => by injection z with z; exact h z
theorem Mf.is_num {m : Mf} (h : m.s = "num") : m = .num := by
 cases m <;> first | rfl | exact absurd h (by simp only [Mf.s]; decide +kernel)
theorem Mf.is_fn {m : Mf} (h : m.s = "fn") : ∃ x y, m = .fn x y := by
 cases m <;> first | exact ⟨_, _, rfl⟩ | exact absurd h (by simp only [Mf.s]; decide +kernel)
theorem Mf.is_rcd {m : Mf} (h : m.s = "rec") : ∃ l, m = .rcd l := by
 cases m <;> first | exact ⟨_, rfl⟩ | exact absurd h (by simp only [Mf.s]; decide +kernel)
theorem Mf.is_tag {m : Mf} (h : m.s = "tag") : ∃ x y, m = .tag x y := by
 cases m <;> first | exact ⟨_, _, rfl⟩ | exact absurd h (by simp only [Mf.s]; decide +kernel)
theorem Mf.is_row {m : Mf} (h : m.s = "row") : ∃ x, m = .row x := by
 cases m <;> first | exact ⟨_, rfl⟩ | exact absurd h (by simp only [Mf.s]; decide +kernel)
theorem ZnY {a p s : Int} {m : Mf} (h : m.s ≠ "num") : ZhE (.num a p s) m = none := by
 cases m <;> first | rfl | exact absurd rfl h
theorem ZpR {a p s x y : Int} {m : Mf} (h : m.s ≠ "fn") : ZhE (.call a p s x y) m = none := by
 cases m <;> first | rfl | exact absurd rfl h
theorem ZnZ {a p s : Int} {l : List (Str × Int)} {m : Mf} (h : m.s ≠ "rec") : ZhE (.take a p s l) m = none := by
 cases m <;> first | rfl | exact absurd rfl h
theorem Zn0 {a p s : Int} {l : List (Str × Int)} {m : Mf} (h : m.s ≠ "tag") : ZhE (.case a p s l) m = none := by
 cases m <;> first | rfl | exact absurd rfl h
theorem Zn1 {a p s x : Int} {m : Mf} (h : m.s ≠ "row") : ZhE (.row a p s x) m = none := by
 cases m <;> first | rfl | exact absurd rfl h
def ZjO (c : Cs) (f : Us -> Prop) : Sp := fun vs H Q _ => ∃ (xv mv : V) (u : Us) (m : Mf) (ma mp : Int), vs = [xv, mv] /\ f u /\ u.dist /\ UsAt c H xv u /\ Zkg c H mv (mkg m ma mp) /\ m.ok /\ ∀ v H', Zdj H H' -> Dta H' v (mtD (ZhE u m)) -> Q v H'
theorem ZeM {H : Hp} {f : V} {l : List Dt} (h : Im H f (.tup l)) : ∃ t xs, f = .ref t /\ H t = some (.tup xs) /\ Ims H xs l := by
 cases h with
 | tup e hs => exact ⟨_, _, rfl, e, hs⟩
theorem ZpS {H : Hp} {xs : List V} {i : V} (h : Ims H xs [.flat i]) : xs = [i] := by
 cases h with
 | cons h hs => cases h; cases hs; rfl
theorem ZlG {H : Hp} {xs : List V} {i j : V} (h : Ims H xs [.flat i, .flat j]) : xs = [i, j] := by
 cases h with
 | cons h hs =>
  cases h
  rw [ZpS hs]
theorem ZiV (T : Txt K mg) : Ze0 P w K mg base CX0 1 T.a_NumUse_met T.fd_NumUse_met ["self", "make"] (ZjO (cs T) fun u => ∃ a p s, u = .num a p s) := by
 refine T.F_NumUse_met.ok ZiR (fun vs H Q E h => ?_) (fun cdv A outer s H vs Q E hr h => ?_)
 ·obtain ⟨xv, mv, u, m, ma, mp, rfl, _⟩ := h
  rfl
 obtain ⟨xv, mv, u, m, ma, mp, rfl, ⟨a, p, sl, rfl⟩, hd, ⟨x, dx, rfl, hx⟩, ⟨xm, dxm, f, rfl, hm, hf, _, _⟩, mo, q⟩ := h
 refine ⟨_, (Zc0 (Zdz (ZgY Zlm (Zes (pv 1) rfl) Zdm (Zdk _))
   (Zc4 (Zdd ZfO))
   Zdc)
  (Zc4 (Zdd (ZdJ Zc1)))), ?_⟩
 refine ⟨_, rfl, xm, _, dxm, _, _, rfl, hm, T.cl_Make, T.n_Make_shape, ZgR _ _ _ _, rfl, _, rfl, ?_⟩
 by_cases e : m.s = "num"
 ·rw [show decide (V.str (mkg m ma mp).s = V.str "num") = true from decide_eq_true (congrArg V.str e)]
  obtain rfl := Mf.is_num e
  exact Zen ⟨(by show 0 <= sizeLine; decide), fun l hl => q _ _ (Zc2 hl _) (.lst ZcX .nil)⟩
 ·rw [show decide (V.str (mkg m ma mp).s = V.str "num") = false from ns e]
  exact Zfh (q .non H (Zdj.refl _) (by rw [ZnY e]; exact .flat rfl))
theorem Zh2 (T : Txt K mg) : Ze0 P w K mg base CX0 1 T.a_CallUse_met T.fd_CallUse_met ["self", "make"] (ZjO (cs T) fun u => ∃ a p s x y, u = .call a p s x y) := by
 refine T.F_CallUse_met.ok Zh0 (fun vs H Q E h => ?_) (fun cdv A outer s H vs Q E hr h => ?_)
 ·obtain ⟨xv, mv, u, m, ma, mp, rfl, _⟩ := h
  rfl
 obtain ⟨xv, mv, u, m, ma, mp, rfl, ⟨a, p, sl, y, z, rfl⟩, hd, ⟨x, dx, rfl, hx⟩, ⟨xm, dxm, f, rfl, hm, hf, _, _⟩, mo, q⟩ := h
 refine ⟨_, (Zc0 (Zdz (ZgY Zlm (Zes (pv 1) rfl) Zdm (Zdk _))
   (Zc4 (Zdd ZfO))
   Zdc)
  (Zc4 (Zdd (ZdJ (ZcW (ZdB (ZcW (Zes (pv 0) rfl) (ZcW (Zc8 Zgi (Zes (pv 1) rfl) ZcY (fun _ _ => rfl)) Zc1))) (ZcW (ZdB (ZcW (Zc8 Zgi (Zes (pv 1) rfl) ZcY (fun _ _ => rfl)) (ZcW (Zes (pv 0) rfl) Zc1))) Zc1)))))), ?_⟩
 refine ⟨_, rfl, xm, _, dxm, _, _, rfl, hm, T.cl_Make, T.n_Make_shape, ZgR _ _ _ _, rfl, _, rfl, ?_⟩
 by_cases e : m.s = "fn"
 ·rw [show decide (V.str (mkg m ma mp).s = V.str "fn") = true from decide_eq_true (congrArg V.str e)]
  obtain ⟨u, v, rfl⟩ := Mf.is_fn e
  obtain ⟨t, xs, rfl, et, hs⟩ := ZeM hf
  obtain rfl := ZlG hs
  refine Zen ⟨_, rfl, x, _, dx, _, _, rfl, hx, T.cl_CallUse, T.n_CallUse_arg, ZoB _ _ _ _ _, _, rfl, xm, _, dxm, _, _, rfl, hm, T.cl_Make, T.n_Make_parts, ZfL _ _ _ _, t, _, _, _, rfl, rfl, SqT.of et, ZcZ (j := 0) rfl, (by show 2 <= sizeLine; decide), fun t1 h1 => ?_⟩
  have S1 := Zc2 h1 (.tup [.int y, .int u])
  refine ⟨_, rfl, xm, _, dxm, _, _, rfl, S1 _ _ hm, T.cl_Make, T.n_Make_parts, ZfL _ _ _ _, t, _, _, _, rfl, rfl, SqT.of (S1 _ _ et), ZcZ (j := 1) rfl, _, rfl, x, _, dx, _, _, rfl, S1 _ _ hx, T.cl_CallUse, T.n_CallUse_out, ZoC _ _ _ _ _, (by show 2 <= sizeLine; decide), fun t2 h2 => ?_⟩
  have S2 := Zc2 h2 (.tup [.int v, .int z])
  refine ⟨(by show 2 <= sizeLine; decide), fun l hl => ?_⟩
  have S3 := Zc2 hl (.lst [.ref t1, .ref t2])
  refine q _ _ ((S1.trans S2).trans S3) (.lst ZcX (.cons (.tup (S3 _ _ (S2 _ _ ZcX)) (.cons (.flat rfl) (.cons (.flat rfl) .nil))) (.cons (.tup (S3 _ _ ZcX) (.cons (.flat rfl) (.cons (.flat rfl) .nil))) .nil)))
 ·rw [show decide (V.str (mkg m ma mp).s = V.str "fn") = false from ns e]
  exact Zfh (q .non H (Zdj.refl _) (by rw [ZpR e]; exact .flat rfl))
theorem ZiW (T : Txt K mg) : Ze0 P w K mg base CX0 1 T.a_RowUse_met T.fd_RowUse_met ["self", "make"] (ZjO (cs T) fun u => ∃ a p s x, u = .row a p s x) := by
 refine T.F_RowUse_met.ok ZiS (fun vs H Q E h => ?_) (fun cdv A outer s H vs Q E hr h => ?_)
 ·obtain ⟨xv, mv, u, m, ma, mp, rfl, _⟩ := h
  rfl
 obtain ⟨xv, mv, u, m, ma, mp, rfl, ⟨a, p, sl, y, rfl⟩, hd, ⟨x, dx, rfl, hx⟩, ⟨xm, dxm, f, rfl, hm, hf, _, _⟩, mo, q⟩ := h
 refine ⟨_, (Zc0 (Zdz (ZgY Zlm (Zes (pv 1) rfl) Zdm (Zdk _))
   (Zc4 (Zdd ZfO))
   Zdc)
  (Zc4 (Zdd (ZdJ (ZcW (ZdB (ZcW (Zc8 Zgi (Zes (pv 1) rfl) ZcY (fun _ _ => rfl)) (ZcW (Zes (pv 0) rfl) Zc1))) Zc1))))), ?_⟩
 refine ⟨_, rfl, xm, _, dxm, _, _, rfl, hm, T.cl_Make, T.n_Make_shape, ZgR _ _ _ _, rfl, _, rfl, ?_⟩
 by_cases e : m.s = "row"
 ·rw [show decide (V.str (mkg m ma mp).s = V.str "row") = true from decide_eq_true (congrArg V.str e)]
  obtain ⟨u, rfl⟩ := Mf.is_row e
  obtain ⟨t, xs, rfl, et, hs⟩ := ZeM hf
  obtain rfl := ZpS hs
  refine Zen ⟨_, rfl, xm, _, dxm, _, _, rfl, hm, T.cl_Make, T.n_Make_parts, ZfL _ _ _ _, t, _, _, _, rfl, rfl, SqT.of et, ZcZ (j := 0) rfl, _, rfl, x, _, dx, _, _, rfl, hx, T.cl_RowUse, T.n_RowUse_out, Znr _ _ _ _, (by show 2 <= sizeLine; decide), fun t1 h1 => ?_⟩
  refine ⟨(by show 1 <= sizeLine; decide), fun l hl => ?_⟩
  have S1 := Zc2 h1 (.tup [.int u, .int y])
  have S3 := Zc2 hl (.lst [.ref t1])
  refine q _ _ (S1.trans S3) (.lst ZcX (.cons (.tup (S3 _ _ ZcX) (.cons (.flat rfl) (.cons (.flat rfl) .nil))) .nil))
 ·rw [show decide (V.str (mkg m ma mp).s = V.str "row") = false from ns e]
  exact Zfh (q .non H (Zdj.refl _) (by rw [Zn1 e]; exact .flat rfl))
theorem Zh3 (T : Txt K mg) : Ze0 P w K mg base CX0 1 T.a_CaseUse_met T.fd_CaseUse_met ["self", "make"] (ZjO (cs T) fun u => ∃ a p s l, u = .case a p s l) := by
 refine T.F_CaseUse_met.ok Zgm (fun vs H Q E h => ?_) (fun cdv A outer s H vs Q E hr h => ?_)
 ·obtain ⟨xv, mv, u, m, ma, mp, rfl, _⟩ := h
  rfl
 have hu : (A.deeper (ZcV "CaseUse.met" (Zc5 ZdW) s.heap.objs.size T.a_CaseUse_met cdv)).units + 1 < cLine := by have := hr.un; omega
 obtain ⟨xv, mv, u, m, ma, mp, rfl, ⟨a, p, sl, l, rfl⟩, hd, ⟨x, dx, g, rfl, hx, hg, hl⟩, ⟨xm, dxm, f, rfl, hm, hf, _, _⟩, mo, q⟩ := h
 refine ⟨_, (Zc0 (Zdz (ZgY Zlm (Zes (pv 1) rfl) Zdm (Zdk _))
   (Zc4 (Zdd ZfO))
   Zdc)
  (Zc0 (Zdn (i := 2) Zgm.nd rfl (.inl rfl) (ZeP (Zg1 rfl) rfl T.z_dict Zkd (ZcW (Zes (pv 0) rfl) Zc1)))
  (Zc0 (Zdz (ZfP (ZfX hu (Zc8 Zgi (Zes (pv 1) rfl) ZcY (fun _ _ => rfl)) (pv 2)) rfl)
   (Zc4 (Zdd ZfO))
   Zdc)
  (Zc4 (Zdd (ZdJ (ZcW (ZdB (ZcW (Zc8 Zgi (Zes (pv 1) rfl) ZcY (fun _ _ => rfl)) (ZcW (Zgq hu (pv 2) (Zc8 Zgi (Zes (pv 1) rfl) ZcY (fun _ _ => rfl)) (fun _ _ => rfl)) Zc1))) Zc1))))))), ?_⟩
 refine ⟨_, rfl, xm, _, dxm, _, _, rfl, hm, T.cl_Make, T.n_Make_shape, ZgR _ _ _ _, rfl, _, rfl, ?_⟩
 by_cases e : m.s = "tag"
 ·rw [show decide (V.str (mkg m ma mp).s = V.str "tag") = true from decide_eq_true (congrArg V.str e)]
  obtain ⟨u, v, rfl⟩ := Mf.is_tag e
  obtain ⟨t, xs, rfl, et, hs⟩ := ZeM hf
  obtain rfl := ZlG hs
  obtain ⟨tg, ys, rfl, eg, hys⟩ := ZeM hg
  refine Zen ⟨_, rfl, x, _, dx, _, _, rfl, hx, T.cl_CaseUse, T.n_CaseUse_arms, ZmI _ _ _ _, tg, ys, _, rfl, eg, Znj hys, by rw [Zar]; omega, fun d hd2 => ?_⟩
  have S1 := Zc2 hd2 (.dK (Zd5 [] ((l.map pI).map kf)))
  have ev := Zgd l [] u hd
  have dg : ∀ {H5 : Hp}, H5 d = some (.dK (Zd5 [] ((l.map pI).map kf))) -> ZgF H5 d (.str u) (ZeO (Zd5 [] ((l.map pI).map kf)) (Sum.inr u)) := fun h5 => ZgF.k (k := (Sum.inr u : Key)) h5
  refine ⟨_, rfl, xm, _, dxm, _, _, rfl, S1 _ _ hm, T.cl_Make, T.n_Make_parts, ZfL _ _ _ _, t, _, _, _, rfl, rfl, SqT.of (S1 _ _ et), ZcZ (j := 0) rfl, _, rfl, d, _, rfl, dg ZcX, _, rfl, ?_⟩
  cases ek : lk l u with
  | none =>
   rw [ev, ek]
   exact Zfh (q .non _ S1 (by rw [ZhE, ek]; exact .flat rfl))
  | some i =>
   replace ev : ZeO (Zd5 [] ((l.map pI).map kf)) (Sum.inr u) = some (.int i) := by rw [ev, ek]
   rw [ev]
   refine Zen ⟨_, rfl, xm, _, dxm, _, _, rfl, S1 _ _ hm, T.cl_Make, T.n_Make_parts, ZfL _ _ _ _, t, _, _, _, rfl, rfl, SqT.of (S1 _ _ et), ZcZ (j := 1) rfl, _, rfl, _, rfl, xm, _, dxm, _, _, rfl, S1 _ _ hm, T.cl_Make, T.n_Make_parts, ZfL _ _ _ _, t, _, _, _, rfl, rfl, SqT.of (S1 _ _ et), ZcZ (j := 0) rfl, d, .int i, rfl, (by rw [<- ev]; exact dg ZcX), (by show 2 <= sizeLine; decide), fun t1 h1 => ?_⟩
   refine ⟨(by show 1 <= sizeLine; decide), fun l2 hl2 => ?_⟩
   have S2 := Zc2 h1 (.tup [.int v, .int i])
   have S3 := Zc2 hl2 (.lst [.ref t1])
   refine q _ _ ((S1.trans S2).trans S3) ?_
   rw [ZhE, ek]
   exact .lst ZcX (.cons (.tup (S3 _ _ ZcX) (.cons (.flat rfl) (.cons (.flat rfl) .nil))) .nil)
 ·rw [show decide (V.str (mkg m ma mp).s = V.str "tag") = false from ns e]
  exact Zfh (q .non H (Zdj.refl _) (by rw [Zn0 e]; exact .flat rfl))
end
section
variable {P : Program} {w : World} {K : PySem.W.Frag} {mg : Str -> Option Value} {base : Heap}
theorem Zis {l m : List (Str × Int)} {k : Nat} {p : Str × Int} {x : Int} (e : l[k]? = some p) (ek : lk m p.1 = some x) : (l.take (k + 1)).filterMap (fnd m) = (l.take k).filterMap (fnd m) ++ [(x, p.2)] := by
 rw [Za2, e, Option.toList, List.filterMap_append]
 have : fnd m p = some (x, p.2) := by rw [fnd, ek]; rfl
 simp [this]
theorem Zh4 (T : Txt K mg) : Ze0 P w K mg base CX0 1 T.a_TakeUse_met T.fd_TakeUse_met ["self", "make"] (ZjO (cs T) fun u => ∃ a p s l, u = .take a p s l) := by
 refine T.F_TakeUse_met.ok Zfd (fun vs H Q E h => ?_) (fun cdv A outer s H vs Q E hr h => ?_)
 ·obtain ⟨xv, mv, u, m, ma, mp, rfl, _⟩ := h
  rfl
 have hu : (A.deeper (ZcV "TakeUse.met" (Zc5 ZdV) s.heap.objs.size T.a_TakeUse_met cdv)).units + 1 < cLine := by have := hr.un; omega
 obtain ⟨xv, mv, u, m, ma, mp, rfl, ⟨a, p, sl, l, rfl⟩, hd, ⟨x, dx, g, rfl, hx, hg, hl⟩, ⟨xm, dxm, f, rfl, hm, hf, _, _⟩, mo, q⟩ := h
 refine ⟨_, (Zc0 (Zdz (ZgY Zlm (Zes (pv 1) rfl) Zdm (Zdk _))
   (Zc4 (Zdd ZfO))
   Zdc)
  (Zc0 (Zdn (i := 2) Zfd.nd rfl (.inl rfl) (ZeP (Zg1 rfl) rfl T.z_dict Zkd (ZcW (Zes (pv 1) rfl) Zc1)))
  (Zc0 (Zdn (i := 3) Zfd.nd rfl (.inl rfl) (ZdJ Zc1))
  (Zc0 (Zet PassesOwn.never rfl (ZkM (Zes (pv 0) rfl)) (ZdG (i := 4) Zfd.nd rfl (.inl rfl))
   (Zc0 (Zdz (ZfP (ZfX hu (Zc8 Zgi (pv 4) ZcY (fun _ _ => rfl)) (pv 2)) rfl)
    (Zc4 (Zdd ZfO))
    Zdc)
   (Zc4 (Zdr (ZfT Zcv Zcw Zcx ZdA (pv 3) (ZcW (ZdB (ZcW (Zgq hu (pv 2) (Zc8 Zgi (pv 4) ZcY (fun _ _ => rfl)) (fun _ _ => rfl)) (ZcW (Zc8 Zgi (pv 4) ZcY (fun _ _ => rfl)) Zc1))) Zc1))))))
  (Zc4 (Zdd (pv 3))))))), ?_⟩
 have sl : sizeLine = 16777216 := sizeLine_eq
 refine ⟨_, rfl, xm, _, dxm, _, _, rfl, hm, T.cl_Make, T.n_Make_shape, ZgR _ _ _ _, rfl, _, rfl, ?_⟩
 by_cases e : m.s = "rec"
 ·rw [show decide (V.str (mkg m ma mp).s = V.str "rec") = true from decide_eq_true (congrArg V.str e)]
  obtain ⟨m, rfl⟩ := Mf.is_rcd e
  obtain ⟨t, xs, rfl, et, hs⟩ := ZeM hf
  obtain ⟨tg, ys, rfl, eg, hys⟩ := ZeM hg
  have ly := hys.length
  rw [Zar] at ly
  refine Zen ⟨_, rfl, xm, _, dxm, _, _, rfl, hm, T.cl_Make, T.n_Make_parts, ZfL _ _ _ _, t, xs, _, rfl, et, Znj hs, by rw [Zar]; have := mo.1; omega, fun d hd2 => ?_⟩
  have S1 := Zc2 hd2 (.dK (Zd5 [] ((m.map pI).map kf)))
  have ed : (upd H d (.dK (Zd5 [] ((m.map pI).map kf)))) d = some (.dK (Zd5 [] ((m.map pI).map kf))) := ZcX
  generalize upd H d (.dK (Zd5 [] ((m.map pI).map kf))) = H1 at S1 ed
  refine ⟨(by show 0 <= sizeLine; decide), fun fl hfl => ?_⟩
  have S2 := S1.trans (Zc2 hfl (.lst []))
  have fr : H fl = none := by
   cases h : H fl with
   | none => rfl
   | some o => rw [S1 _ _ h] at hfl; cases hfl
  have ed2 := Zc2 hfl (.lst []) _ _ ed
  refine ⟨_, rfl, x, _, dx, _, _, rfl, S2 _ _ hx, T.cl_TakeUse, T.n_TakeUse_fields, Zkr _ _ _ _, tg, rfl, ⟨_, SqT.of (S2 _ _ eg)⟩, ZlW (xs := ys) (fun i σ H2 => ∃ (o : Option V) (zs : List V), σ = [some (.ref x), some (.ref xm), some (.ref d), some (.ref fl), o] /\ Zdj H H2 /\ H2 d = some (.dK (Zd5 [] ((m.map pI).map kf))) /\ H2 fl = some (.lst zs) /\ zs.length = i /\ Ims H2 zs (((l.take i).filterMap (fnd m)).map flD))
   ⟨none, [], rfl, S2, ed2, ZcX, rfl, .nil⟩ (fun i σ H2 _ ⟨_, _, _, S, _⟩ => SqT.of (S _ _ eg)) ?_ ?_⟩
  ·rintro i v σ H2 hv ⟨o, zs, rfl, S, hd3, hf3, hzl, hz⟩
   have hi : i < ys.length := (Zaj.mp hv).1
   obtain ⟨pr, tt, e1, rfl, e2⟩ := ZjF (hys.mono (Zdj.tk S)) hv
   have ev := Zgd m [] pr.1 mo.2
   have dg : ∀ {H5 : Hp}, H5 d = some (.dK (Zd5 [] ((m.map pI).map kf))) -> ZgF H5 d (.str pr.1) (ZeO (Zd5 [] ((m.map pI).map kf)) (Sum.inr pr.1)) := fun h5 => ZgF.k (k := (Sum.inr pr.1 : Key)) h5
   refine ⟨_, rfl, tt, _, _, _, rfl, rfl, SqT.of e2, ZcZ (j := 0) rfl, _, rfl, d, _, rfl, dg hd3, _, rfl, ?_⟩
   cases ek : lk m pr.1 with
   | none =>
    rw [ev, ek]
    exact Zfh (q .non _ S (by rw [ZhE, Zip (ZaB e1) ek]; exact .flat rfl))
   | some z =>
    replace ev : ZeO (Zd5 [] ((m.map pI).map kf)) (Sum.inr pr.1) = some (.int z) := by rw [ev, ek]
    rw [ev]
    refine Zen ⟨_, rfl, .inl ⟨rfl, _, SqL.of hf3⟩, _, rfl, _, rfl, tt, _, _, _, rfl, rfl, SqT.of e2, ZcZ (j := 0) rfl, d, .int z, rfl, (by rw [<- ev]; exact dg hd3), _, rfl, tt, _, _, _, rfl, rfl, SqT.of e2, ZcZ (j := 1) rfl, (by show 2 <= sizeLine; decide), fun t1 h1 => ?_⟩
    have S3 := Zc2 h1 (.tup [.int z, .int pr.2])
    have hf4 := S3 _ _ hf3
    refine ⟨fl, _, _, rfl, rfl, hf4, by omega, ?_⟩
    have nd : d ≠ fl := Zdx hd3 hf3 (fun z => nomatch z)
    refine ⟨_, zs ++ [.ref t1], rfl, ZdX (S.trans S3) fr _, by rw [Zc6 nd]; exact S3 _ _ hd3, ZcX, by rw [ZaC, hzl]; rfl, ?_⟩
    rw [Zis e1 ek, ZaZ]
    have k4 := ZgL (o := .lst (zs ++ [.ref t1])) hf4
    exact ((hz.mono (Zdj.tk S3)).mono k4.tk).app (.cons (.tup (k4.tk _ _ ZcX) (.cons (.flat rfl) (.cons (.flat rfl) .nil))) .nil)
  ·rintro σ H2 ⟨o, zs, rfl, S, hd3, hf3, hzl, hz⟩
   have lz := hz.length
   rw [Zar, ly, Za9] at lz
   rw [ly, Za9] at hz
   refine ⟨_, rfl, q _ _ S ?_⟩
   rw [ZhE, ZjE, if_pos (by omega)]
   exact .lst hf3 hz.das
 ·rw [show decide (V.str (mkg m ma mp).s = V.str "rec") = false from ns e]
  exact Zfh (q .non H (Zdj.refl _) (by rw [ZnZ e]; exact .flat rfl))
end
theorem ZqX (p0 p1 p2 p3 : Addr) (r : V) : ZfG "root" r (ZfG "flows" (.ref p3) (ZfG "uses" (.ref p2) (ZfG "makes" (.ref p1) (ZfG "points" (.ref p0) [])))) = fB p0 p1 p2 p3 r := by
 have h1 : ¬ ("points" : Str) = "root" := by decide +kernel
 have h2 : ¬ ("makes" : Str) = "root" := by decide +kernel
 have h3 : ¬ ("uses" : Str) = "root" := by decide +kernel
 have h4 : ¬ ("flows" : Str) = "root" := by decide +kernel
 have h5 : ¬ ("points" : Str) = "flows" := by decide +kernel
 have h6 : ¬ ("makes" : Str) = "flows" := by decide +kernel
 have h7 : ¬ ("uses" : Str) = "flows" := by decide +kernel
 have h8 : ¬ ("points" : Str) = "uses" := by decide +kernel
 have h9 : ¬ ("makes" : Str) = "uses" := by decide +kernel
 have h10 : ¬ ("points" : Str) = "makes" := by decide +kernel
 simp only [ZfG, fB, if_neg h1, if_neg h2, if_neg h3, if_neg h4, if_neg h5, if_neg h6, if_neg h7, if_neg h8, if_neg h9, if_neg h10]
theorem Zd6 {H : Hp} {x dx : Addr} {o : HO} (hx : H x = none) (hd : H dx = none) : Zdj H (upd (upd H dx (.own x)) x o) := fun b u e => by
 rw [Zc6 (Zc9 e hx), Zc6 (Zc9 e hd)]; exact e
theorem ZjP (p0 p1 p2 p3 : Addr) (r : V) : (fB p0 p1 p2 p3 r).lookup ("points" : Str) = some (.ref p0) := by
 unfold fB
 rw [ZaN, show (("points" : Str) == "points") = true by decide +kernel]
theorem ZfM (p0 p1 p2 p3 : Addr) (r : V) : (fB p0 p1 p2 p3 r).lookup ("makes" : Str) = some (.ref p1) := by
 unfold fB
 rw [ZaN, show (("makes" : Str) == "points") = false by decide +kernel, ZaN, show (("makes" : Str) == "makes") = true by decide +kernel]
theorem ZgA (p0 p1 p2 p3 : Addr) (r : V) : (fB p0 p1 p2 p3 r).lookup ("uses" : Str) = some (.ref p2) := by
 unfold fB
 rw [ZaN, show (("uses" : Str) == "points") = false by decide +kernel, ZaN, show (("uses" : Str) == "makes") = false by decide +kernel, ZaN, show (("uses" : Str) == "uses") = true by decide +kernel]
theorem Zk9 (p0 p1 p2 p3 : Addr) (r : V) : (fB p0 p1 p2 p3 r).lookup ("flows" : Str) = some (.ref p3) := by
 unfold fB
 rw [ZaN, show (("flows" : Str) == "points") = false by decide +kernel, ZaN, show (("flows" : Str) == "makes") = false by decide +kernel, ZaN, show (("flows" : Str) == "uses") = false by decide +kernel, ZaN, show (("flows" : Str) == "flows") = true by decide +kernel]
section
variable {P : Program} {w : World} {K : PySem.W.Frag} {mg : Str -> Option Value} {base : Heap}
def Zg3 (C : Addr) : Sp := fun vs H Q _ => ∃ (x dx : Addr), vs = [.ref x] /\ H x = some (.ins C dx []) /\ ∀ (p0 p1 p2 p3 : Addr) (H' : Hp), (∀ a ∈ [p0, p1, p2, p3], H a = none) -> [p0, p1, p2, p3].Nodup -> H' x = some (.ins C dx (fB p0 p1 p2 p3 (.int 0))) -> Ls H' [p0, p1, p2, p3] [[], [], [], []] -> (∀ b o, H b = some o -> b ≠ x -> H' b = some o) -> Q .non H'
theorem Zg4 (T : Txt K mg) : Ze0 P w K mg base CX0 1 T.a_Board___init__ T.fd_Board___init__ ["self"] (Zg3 T.a_Board) := by
 refine T.F_Board___init__.ok Zg2 (fun vs H Q E h => ?_) (fun cdv A outer s H vs Q E hr h => ?_)
 ·obtain ⟨x, dx, rfl, _⟩ := h
  rfl
 obtain ⟨x, dx, rfl, hx, q⟩ := h
 refine ⟨_, (Zc0 (Zd8 (pv 0) (ZdJ Zc1) rfl)
  (Zc0 (Zd8 (pv 0) (ZdJ Zc1) rfl)
  (Zc0 (Zd8 (pv 0) (ZdJ Zc1) rfl)
  (Zc0 (Zd8 (pv 0) (ZdJ Zc1) rfl)
  (Zc4 (Zd8 (pv 0) ZcY rfl)))))), ?_⟩
 have z0 : (0 : Nat) <= sizeLine := by decide
 refine ⟨z0, fun p0 h0 => ⟨_, rfl, x, _, dx, _, rfl, (by rw [Zc6 (Zc9 hx h0)]; exact hx), T.cl_Board, T.n_Board_points, (by show 0 < 1000; decide), ?_⟩⟩
 refine ⟨z0, fun p1 h1 => ⟨_, rfl, x, _, dx, _, rfl, (by rw [Zc6 (Zc9 ZcX h1)]; exact ZcX), T.cl_Board, T.n_Board_makes, (by show 1 < 1000; decide), ?_⟩⟩
 refine ⟨z0, fun p2 h2 => ⟨_, rfl, x, _, dx, _, rfl, (by rw [Zc6 (Zc9 ZcX h2)]; exact ZcX), T.cl_Board, T.n_Board_uses, ZeG (ZeG (by show 0 < 998; decide)), ?_⟩⟩
 refine ⟨z0, fun p3 h3 => ⟨_, rfl, x, _, dx, _, rfl, (by rw [Zc6 (Zc9 ZcX h3)]; exact ZcX), T.cl_Board, T.n_Board_flows, ZeG (ZeG (ZeG (by show 0 < 997; decide))), ?_⟩⟩
 refine ⟨_, rfl, x, _, dx, _, rfl, ZcX, T.cl_Board, T.n_Board_root, ZeG (ZeG (ZeG (ZeG (by show 0 < 996; decide)))), ?_⟩
 have n0 : x ≠ p0 := Zc9 hx h0
 have n1 : x ≠ p1 := Zc9 ZcX h1
 have n2 : x ≠ p2 := Zc9 ZcX h2
 have n3 : x ≠ p3 := Zc9 ZcX h3
 have d10 : p0 ≠ p1 := Zc9 (by rw [Zc6 (Ne.symm n0)]; exact ZcX) h1
 have d20 : p0 ≠ p2 := Zc9 (by rw [Zc6 (Ne.symm n0), Zc6 d10, Zc6 (Ne.symm n0)]; exact ZcX) h2
 have d21 : p1 ≠ p2 := Zc9 (by rw [Zc6 (Ne.symm n1)]; exact ZcX) h2
 have d30 : p0 ≠ p3 := Zc9 (by rw [Zc6 (Ne.symm n0), Zc6 d20, Zc6 (Ne.symm n0), Zc6 d10, Zc6 (Ne.symm n0)]; exact ZcX) h3
 have d31 : p1 ≠ p3 := Zc9 (by rw [Zc6 (Ne.symm n1), Zc6 d21, Zc6 (Ne.symm n1)]; exact ZcX) h3
 have d32 : p2 ≠ p3 := Zc9 (by rw [Zc6 (Ne.symm n2)]; exact ZcX) h3
 rw [Zc6 (Ne.symm n1), Zc6 (Ne.symm d10)] at h1
 rw [Zc6 (Ne.symm n2), Zc6 (Ne.symm d21), Zc6 (Ne.symm n2), Zc6 (Ne.symm d20)] at h2
 rw [Zc6 (Ne.symm n3), Zc6 (Ne.symm d32), Zc6 (Ne.symm n3), Zc6 (Ne.symm d31), Zc6 (Ne.symm n3), Zc6 (Ne.symm d30)] at h3
 refine q p0 p1 p2 p3 _ ?_ ?_ ?_ ?_ ?_
 ·intro a ha
  simp only [Zag, ZaS, or_false] at ha
  rcases ha with e | e | e | e <;> rw [e] <;> assumption
 ·simp only [Zat, Zag, ZaS, or_false, not_or]
  exact ⟨⟨d10, d20, d30⟩, ⟨d21, d31⟩, d32, fun z => z, ZaI⟩
 ·rw [ZcX, ZqX]
 ·refine .cons ?_ (.cons ?_ (.cons ?_ (.cons ?_ .nil)))
  ·rw [Zc6 (Ne.symm n0), Zc6 (Ne.symm n0), Zc6 d30, Zc6 (Ne.symm n0), Zc6 d20, Zc6 (Ne.symm n0), Zc6 d10, Zc6 (Ne.symm n0)]; exact ZcX
  ·rw [Zc6 (Ne.symm n1), Zc6 (Ne.symm n1), Zc6 d31, Zc6 (Ne.symm n1), Zc6 d21, Zc6 (Ne.symm n1)]; exact ZcX
  ·rw [Zc6 (Ne.symm n2), Zc6 (Ne.symm n2), Zc6 d32, Zc6 (Ne.symm n2)]; exact ZcX
  ·rw [Zc6 (Ne.symm n3), Zc6 (Ne.symm n3)]; exact ZcX
 ·intro b o e hb
  rw [Zc6 hb, Zc6 hb, Zc6 (Zc9 e h3), Zc6 hb, Zc6 (Zc9 e h2), Zc6 hb, Zc6 (Zc9 e h1), Zc6 hb, Zc6 (Zc9 e h0)]
  exact e
def Zh5 (C : Addr) : Sp := fun vs H Q _ => ∃ (x dx p0 p1 p2 p3 : Addr) (r v : V) (xs : List V), vs = [.ref x, v] /\ H x = some (.ins C dx (fB p0 p1 p2 p3 r)) /\ H p0 = some (.lst xs) /\ xs.length < sizeLine /\ Q (.int xs.length) (upd H p0 (.lst (xs ++ [v])))
theorem Zh6 (T : Txt K mg) : Ze0 P w K mg base CX0 1 T.a_Board_point T.fd_Board_point ["self", "place"] (Zh5 T.a_Board) := by
 refine T.F_Board_point.ok Zh1 (fun vs H Q E h => ?_) (fun cdv A outer s H vs Q E hr h => ?_)
 ·obtain ⟨x, dx, p0, p1, p2, p3, r, v, xs, rfl, _⟩ := h
  rfl
 obtain ⟨x, dx, p0, p1, p2, p3, r, v, xs, rfl, hx, h0, hl, q⟩ := h
 refine ⟨_, (Zc0 (Zdr (ZfT Zcv Zcw Zcx ZdA (Zes (pv 0) rfl) (ZcW (pv 1) Zc1)))
  (Zc4 (Zdd (Zeb ZnF (Zdq Zdw rfl T.z_len Zfo (ZcW (Zes (pv 0) rfl) Zc1)) ZcY)))), ?_⟩
 refine ⟨_, rfl, x, _, dx, _, _, rfl, hx, T.cl_Board, T.n_Board_points, ZjP _ _ _ _ _, .inl ⟨rfl, _, SqL.of h0⟩, _, rfl, p0, _, _, rfl, rfl, h0, hl, ?_⟩
 have hx2 : (upd H p0 (.lst (xs ++ [v]))) x = some (.ins T.a_Board dx (fB p0 p1 p2 p3 r)) := by rw [Zc6 (Zdx hx h0 (fun z => nomatch z))]; exact hx
 refine ⟨_, rfl, x, _, dx, _, _, rfl, hx2, T.cl_Board, T.n_Board_points, ZjP _ _ _ _ _, p0, _, rfl, .inl (SqL.of ZcX), _, _, rfl, rfl, ?_⟩
 show Q (V.int (((xs ++ [v]).length : Int) - 1)) _
 rw [ZaC, show (((xs.length + [v].length : Nat) : Int) - 1) = (xs.length : Int) by simp]
 exact q
def ZiX (C M : Addr) : Sp := fun vs H Q _ => ∃ (x dx p0 p1 p2 p3 : Addr) (r s f a p : V) (xs : List V), vs = [.ref x, s, f, a, p] /\ H x = some (.ins C dx (fB p0 p1 p2 p3 r)) /\ H p1 = some (.lst xs) /\ xs.length < sizeLine /\ ∀ m dm, H m = none -> H dm = none -> Q .non (upd (upd (upd H dm (.own m)) m (.ins M dm (fM s f a p))) p1 (.lst (xs ++ [.ref m])))
theorem ZiY (T : Txt K mg) : Ze0 P w K mg base CX0 3 T.a_Board_make T.fd_Board_make ["self", "shape", "parts", "at", "place"] (ZiX T.a_Board T.a_Make) := by
 have G_Make___init__ := Zhh (P := P) (w := w) (base := base) T
 refine T.F_Board_make.ok ZiT (fun vs H Q E h => ?_) (fun cdv A outer s H vs Q E hr h => ?_)
 ·obtain ⟨x, dx, p0, p1, p2, p3, r, s, f, a, p, xs, rfl, _⟩ := h
  rfl
 obtain ⟨x, dx, p0, p1, p2, p3, r, sh, f, a, p, xs, rfl, hx, h0, hl, q⟩ := h
 refine ⟨_, (Zc4 (Zdr (ZfT Zcv Zcw Zcx ZdA (Zes (pv 0) rfl) (ZcW (ZfH T.mk_Make G_Make___init__ (hr.mono (by decide)) rfl T.m_Make T.b_Make___init__ .nil Zdp (ZcW (pv 1) (ZcW (pv 2) (ZcW (pv 3) (ZcW (pv 4) Zc1))))) Zc1)))), ?_⟩
 refine ⟨_, rfl, x, _, dx, _, _, rfl, hx, T.cl_Board, T.n_Board_makes, ZfM _ _ _ _ _, .inl ⟨rfl, _, SqL.of h0⟩, _, rfl, _, rfl, _, rfl, _, rfl, fun m dm hm hdm nm => ?_⟩
 refine ⟨m, dm, _, _, _, _, rfl, ZcX, rfl, ?_⟩
 rw [ZdZ]
 have h1 : (upd (upd H dm (.own m)) m (.ins T.a_Make dm (fM sh f a p))) p1 = some (.lst xs) := Zd6 hm hdm _ _ h0
 exact ⟨p1, _, _, rfl, rfl, h1, hl, q m dm hm hdm⟩
def ZjQ (C : Addr) : Sp := fun vs H Q _ => ∃ (x dx p0 p1 p2 p3 : Addr) (r v : V) (xs : List V), vs = [.ref x, v] /\ H x = some (.ins C dx (fB p0 p1 p2 p3 r)) /\ H p2 = some (.lst xs) /\ xs.length < sizeLine /\ Q .non (upd H p2 (.lst (xs ++ [v])))
theorem ZjR (T : Txt K mg) : Ze0 P w K mg base CX0 1 T.a_Board_use T.fd_Board_use ["self", "one"] (ZjQ T.a_Board) := by
 refine T.F_Board_use.ok ZjN (fun vs H Q E h => ?_) (fun cdv A outer s H vs Q E hr h => ?_)
 ·obtain ⟨x, dx, p0, p1, p2, p3, r, v, xs, rfl, _⟩ := h
  rfl
 obtain ⟨x, dx, p0, p1, p2, p3, r, v, xs, rfl, hx, h0, hl, q⟩ := h
 refine ⟨_, (Zc4 (Zdr (ZfT Zcv Zcw Zcx ZdA (Zes (pv 0) rfl) (ZcW (pv 1) Zc1)))), ?_⟩
 exact ⟨_, rfl, x, _, dx, _, _, rfl, hx, T.cl_Board, T.n_Board_uses, ZgA _ _ _ _ _, .inl ⟨rfl, _, SqL.of h0⟩, _, rfl, p2, _, _, rfl, rfl, h0, hl, q⟩
def ZiZ (C : Addr) : Sp := fun vs H Q _ => ∃ (x dx p0 p1 p2 p3 : Addr) (r v u : V) (xs : List V), vs = [.ref x, v, u] /\ H x = some (.ins C dx (fB p0 p1 p2 p3 r)) /\ H p3 = some (.lst xs) /\ xs.length < sizeLine /\ ∀ t, H t = none -> Q .non (upd (upd H t (.tup [v, u])) p3 (.lst (xs ++ [.ref t])))
theorem Zi0 (T : Txt K mg) : Ze0 P w K mg base CX0 1 T.a_Board_flow T.fd_Board_flow ["self", "p", "q"] (ZiZ T.a_Board) := by
 refine T.F_Board_flow.ok ZiU (fun vs H Q E h => ?_) (fun cdv A outer s H vs Q E hr h => ?_)
 ·obtain ⟨x, dx, p0, p1, p2, p3, r, v, u, xs, rfl, _⟩ := h
  rfl
 obtain ⟨x, dx, p0, p1, p2, p3, r, v, u, xs, rfl, hx, h0, hl, q⟩ := h
 refine ⟨_, (Zc4 (Zdr (ZfT Zcv Zcw Zcx ZdA (Zes (pv 0) rfl) (ZcW (ZdB (ZcW (pv 1) (ZcW (pv 2) Zc1))) Zc1)))), ?_⟩
 refine ⟨_, rfl, x, _, dx, _, _, rfl, hx, T.cl_Board, T.n_Board_flows, Zk9 _ _ _ _ _, .inl ⟨rfl, _, SqL.of h0⟩, _, rfl, _, rfl, (by show 2 <= sizeLine; decide), fun t ht => ?_⟩
 exact ⟨p3, _, _, rfl, rfl, Zc2 ht _ _ _ h0, hl, q t ht⟩
end
theorem ZgT {K : PySem.W.Frag} {a : Addr} {xs : List V} {g : TG} {tb : TS.Internal} {D : Zjm} {σ : St} {H : Hp} (Pv : Nat -> St -> Hp -> Prop) (h0 : Pv 0 σ H) (hl : ∀ i σ H, i <= xs.length -> Pv i σ H -> SqL K H a xs)
  (hs : ∀ (i : Nat) (x : V) (σ : St) (H : Hp) (T : Addr), xs[i]? = some x -> Pv i σ H -> H T = none -> g (.ref T) σ (upd H T (.tup [.int (i : Int), x])) fun σ2 H2 => tb { D with nx := Pv (i + 1), ct := Pv (i + 1), bk := D.nx } σ2 H2) (hd : ∀ σ H, Pv xs.length σ H -> D.nx σ H) :
  ∃ W : Nat -> Nat -> St -> Hp -> Prop, (∃ m, W 0 m σ H) /\ ∀ i m σ H, W i m σ H ->
   ((Ite K a).stop i H /\ D.nx σ H) \/ ((Ite K a).go i H /\ ∃ N : St -> Hp -> Prop, (∀ σ' H', N σ' H' -> ∃ m', m' < m /\ W (i + 1) m' σ' H') /\ ∀ x H', (Ite K a).yld i H x H' -> g x σ H' fun σ2 H2 => tb { D with nx := N, ct := N, bk := D.nx } σ2 H2) := by
 refine ⟨fun i m σ H => m = xs.length - i /\ i <= xs.length /\ Pv i σ H, ⟨xs.length, by simp, ZbE _, h0⟩, ?_⟩
 rintro i m σ H ⟨rfl, hi, p⟩
 have q := hl i σ H hi p
 by_cases hlt : i < xs.length
 ·refine .inr ⟨⟨xs, xs[i], q, by simp [hlt]⟩, Pv (i + 1), fun σ' H' p' => ⟨xs.length - (i + 1), by omega, rfl, hlt, p'⟩, fun v H' y => ?_⟩
  obtain ⟨T, x, rfl, hT, rfl, hx⟩ := y
  exact hs i x σ H T (hx xs q) p hT
 ·have e : i = xs.length := by omega
  subst e
  exact .inl ⟨⟨xs, q, rfl⟩, hd σ H p⟩
theorem ZfN {f : Str} {v : V} {r : List (Str × V)} : Zap f ((f, v) :: r) = some v := by
 rw [ZaN, show (f == f) = true by simp]
theorem Zer {f g : Str} {v : V} {r : List (Str × V)} (h : (f == g) = false) : Zap f ((g, v) :: r) = Zap f r := by
 rw [ZaN, h]
theorem Zfx {f : Str} {v : V} : ∀ {fs : List (Str × V)} (ns : List Str), fs.map Prod.fst = ns -> f ∉ ns -> ZfG f v fs = fs ++ [(f, v)]
 | [], _, _, _ => rfl
 | p :: t, _, rfl, h => by
  rw [Zaq, Zag, not_or] at h
  have : ¬ p.1 = f := fun z => h.1 z.symm
  simp only [ZfG, if_neg this, ZaF]
  rw [Zfx _ rfl h.2]
noncomputable def fS (b ua r bd kn g h : Addr) : List (Str × V) := [("board", .ref b), ("uses_at", .ref ua), ("rows", .ref r), ("bads", .ref bd), ("known", .ref kn), ("goes", .ref g), ("heres", .ref h)]
noncomputable def fL (r bd : Addr) : List (Str × V) := [("rows", .ref r), ("bads", .ref bd)]
noncomputable def _root_.BO.Internal.Us.at : Us -> Int
 | .num a _ _ => a
 | .call a _ _ _ _ => a
 | .take a _ _ _ => a
 | .case a _ _ _ => a
 | .row a _ _ _ => a
noncomputable def atU (us : List Us) (j : Nat) : Option Int := (us[j]?).map Us.at
section
variable {P : Program} {w : World} {K : PySem.W.Frag} {mg : Str -> Option Value} {base : Heap}
theorem ZpT (T : Txt K mg) {H : Hp} {v : V} {u : Us} (h : UsAt (cs T) H v u) : ∃ x C dx fs, v = .ref x /\ H x = some (.ins C dx fs) /\ Cls K C /\ Zdo K C "at" /\ fs.lookup ("at" : Str) = some (.int u.at) := by
 cases u with
 | num a p s => obtain ⟨x, dx, rfl, e⟩ := h; exact ⟨x, _, dx, _, rfl, e, T.cl_NumUse, T.n_NumUse_at, ZqV _ _ _⟩
 | call a p s y z => obtain ⟨x, dx, rfl, e⟩ := h; exact ⟨x, _, dx, _, rfl, e, T.cl_CallUse, T.n_CallUse_at, ZpQ _ _ _ _ _⟩
 | take a p s l => obtain ⟨x, dx, f, rfl, e, _⟩ := h; exact ⟨x, _, dx, _, rfl, e, T.cl_TakeUse, T.n_TakeUse_at, ZoD _ _ _ _⟩
 | case a p s l => obtain ⟨x, dx, f, rfl, e, _⟩ := h; exact ⟨x, _, dx, _, rfl, e, T.cl_CaseUse, T.n_CaseUse_at, ZoE _ _ _ _⟩
 | row a p s y => obtain ⟨x, dx, rfl, e⟩ := h; exact ⟨x, _, dx, _, rfl, e, T.cl_RowUse, T.n_RowUse_at, ZoF _ _ _ _⟩
noncomputable def ixv (us : List Us) (n : Nat) (p : Int) : List V := (ixn (atU us) p n).map V.int
theorem ZoH {us : List Us} {i : Nat} {u : Us} (h : us[i]? = some u) : Zm1 (ixv us i) u.at (.int (i : Int)) = ixv us (i + 1) := by
 funext q
 have e : atU us i = some u.at := by rw [atU, h]; rfl
 unfold Zm1 ixv
 rw [Znm, e]
 by_cases z : q = u.at
 ·rw [if_pos z, if_pos (by rw [z]), z, ZaZ]; rfl
 ·rw [if_neg z, if_neg (fun y => z (ZbR.inj y).symm), Zas]
def Zhi (c : Cs) : Sp := fun vs H Q _ => ∃ (b dx p0 p1 p2 p3 : Addr) (r : V) (uv : List V) (us : List Us), vs = [.ref b] /\ H b = some (.ins c.B dx (fB p0 p1 p2 p3 r)) /\ H p2 = some (.lst uv) /\ ZgJ (UsAt c H) uv us /\ us.length <= 1000 /\
 ∀ d L H', Zdj H H' -> H d = none -> (∀ a ∈ L, H a = none /\ ∃ o, H' a = some o) -> DL H' d L (ixv us us.length) us.length -> Q (.ref d) H'
theorem Zhj (T : Txt K mg) : Ze0 P w K mg base CX0 1 T.a_uses_by_point T.fd_uses_by_point ["board"] (Zhi (cs T)) := by
 refine T.F_uses_by_point.ok ZeT (fun vs H Q E h => ?_) (fun cdv A outer s H vs Q E hr h => ?_)
 ·obtain ⟨b, dx, p0, p1, p2, p3, r, uv, us, rfl, _⟩ := h
  rfl
 obtain ⟨b, dx, p0, p1, p2, p3, r, uv, us, rfl, hb, h2, hU, hn, q⟩ := h
 refine ⟨_, (Zc0 (Zdn (i := 1) ZeT.nd rfl (.inl rfl) ZgG)
  (Zc0 (Zet PassesOwn.never rfl (ZhC rfl T.z_enumerate (ZcW (Zdi T.cl_Board T.n_Board_uses (cv 0)) Zc1)) (Zjo rfl (Ze9 (ZdG (i := 2) ZeT.nd rfl (.inl rfl)) (Ze9 (ZdG (i := 3) ZeT.nd rfl (.inl rfl)) Zhs)))
   (Zc4 (Zdr (Ze4 (ZfT Zcv Zcw Zcx ZdA (PE.mono (ZiH (cv 1) (Zes (cv 3) rfl) (ZdJ Zc1) ⟨rfl, rfl, rfl, rfl⟩)) (ZcW (PE.mono (cv 2)) Zc1))))))
  (Zc4 (Zdd (cv 1))))), ?_⟩
 have sl : sizeLine = 16777216 := sizeLine_eq
 intro d hd
 have s1 := Zc2 hd (.dK [])
 refine ⟨_, ⟨dx, _, s1 _ _ hb, ZgA _ _ _ _ _⟩, p2, rfl, ⟨_, SqL.of (s1 _ _ h2)⟩, ZgT (xs := uv) (fun i σ H2 => ∃ (o2 o3 : Option V) (L : List Addr), σ = [some (.ref b), some (.ref d), o2, o3] /\ Zdj H H2 /\ (∀ a ∈ L, H a = none /\ ∃ o, H2 a = some o) /\ DL H2 d L (ixv us i) i)
  ⟨none, none, [], rfl, s1, fun a ha => absurd ha (ZaS), [], ZcX, ZbE _, fun p _ => rfl, fun p v e => (by cases e), fun p q v e => (by cases e)⟩ (fun i σ H2 _ ⟨_, _, _, _, S, _⟩ => SqL.of (S _ _ h2)) ?_ ?_⟩
 ·rintro i x σ H2 t hx ⟨o2, o3, L, rfl, S, hL, W⟩ ht
  have hi := (Zaj.mp hx).1
  have hlen := hU.length
  obtain ⟨u, hu', hux⟩ := hU.get hx
  have sT := Zc2 ht (.tup [.int (i : Int), x])
  refine ⟨t, _, rfl, SqT.of ZcX, rfl, _, _, rfl, _, _, rfl, rfl, ?_⟩
  have W1 : DL (upd H2 t (.tup [.int (i : Int), x])) d L (ixv us i) i := W.same fun a o e _ => sT _ _ e
  have S1 : Zdj H (upd H2 t (.tup [.int (i : Int), x])) := S.trans sT
  generalize upd H2 t (.tup [.int (i : Int), x]) = H3 at W1 S1 sT ⊢
  obtain ⟨xu, C, dxu, fs, rfl, exu, cl, na, el⟩ := ZpT T (hux.mono (Zdj.fk S1))
  refine ⟨d, rfl, .inl (by obtain ⟨kvs, e, _⟩ := W1; exact ⟨kvs, .inl e⟩), xu, C, dxu, fs, _, rfl, exu, cl, na, el, (by show 0 <= sizeLine; decide), fun z hz => ?_⟩
  obtain ⟨kvs, ek, hl, c1, c2⟩ := W1.sda u.at hz
  have fin : ∀ (l : Addr) (H4 : Hp), Sda H3 d L (ixv us i) i u.at l H4 -> ∃ xs, H4 l = some (.lst xs) /\ xs.length < sizeLine /\ ∃ (o2 o3 : Option V) (L : List Addr), [some (V.ref b), some (V.ref d), some (V.int (i : Int)), some (V.ref xu)] = [some (.ref b), some (.ref d), o2, o3] /\ Zdj H (upd H4 l (.lst (xs ++ [V.int (i : Int)]))) /\ (∀ a ∈ L, H a = none /\ ∃ o, (upd H4 l (.lst (xs ++ [V.int (i : Int)]))) a = some o) /\ DL (upd H4 l (.lst (xs ++ [V.int (i : Int)]))) d L (ixv us (i + 1)) (i + 1) := fun l H4 A => by
   obtain ⟨L', hL', W'⟩ := A.fin H4 (.int (i : Int)) (Zdj.refl _)
   have nl : H l = none := by
    rcases A.own with m | m
    ·exact (hL l m).1
    ·cases e : H l with
     | none => rfl
     | some o => rw [S1 _ _ e] at m; cases m
   have dn : ∀ a o, H a = some o -> a ≠ d := fun a o e z => by rw [z, hd] at e; cases e
   refine ⟨_, A.here, ?_, _, _, L', rfl, fun a o e => ?_, fun a ha => ?_, ?_⟩
   ·unfold ixv
    rw [Zar]
    have := Zki (A := atU us) (p := u.at) (n := i)
    omega
   ·rw [Zc6 (fun z => by rw [z, nl] at e; cases e)]
    exact A.fr a o (S1 _ _ e) (dn a o e)
   ·by_cases y : a = l
    ·rw [y]; exact ⟨nl, _, ZcX⟩
    ·rcases hL' a ha with m | m
     ·obtain ⟨o, eo⟩ := (hL a m).2
      by_cases z : a = d
      ·rw [z]; obtain ⟨kv, ekv, _⟩ := W'; exact ⟨hd, _, ekv⟩
      ·exact ⟨(hL a m).1, o, by rw [Zc6 y]; exact A.fr a o (sT _ _ eo) z⟩
     ·exact absurd m y
   ·rw [ZoH hu'] at W'
    exact W'
  refine ⟨kvs, Sum.inl u.at, ek, rfl, by omega, fun v hv => ?_, fun hnone => ?_⟩
  ·obtain ⟨l, rfl, A⟩ := c1 v hv
   exact ⟨⟨_, A.here⟩, fin l _ A⟩
  ·have A := c2 hnone
   exact ⟨⟨_, A.here⟩, fin z _ A⟩
 ·rintro σ H2 ⟨o2, o3, L, rfl, S, hL, W⟩
  rw [hU.length] at W
  exact q d L H2 S hd hL W
def ZhS (C : Addr) : Sp := fun vs H Q _ => ∃ (x dx r bd : Addr), vs = [.ref x, .ref r, .ref bd] /\ H x = some (.ins C dx []) /\ Q .non (upd H x (.ins C dx (fL r bd)))
theorem Zf3 (T : Txt K mg) : Ze0 P w K mg base CX0 1 T.a_Log___init__ T.fd_Log___init__ ["self", "rows", "bads"] (ZhS T.a_Log) := by
 refine T.F_Log___init__.ok ZhQ (fun vs H Q E h => ?_) (fun cdv A outer s H vs Q E hr h => ?_)
 ·obtain ⟨x, dx, r, bd, rfl, _⟩ := h
  rfl
 obtain ⟨x, dx, r, bd, rfl, hx, q⟩ := h
 refine ⟨_, (Zc0 (ZfJ T.cl_Log T.n_Log_rows (Zd8 (PE.mono (cv 0)) (PE.mono (cv 1)) rfl))
  (Zc4 (ZfJ T.cl_Log T.n_Log_bads (Zd8 (PE.mono (cv 0)) (PE.mono (cv 2)) rfl)))), ?_⟩
 refine ⟨dx, _, hx, (by show 0 < 1000; decide), dx, _, ZcX, (by show 1 < 1000; decide), ?_⟩
 rw [ZdZ, Zfx ["rows"] rfl (by decide +kernel)]
 exact q
end
def InR (N x : Int) : Prop := 0 <= x /\ x < N
noncomputable def _root_.BO.Internal.Mf.rng (N : Int) : Mf -> Prop
 | .fn x y => InR N x /\ InR N y
 | .rcd l => ∀ p ∈ l, InR N p.2
 | .tag _ x => InR N x
 | .row x => InR N x
 | _ => True
noncomputable def _root_.BO.Internal.Us.rng (N : Int) : Us -> Prop
 | .call _ _ _ x y => InR N x /\ InR N y
 | .take _ _ _ l => ∀ p ∈ l, InR N p.2
 | .case _ _ _ l => ∀ p ∈ l, InR N p.2
 | .row _ _ _ x => InR N x
 | .num _ _ _ => True
theorem ZmJ {N : Int} : ∀ {l : List (Str × Int)} {w : Str} {x : Int}, (∀ p ∈ l, InR N p.2) -> lk l w = some x -> InR N x
 | [], _, _, _, e => by cases e
 | p :: t, w, x, h, e => by
  rw [lk] at e
  by_cases z : p.1 = w
  ·rw [if_pos z] at e; cases e; exact h p (by simp)
  ·rw [if_neg z] at e; exact ZmJ (fun q hq => h q (by simp [hq])) e
theorem Zns {N : Int} {u : Us} {m : Mf} {l : List (Int × Int)} (hu : u.rng N) (hm : m.rng N) (e : ZhE u m = some l) : ∀ p ∈ l, InR N p.1 /\ InR N p.2 := by
 cases u with
 | num a p s => cases m <;> cases e; simp
 | call a p s x y =>
  cases m <;> cases e
  intro p hp
  simp only [Zag, ZaS, or_false] at hp
  rcases hp with rfl | rfl
  ·exact ⟨hu.1, hm.1⟩
  ·exact ⟨hm.2, hu.2⟩
 | take a p s l' =>
  cases m <;> try (cases e; done)
  rename_i k
  change ZjE l' k = some l at e
  unfold ZjE at e
  split at e
  ·cases e
   intro p hp
   obtain ⟨q, hq, e⟩ := Zam.mp hp
   unfold fnd at e
   cases z : lk k q.1 with
   | none => rw [z] at e; cases e
   | some x => rw [z] at e; cases e; exact ⟨ZmJ hm z, hu q hq⟩
  ·cases e
 | case a p s l' =>
  cases m <;> try (cases e; done)
  rename_i w x
  change (lk l' w).map _ = some l at e
  cases z : lk l' w with
  | none => rw [z] at e; cases e
  | some y =>
   rw [z] at e
   cases e
   intro p hp
   simp only [Zag, ZaS, or_false] at hp
   subst hp
   exact ⟨hm, ZmJ hu z⟩
 | row a p s x =>
  cases m <;> cases e
  intro p hp
  simp only [Zag, ZaS, or_false] at hp
  subst hp
  exact ⟨hm, hu⟩
structure Mk3 where
 f : Mf
 a : Int
 p : Int
def M3 (c : Cs) (H : Hp) (v : V) (m : Mk3) : Prop := Zkg c H v (mkg m.f m.a m.p)
structure Dat (N : Int) (ms : List Mk3) (us : List Us) (fs : List (Int × Int)) : Prop where
 n0 : 0 < N
 n1 : N <= 64
 lm : ms.length <= 64
 lu : us.length <= 64
 lf : fs.length <= 64
 mo : ∀ m ∈ ms, m.f.ok /\ m.f.rng N /\ InR N m.a
 uo : ∀ u ∈ us, u.dist /\ u.rng N
 fo : ∀ p ∈ fs, InR N p.1 /\ InR N p.2
structure Sx where
 s : Addr
 dx : Addr
 b : Addr
 bx : Addr
 p0 : Addr
 p1 : Addr
 p2 : Addr
 p3 : Addr
 ua : Addr
 r : Addr
 bd : Addr
 kn : Addr
 g : Addr
 h : Addr
 Lu : List Addr
structure ZhT (c : Cs) (S : Addr) (H0 : Hp) (x : Sx) (ms : List Mk3) (us : List Us) : Prop where
 s : H0 x.s = some (.ins S x.dx (fS x.b x.ua x.r x.bd x.kn x.g x.h))
 b : H0 x.b = some (.ins c.B x.bx (fB x.p0 x.p1 x.p2 x.p3 (.int 0)))
 m : ∃ mv, H0 x.p1 = some (.lst mv) /\ ZgJ (M3 c H0) mv ms
 u : ∃ uv, H0 x.p2 = some (.lst uv) /\ ZgJ (UsAt c H0) uv us
 ua : DL H0 x.ua x.Lu (ixv us us.length) us.length
 r : ∃ l, H0 x.r = some (.lst l)
 bd : ∃ l, H0 x.bd = some (.lst l)
 kn : ∃ l, H0 x.kn = some (.dT l)
 g : ∃ l, H0 x.g = some (.dK l)
 h : ∃ l, H0 x.h = some (.dK l)
 n1 : x.r ≠ x.bd
 n2 : x.g ≠ x.h
 n3 : x.ua ≠ x.g
 n4 : x.ua ≠ x.h
 n5 : x.p1 ≠ x.r
 n6 : x.p1 ≠ x.bd
 n7 : x.p2 ≠ x.r
 n8 : x.p2 ≠ x.bd
 n9 : ∀ a ∈ x.Lu, a ≠ x.r /\ a ≠ x.bd
structure Two (H0 H : Hp) (d e : Addr) (N M : Int -> List (Int × Int)) (k : Nat) (Ld Le : List Addr) (fd fe : Int -> List V) : Prop where
 d : DL H d Ld fd k
 e : DL H e Le fe k
 d0 : ∀ a ∈ Ld, H0 a = none /\ ∃ o, H a = some o
 e0 : ∀ a ∈ Le, H0 a = none /\ ∃ o, H a = some o
 ap : ∀ a ∈ Ld, a ∉ Le
 dv : ∀ p, (fd p).length <= k /\ Ims H (fd p) ((N p).map flD)
 ev : ∀ p, (fe p).length <= k /\ Ims H (fe p) ((M p).map flD)
theorem Two.swap {H0 H : Hp} {d e : Addr} {N M : Int -> List (Int × Int)} {k : Nat} {Ld Le : List Addr} {fd fe : Int -> List V} (W : Two H0 H d e N M k Ld Le fd fe) : Two H0 H e d M N k Le Ld fe fd :=
 ⟨W.e, W.d, W.e0, W.d0, fun a h1 h2 => W.ap a h2 h1, W.ev, W.dv⟩
theorem Two.frame {H0 H H' : Hp} {d e : Addr} {N M : Int -> List (Int × Int)} {k : Nat} {Ld Le : List Addr} {fd fe : Int -> List V} (W : Two H0 H d e N M k Ld Le fd fe) (s : ∀ a o, H a = some o -> (a = d \/ a = e \/ H0 a = none) -> H' a = some o) (tk : TK H H') : Two H0 H' d e N M k Ld Le fd fe :=
 ⟨W.d.same fun a o h m => s a o h (m.elim .inl fun m => .inr (.inr (W.d0 a m).1)), W.e.same fun a o h m => s a o h (m.elim (fun z => .inr (.inl z)) fun m => .inr (.inr (W.e0 a m).1)),
  fun a m => ⟨(W.d0 a m).1, let ⟨o, h⟩ := (W.d0 a m).2; ⟨o, s a o h (.inr (.inr (W.d0 a m).1))⟩⟩, fun a m => ⟨(W.e0 a m).1, let ⟨o, h⟩ := (W.e0 a m).2; ⟨o, s a o h (.inr (.inr (W.e0 a m).1))⟩⟩, W.ap,
  fun p => ⟨(W.dv p).1, (W.dv p).2.mono tk⟩, fun p => ⟨(W.ev p).1, (W.ev p).2.mono tk⟩⟩
structure Go2 (H0 H : Hp) (d e : Addr) (N M : Int -> List (Int × Int)) (k : Nat) (p : Int) (l : Addr) (H1 : Hp) : Prop where
 l0 : H0 l = none
 fr : ∀ a o, H a = some o -> a ≠ d -> H1 a = some o
 go : ∃ xs, H1 l = some (.lst xs) /\ xs.length <= k /\ ∀ n q t (N2 : Int -> List (Int × Int)), (∀ p2, N2 p2 = if p2 = p then N p ++ [(n, q)] else N p2) -> H1 t = none -> ∃ Ld Le fd fe, Two H0 (upd (upd H1 t (.tup [.int n, .int q])) l (.lst (xs ++ [.ref t]))) d e N2 M (k + 1) Ld Le fd fe
theorem Two.add {H0 H : Hp} {d e : Addr} {N M : Int -> List (Int × Int)} {k : Nat} {Ld Le : List Addr} {fd fe : Int -> List V} (W : Two H0 H d e N M k Ld Le fd fe) (p : Int) {z : Addr} (hz : H z = none) (n0 : ∀ a, H a = none -> H0 a = none) (d1 : ∃ o, H0 d = some o) (e1 : ∃ o, H0 e = some o) (de : d ≠ e) :
  ∃ kvs, (upd H z (.lst [])) d = some (.dK kvs) /\ kvs.length <= k /\ (∀ v, ZeO kvs (.inl p) = some v -> ∃ l, v = .ref l /\ Go2 H0 H d e N M k p l (upd H z (.lst []))) /\
   (ZeO kvs (.inl p) = none -> Go2 H0 H d e N M k p z (upd (upd H z (.lst [])) d (.dK (Zfa kvs (.inl p) (.ref z))))) := by
 have key : ∀ (l : Addr) (H1 : Hp), Sda H d Ld fd k p l H1 -> (∃ y, H1 d = some (.dK y)) -> Go2 H0 H d e N M k p l H1 := fun l H1 A ⟨y, hd1⟩ => by
  have l0 : H0 l = none := by
   rcases A.own with m | m
   ·exact (W.d0 l m).1
   ·exact n0 l m
  refine ⟨l0, A.fr, fd p, A.here, (W.dv p).1, fun n q t N2 hq ht => ?_⟩
  obtain ⟨L', hL', D'⟩ := A.fin (upd H1 t (.tup [.int n, .int q])) (.ref t) (Zc2 ht _)
  have tl : t ≠ l := fun h => by rw [h, A.here] at ht; cases ht
  have mv : ∀ a o, H a = some o -> a ≠ d -> a ≠ l -> (upd (upd H1 t (.tup [.int n, .int q])) l (.lst (fd p ++ [.ref t]))) a = some o := fun a o h n1 n2 => by
   have := A.fr a o h n1
   rw [Zc6 n2, Zc6 (Zc9 this ht)]
   exact this
  have nd : ∀ a, H0 a = none -> a ≠ d := fun a h z => by obtain ⟨o, h1⟩ := d1; rw [z, h1] at h; cases h
  have el : ∀ a, a ∈ Le -> a ≠ l := fun a m z => by
   rcases A.own with w | w
   ·exact W.ap l w (z ▸ m)
   ·obtain ⟨o, h⟩ := (W.e0 a m).2; rw [z, w] at h; cases h
  have tk : TK H (upd (upd H1 t (.tup [.int n, .int q])) l (.lst (fd p ++ [.ref t]))) := fun a xs h => by
   obtain ⟨kvs, ek, _⟩ := W.d
   have a1 : a ≠ d := Zdx h ek (fun h => nomatch h)
   exact mv a _ h a1 (Zdx (A.fr a _ h a1) A.here (fun h => nomatch h))
  have e2 : e ≠ l := fun z => by obtain ⟨o, h⟩ := e1; rw [z, l0] at h; cases h
  refine ⟨L', Le, _, fe, D', ?_, fun a m => ?_, fun a m => ?_, fun a m1 m2 => ?_, fun p2 => ?_, fun p2 => ⟨ZbL (W.ev p2).1, (W.ev p2).2.mono tk⟩⟩
  ·obtain ⟨kvs, h1, h2, h3⟩ := W.e.same fun a o h m => mv a o h (m.elim (fun z => z ▸ de.symm) fun m => nd a (W.e0 a m).1) (m.elim (fun z => z ▸ e2) (el a))
   exact ⟨kvs, h1, ZbL h2, h3⟩
  ·by_cases z : a = l
   ·exact ⟨z ▸ l0, _, by rw [z]; exact ZcX⟩
   ·rcases hL' a m with m | m
    ·obtain ⟨o, h⟩ := (W.d0 a m).2
     exact ⟨(W.d0 a m).1, o, mv a o h (nd a (W.d0 a m).1) z⟩
    ·exact absurd m z
  ·obtain ⟨o, h⟩ := (W.e0 a m).2
   exact ⟨(W.e0 a m).1, o, mv a o h (nd a (W.e0 a m).1) (el a m)⟩
  ·rcases hL' a m1 with m | m
   ·exact W.ap a m m2
   ·exact el a m2 m
  ·unfold Zm1
   by_cases z : p2 = p
   ·rw [if_pos z, hq p2, if_pos z, ZaZ]
    exact ⟨by rw [ZaC]; exact ZbJ (W.dv p).1, ((W.dv p).2.mono tk).app (.cons (.tup (by rw [Zc6 tl]; exact ZcX) (.cons (.flat rfl) (.cons (.flat rfl) .nil))) .nil)⟩
   ·rw [if_neg z, hq p2, if_neg z]
    exact ⟨ZbL (W.dv p2).1, (W.dv p2).2.mono tk⟩
 obtain ⟨kvs, h1, h2, h3, h4⟩ := W.d.sda p hz
 exact ⟨kvs, h1, h2, fun v hv => let ⟨l, h, A⟩ := h3 v hv; ⟨l, h, key l _ A ⟨_, h1⟩⟩, fun hn => key z _ (h4 hn) ⟨_, ZcX⟩⟩
structure Stt (H0 H : Hp) (x : Sx) (N M : Int) (R : List Rw) (B : List (Int × Int)) (k : Nat) : Prop where
 keep : ∀ a o, H0 a = some o -> a ≠ x.r -> a ≠ x.bd -> a ≠ x.kn -> a ≠ x.g -> a ≠ x.h -> H a = some o
 r : ∃ rv, H x.r = some (.lst rv) /\ Ims H rv (R.map Rw.d)
 bd : ∃ bv, H x.bd = some (.lst bv) /\ Ims H bv (B.map flD)
 kn : H x.kn = some (.dT (R.map fun r => (r.k, V.bl true)))
 gh : ∃ Lg Lh fg fh, Two H0 H x.g x.h (fun p => Zfc (ZhJ p) R k) (fun p => Zfc (ZhZ p) R k) k Lg Lh fg fh
 nd : (R.map Rw.k).Nodup
 ok : ∀ r ∈ R, r.ok N M
 kl : k <= R.length
def Fr2 (x : Sx) (H H' : Hp) : Prop := ∀ a o, H a = some o -> a ≠ x.r -> a ≠ x.kn -> H' a = some o
theorem Fr2.refl (x : Sx) (H : Hp) : Fr2 x H H := fun _ _ e _ _ => e
theorem Fr2.trans {x : Sx} {H H1 H2 : Hp} (a : Fr2 x H H1) (b : Fr2 x H1 H2) : Fr2 x H H2 := fun c o e n m => b c o (a c o e n m) n m
theorem Fr2.of {x : Sx} {H H' : Hp} (s : Zdj H H') : Fr2 x H H' := fun a o e _ _ => s a o e
section
variable {c : Cs} {S : Addr} {H0 H H' : Hp} {x : Sx} {N M : Int} {R : List Rw} {B : List (Int × Int)} {k : Nat} {ms : List Mk3} {us : List Us}
theorem Stt.same (t : Stt H0 H x N M R B k) (s : Zdj H H') : Stt H0 H' x N M R B k := by
 obtain ⟨keep, ⟨rv, r1, r2⟩, ⟨bv, b1, b2⟩, kn, ⟨Lg, Lh, fg, fh, W⟩, nd, ok, kl⟩ := t
 have tk : TK H H' := Zdj.tk s
 exact ⟨fun a o e n1 n2 n3 n4 n5 => s _ _ (keep a o e n1 n2 n3 n4 n5), ⟨rv, s _ _ r1, r2.mono tk⟩, ⟨bv, s _ _ b1, b2.mono tk⟩, s _ _ kn,
  ⟨Lg, Lh, fg, fh, W.frame (fun a o e _ => s _ _ e) tk⟩, nd, ok, kl⟩
theorem ZhT.fix (z : ZhT c S H0 x ms us) (t : Stt H0 H x N M R B k) {a : Addr} {o : HO} (e : H0 a = some o) (h1 : ∀ l, o ≠ .lst l) (h2 : ∀ l, o ≠ .dT l) (h3 : ∀ l, o ≠ .dK l) : H a = some o := by
 obtain ⟨_, er⟩ := z.r
 obtain ⟨_, eb⟩ := z.bd
 obtain ⟨_, ek⟩ := z.kn
 obtain ⟨_, eg⟩ := z.g
 obtain ⟨_, eh⟩ := z.h
 exact t.keep a o e (Zdx e er (h1 _)) (Zdx e eb (h1 _)) (Zdx e ek (h2 _)) (Zdx e eg (h3 _)) (Zdx e eh (h3 _))
theorem ZhT.hs (z : ZhT c S H0 x ms us) (t : Stt H0 H x N M R B k) : H x.s = some (.ins S x.dx (fS x.b x.ua x.r x.bd x.kn x.g x.h)) := z.fix t z.s (fun _ h => nomatch h) (fun _ h => nomatch h) (fun _ h => nomatch h)
theorem ZhT.hb (z : ZhT c S H0 x ms us) (t : Stt H0 H x N M R B k) : H x.b = some (.ins c.B x.bx (fB x.p0 x.p1 x.p2 x.p3 (.int 0))) := z.fix t z.b (fun _ h => nomatch h) (fun _ h => nomatch h) (fun _ h => nomatch h)
theorem ZhT.lst (z : ZhT c S H0 x ms us) (t : Stt H0 H x N M R B k) {a : Addr} {l : List V} (e : H0 a = some (.lst l)) (n1 : a ≠ x.r) (n2 : a ≠ x.bd) : H a = some (.lst l) := by
 obtain ⟨_, ek⟩ := z.kn
 obtain ⟨_, eg⟩ := z.g
 obtain ⟨_, eh⟩ := z.h
 exact t.keep a _ e n1 n2 (Zdx e ek (fun h => nomatch h)) (Zdx e eg (fun h => nomatch h)) (Zdx e eh (fun h => nomatch h))
theorem ZhT.fk (z : ZhT c S H0 x ms us) (t : Stt H0 H x N M R B k) : FK H0 H := fun a o e f => z.fix t e (fun l h => by rw [h] at f; exact f) (fun l h => by rw [h] at f; exact f) (fun l h => by rw [h] at f; exact f)
theorem Stt.len (t : Stt H0 H x N M R B k) (hN : N <= 64) (hM : M <= 64) : R.length <= 8192 := Zow hN hM t.nd t.ok
theorem Zi1 : ∀ {R : List Rw} {q : List Key}, ZeO (R.map fun r => (r.k, V.bl true)) q = none -> q ∉ R.map Rw.k
 | [], _, _ => by simp
 | r :: R, q, h => by
  rw [Zaq] at h
  by_cases e : r.k = q
  ·rw [ZeI (p := (r.k, V.bl true)) e] at h; cases h
  ·rw [Zed (p := (r.k, V.bl true)) e] at h
   rw [Zaq, Zag, not_or]
   exact ⟨fun z => e z.symm, Zi1 h⟩
theorem Znt {R : List Rw} {q : List Key} {v : V} (h : ZeO (R.map fun r => (r.k, V.bl true)) q = some v) : q ∈ R.map Rw.k := by
 induction R with
 | nil => cases h
 | cons r R ih =>
  rw [Zaq] at h
  by_cases e : r.k = q
  ·rw [Zaq, e]; exact Zae
  ·rw [Zed (p := (r.k, V.bl true)) e] at h
   rw [Zaq]
   exact Zaf _ (ih h)
theorem Znu {R : List Rw} {ρ : Rw} (h : ZeO (R.map fun r => (r.k, V.bl true)) ρ.k = none) : Zfa (R.map fun r => (r.k, V.bl true)) ρ.k (.bl true) = (R ++ [ρ]).map fun r => (r.k, V.bl true) := by
 unfold Zfa
 rw [if_neg (by rw [Zgc, h]; exact Zcy), ZaZ]
 rfl
theorem Stt.put (z : ZhT c S H0 x ms us) (t : Stt H0 H x N M R B k) {ρ : Rw} {wv : V} {tb t2 : Addr} {rv : List V} (hw : Im H wv (ZjH ρ.y)) (ok : ρ.ok N M) (hn : ZeO (R.map fun r => (r.k, V.bl true)) ρ.k = none) (hr : H x.r = some (.lst rv))
  (htb : H tb = none) (h2 : (upd (upd H tb (.tup (ρ.k.map kV))) x.kn (.dT (Zfa (R.map fun r => (r.k, V.bl true)) ρ.k (.bl true)))) t2 = none) :
  Stt H0 (upd (upd (upd (upd H tb (.tup (ρ.k.map kV))) x.kn (.dT (Zfa (R.map fun r => (r.k, V.bl true)) ρ.k (.bl true)))) t2 (.tup [.str (wd ρ.w), .int ρ.a, .int ρ.b, wv])) x.r (.lst (rv ++ [.ref t2]))) x N M (R ++ [ρ]) B k /\
  Fr2 x H (upd (upd (upd (upd H tb (.tup (ρ.k.map kV))) x.kn (.dT (Zfa (R.map fun r => (r.k, V.bl true)) ρ.k (.bl true)))) t2 (.tup [.str (wd ρ.w), .int ρ.a, .int ρ.b, wv])) x.r (.lst (rv ++ [.ref t2]))) := by
 have s1 := Zc2 htb (.tup (ρ.k.map kV))
 have t1 := t.same s1
 have hr1 := s1 _ _ hr
 have hw1 : Im _ wv (ZjH ρ.y) := hw.mono (Zdj.tk s1)
 generalize upd H tb (.tup (ρ.k.map kV)) = H1 at s1 t1 hr1 hw1 h2 ⊢
 have hk1 := t1.kn
 have rk : x.r ≠ x.kn := Zdx hr1 hk1 (fun h => nomatch h)
 have F : Fr2 x H (upd (upd (upd H1 x.kn (.dT (Zfa (R.map fun r => (r.k, V.bl true)) ρ.k (.bl true)))) t2 (.tup [.str (wd ρ.w), .int ρ.a, .int ρ.b, wv])) x.r (.lst (rv ++ [.ref t2]))) := fun a o e n1 n2 => by
  have e2 : (upd H1 x.kn (.dT (Zfa (R.map fun r => (r.k, V.bl true)) ρ.k (.bl true)))) a = some o := by rw [Zc6 n2]; exact s1 _ _ e
  rw [Zc6 n1, Zc6 (Zc9 e2 h2)]
  exact e2
 refine ⟨?_, F⟩
 have er : (upd (upd H1 x.kn (.dT (Zfa (R.map fun r => (r.k, V.bl true)) ρ.k (.bl true)))) t2 (.tup [.str (wd ρ.w), .int ρ.a, .int ρ.b, wv])) t2 = some (.tup [.str (wd ρ.w), .int ρ.a, .int ρ.b, wv]) := ZcX
 obtain ⟨keep, ⟨rv', r1, r2⟩, ⟨bv, b1, b2⟩, kn, ⟨Lg, Lh, fg, fh, W⟩, nd, okk, kl⟩ := t
 rw [hr] at r1
 cases r1
 obtain ⟨_, Er⟩ := z.r
 obtain ⟨_, Eb⟩ := z.bd
 obtain ⟨_, Ek⟩ := z.kn
 obtain ⟨_, Eg⟩ := z.g
 obtain ⟨_, Eh⟩ := z.h
 have tk : TK H (upd (upd (upd H1 x.kn (.dT (Zfa (R.map fun r => (r.k, V.bl true)) ρ.k (.bl true)))) t2 (.tup [.str (wd ρ.w), .int ρ.a, .int ρ.b, wv])) x.r (.lst (rv ++ [.ref t2]))) := fun a xs e => F a _ e (Zdx e hr (fun h => nomatch h)) (Zdx e kn (fun h => nomatch h))
 have eg : (fun p => Zfc (ZhJ p) R k) = fun p => Zfc (ZhJ p) (R ++ [ρ]) k := funext fun p => (ZhH kl).symm
 have eh : (fun p => Zfc (ZhZ p) R k) = fun p => Zfc (ZhZ p) (R ++ [ρ]) k := funext fun p => (ZhH kl).symm
 have t2r : t2 ≠ x.r := fun h => by rw [h, Zc6 rk, hr1] at h2; cases h2
 refine ⟨fun a o e n1 n2 n3 n4 n5 => F a o (keep a o e n1 n2 n3 n4 n5) n1 n3, ⟨_, ZcX, ?_⟩, ⟨bv, F _ _ b1 (Ne.symm z.n1) (Zdx Eb Ek (fun h => nomatch h)), b2.mono tk⟩, ?_, ⟨Lg, Lh, fg, fh, eg ▸ eh ▸ W.frame (fun a o e m => F a o e (fun h => ?_) (fun h => ?_)) tk⟩, ?_, ?_, by rw [ZaC]; omega⟩
 ·rw [ZaZ]
  refine (r2.mono tk).app (.cons (.tup (by rw [Zc6 t2r]; exact er) (.cons (.flat rfl) (.cons (.flat rfl) (.cons (.flat rfl) (.cons (hw.mono tk) .nil))))) .nil)
 ·rw [Zc6 (Ne.symm rk), Zc6 (fun h => by rw [<- h, ZcX] at h2; cases h2), ZcX, Znu hn]
 ·rcases m with m | m | m
  ·rw [h] at m; exact absurd (show some (HO.lst _) = some (HO.dK _) by rw [<- Er, m, Eg]) (fun h => nomatch h)
  ·rw [h] at m; exact absurd (show some (HO.lst _) = some (HO.dK _) by rw [<- Er, m, Eh]) (fun h => nomatch h)
  ·rw [h, Er] at m; cases m
 ·rcases m with m | m | m
  ·rw [h] at m; exact absurd (show some (HO.dT _) = some (HO.dK _) by rw [<- Ek, m, Eg]) (fun h => nomatch h)
  ·rw [h] at m; exact absurd (show some (HO.dT _) = some (HO.dK _) by rw [<- Ek, m, Eh]) (fun h => nomatch h)
  ·rw [h, Ek] at m; cases m
 ·rw [ZaZ, Zbr]
  refine ⟨nd, by simp, fun a ha b hb e => ?_⟩
  simp only [Zaq, ZaH, ZaM] at hb
  exact Zi1 hn (by rw [<- hb, <- e]; exact ha)
 ·intro r hr
  rcases Zah.mp hr with h | h
  ·exact okk r h
  ·simp only [ZaM] at h
   rw [h]
   exact ok
end
section
variable {P : Program} {w : World} {K : PySem.W.Frag} {mg : Str -> Option Value} {base : Heap}
theorem Zfe (b ua r bd kn g h : Addr) : (fS b ua r bd kn g h).lookup ("board" : Str) = some (.ref b) := ZfN
theorem ZlH (b ua r bd kn g h : Addr) : (fS b ua r bd kn g h).lookup ("uses_at" : Str) = some (.ref ua) := (Zer (by decide +kernel)).trans ZfN
theorem Zi2 (b ua r bd kn g h : Addr) : (fS b ua r bd kn g h).lookup ("rows" : Str) = some (.ref r) := (Zer (by decide +kernel)).trans ((Zer (by decide +kernel)).trans ZfN)
theorem ZmK (b ua r bd kn g h : Addr) : (fS b ua r bd kn g h).lookup ("bads" : Str) = some (.ref bd) := (Zer (by decide +kernel)).trans ((Zer (by decide +kernel)).trans ((Zer (by decide +kernel)).trans ZfN))
theorem Zla (b ua r bd kn g h : Addr) : (fS b ua r bd kn g h).lookup ("known" : Str) = some (.ref kn) := (Zer (by decide +kernel)).trans ((Zer (by decide +kernel)).trans ((Zer (by decide +kernel)).trans ((Zer (by decide +kernel)).trans ZfN)))
theorem ZmL (b ua r bd kn g h : Addr) : (fS b ua r bd kn g h).lookup ("goes" : Str) = some (.ref g) := (Zer (by decide +kernel)).trans ((Zer (by decide +kernel)).trans ((Zer (by decide +kernel)).trans ((Zer (by decide +kernel)).trans ((Zer (by decide +kernel)).trans ZfN))))
theorem Zlb (b ua r bd kn g h : Addr) : (fS b ua r bd kn g h).lookup ("heres" : Str) = some (.ref h) := (Zer (by decide +kernel)).trans ((Zer (by decide +kernel)).trans ((Zer (by decide +kernel)).trans ((Zer (by decide +kernel)).trans ((Zer (by decide +kernel)).trans ((Zer (by decide +kernel)).trans ZfN)))))
theorem Zh7 (m : Str) (b ua r bd kn g h : Addr) (q : m ∉ (["board", "uses_at", "rows", "bads", "known", "goes", "heres"] : List Str)) : (fS b ua r bd kn g h).lookup m = none := by
 simp only [Zag, ZaS, or_false, not_or] at q
 obtain ⟨q1, q2, q3, q4, q5, q6, q7⟩ := q
 have f : ∀ {a b : Str}, ¬ a = b -> (a == b) = false := fun {a b} h => by simp [h]
 exact (Zer (f q1)).trans ((Zer (f q2)).trans ((Zer (f q3)).trans ((Zer (f q4)).trans ((Zer (f q5)).trans ((Zer (f q6)).trans ((Zer (f q7)).trans rfl))))))
def ZpU (c : Cs) (S : Addr) : Sp := fun vs H Q _ => ∃ (H0 : Hp) (x : Sx) (N M : Int) (ms : List Mk3) (us : List Us) (R : List Rw) (B : List (Int × Int)) (k : Nat) (ρ : Rw) (wv : V), vs = [.ref x.s, .str (wd ρ.w), .int ρ.a, .int ρ.b, wv] /\ ZhT c S H0 x ms us /\ Stt H0 H x N M R B k /\ N <= 64 /\ M <= 64 /\ Im H wv (ZjH ρ.y) /\ ρ.ok N M /\
 ∀ H', Stt H0 H' x N M (ZkZ R ρ) B k -> Fr2 x H H' -> Q .non H'
theorem Ze2 (T : Txt K mg) : Ze0 P w K mg base CX0 1 T.a_Settling_put T.fd_Settling_put ["self", "word", "first", "second", "why"] (ZpU (cs T) T.a_Settling) := by
 refine T.F_Settling_put.ok Zf2 (fun vs H Q E h => ?_) (fun cdv A outer s H vs Q E hr h => ?_)
 ·obtain ⟨H0, x, N, M, ms, us, R, B, k, ρ, wv, rfl, _⟩ := h
  rfl
 obtain ⟨H0, x, N, M, ms, us, R, B, k, ρ, wv, rfl, z, t, hN, hM, hw, ok, q⟩ := h
 have hu := ZhA hr
 refine ⟨_, (Zc0 (Zdn (i := 5) Zf2.nd rfl (.inl rfl) (ZdB (ZcW (cv 1) (ZcW (cv 2) (ZcW (cv 3) Zc1)))))
  (Zc4 (Zdz (ZfP (ZfX hu (cv 5) (Zdi T.cl_Settling T.n_Settling_known (cv 0))) rfl)
   (Zc0 (ZgZ hu (Zdi T.cl_Settling T.n_Settling_known (cv 0)) (cv 5) Zfl rfl)
   (Zc4 (Zdr (Ze4 (ZfT Zcv Zcw Zcx ZdA (PE.mono (Zdi T.cl_Settling T.n_Settling_rows (cv 0))) (ZcW (PE.mono (ZdB (ZcW (cv 1) (ZcW (cv 2) (ZcW (cv 3) (ZcW (cv 4) Zc1)))))) Zc1))))))
   Zdc))), ?_⟩
 have sl : sizeLine = 16777216 := sizeLine_eq
 have hlen := t.len hN hM
 refine ⟨(by show 3 <= sizeLine; decide), fun tb hb => ?_⟩
 have s1 : Zdj H (upd H tb (.tup (ρ.k.map kV))) := Zc2 hb _
 have t1 := t.same s1
 have hs1 := z.hs t1
 have hk1 := t1.kn
 refine ⟨_, ⟨_, _, hs1, Zla _ _ _ _ _ _ _⟩, x.kn, _, rfl, ZgF.t (k := ρ.k) hk1 ZcX, _, rfl, ?_⟩
 cases e : ZeO (R.map fun r => (r.k, V.bl true)) ρ.k with
 | some v => exact Zen (q _ (by unfold ZkZ; rw [if_pos (Znt e)]; exact t1) (.of s1))
 | none =>
  obtain ⟨rv, hrv, hrl⟩ := t.r
  have hl : rv.length <= 8192 := by rw [hrl.length, Zar]; exact hlen
  refine Zfh ⟨_, ⟨_, _, hs1, Zla _ _ _ _ _ _ _⟩, x.kn, _, rfl, ZlN.t (k := ρ.k) hk1 ZcX (by rw [Zar]; omega), ?_⟩
  have rk : x.r ≠ x.kn := Zdx (s1 _ _ hrv) hk1 (fun h => nomatch h)
  have hr2 : (upd (upd H tb (.tup (ρ.k.map kV))) x.kn (.dT (Zfa (R.map fun r => (r.k, V.bl true)) ρ.k (.bl true)))) x.r = some (.lst rv) := by rw [Zc6 rk]; exact s1 _ _ hrv
  refine ⟨_, ⟨_, _, by rw [Zc6 (Zdx hs1 hk1 (fun h => nomatch h))]; exact hs1, Zi2 _ _ _ _ _ _ _⟩, ⟨_, hr2⟩, (by show 4 <= sizeLine; decide), fun t2 h2 => ?_⟩
  refine ⟨rv, Zc2 h2 _ _ _ hr2, by omega, ?_⟩
  obtain ⟨t4, f4⟩ := t.put z (ρ := ρ) (wv := wv) hw ok e hrv hb h2
  exact q _ (by unfold ZkZ; rw [if_neg (Zi1 e)]; exact t4) f4
end
section
variable {c : Cs} {S : Addr} {H0 H H' : Hp} {x : Sx} {N M : Int} {R : List Rw} {B : List (Int × Int)} {k : Nat} {ms : List Mk3} {us : List Us}
theorem Stt.n0 (t : Stt H0 H x N M R B k) : ∀ a, H a = none -> H0 a = none := fun a h => by
 cases e : H0 a with
 | none => rfl
 | some o =>
  obtain ⟨rv, r1, _⟩ := t.r
  obtain ⟨bv, b1, _⟩ := t.bd
  obtain ⟨Lg, Lh, fg, fh, W⟩ := t.gh
  obtain ⟨kg, g1, _⟩ := W.d
  obtain ⟨kh, h1, _⟩ := W.e
  by_cases m1 : a = x.r
  ·rw [m1, r1] at h; cases h
  by_cases m2 : a = x.bd
  ·rw [m2, b1] at h; cases h
  by_cases m3 : a = x.kn
  ·rw [m3, t.kn] at h; cases h
  by_cases m4 : a = x.g
  ·rw [m4, g1] at h; cases h
  by_cases m5 : a = x.h
  ·rw [m5, h1] at h; cases h
  rw [t.keep a o e m1 m2 m3 m4 m5] at h
  cases h
def Gs (H0 : Hp) (x : Sx) (N M : Int) (R : List Rw) (B : List (Int × Int)) (k : Nat) (q : Int) (l : Addr) (H1 : Hp) : Prop := ∃ xs, H1 l = some (.lst xs) /\ xs.length <= k /\ ∀ t, H1 t = none -> Stt H0 (upd (upd H1 t (.tup [.int (k : Int), .int q])) l (.lst (xs ++ [.ref t]))) x N M R B (k + 1)
theorem Stt.goG (z : ZhT c S H0 x ms us) (t : Stt H0 H x N M R B k) {p q : Int} {y : Option (Int × Int)} (hrow : R[k]? = some ⟨true, p, q, y⟩) {zz : Addr} (hz : H zz = none) : ∃ kvs, (upd H zz (.lst [])) x.g = some (.dK kvs) /\ kvs.length <= k /\
  (∀ v, ZeO kvs (.inl p) = some v -> ∃ l, v = .ref l /\ Gs H0 x N M R B k q l (upd H zz (.lst []))) /\ (ZeO kvs (.inl p) = none -> Gs H0 x N M R B k q zz (upd (upd H zz (.lst [])) x.g (.dK (Zfa kvs (.inl p) (.ref zz))))) := by
 obtain ⟨Lg, Lh, fg, fh, W⟩ := t.gh
 obtain ⟨_, Er⟩ := z.r
 obtain ⟨_, Eb⟩ := z.bd
 obtain ⟨_, Ek⟩ := z.kn
 obtain ⟨_, Eg⟩ := z.g
 obtain ⟨_, Eh⟩ := z.h
 have n0 := t.n0
 have oth : (fun p => Zfc (ZhZ p) R k) = fun p => Zfc (ZhZ p) R (k + 1) := funext fun p => by
  rw [ZhI hrow]
  unfold ZhZ
  rw [if_neg (fun h => Bool.noConfusion h.1), Zas]
 obtain ⟨dk, edk, _⟩ := W.d
 have key : ∀ (l : Addr) (H1 : Hp), Go2 H0 H x.g x.h (fun p => Zfc (ZhJ p) R k) (fun p => Zfc (ZhZ p) R k) k p l H1 -> Gs H0 x N M R B k q l H1 := fun l H1 A => by
  obtain ⟨xs, el, hx, go⟩ := A.go
  refine ⟨xs, el, hx, fun tt ht => ?_⟩
  have hN : ∀ p2, Zfc (ZhJ p2) R (k + 1) = if p2 = p then Zfc (ZhJ p) R k ++ [((k : Int), q)] else Zfc (ZhJ p2) R k := fun p2 => by
   rw [ZhI hrow]
   unfold ZhJ
   by_cases z : p2 = p
   ·subst z; rw [if_pos rfl, if_pos ⟨rfl, rfl⟩]
   ·rw [if_neg z, if_neg (fun h => z h.2.symm), Zas]
  obtain ⟨Ld, Le, fd, fe, W'⟩ := go (k : Int) q tt (fun p2 => Zfc (ZhJ p2) R (k + 1)) hN ht
  have mv : ∀ a o u, H0 a = some u -> H a = some o -> a ≠ x.g -> (upd (upd H1 tt (.tup [.int (k : Int), .int q])) l (.lst (xs ++ [.ref tt]))) a = some o := fun a o u e0 e n1 => by
   have := A.fr a o e n1
   rw [Zc6 (fun h => by rw [h, A.l0] at e0; cases e0), Zc6 (Zc9 this ht)]
   exact this
  have tk : TK H (upd (upd H1 tt (.tup [.int (k : Int), .int q])) l (.lst (xs ++ [.ref tt]))) := fun a ys e => by
   have := A.fr a _ e (Zdx e edk (fun h => nomatch h))
   rw [Zc6 (Zdx this el (fun h => nomatch h)), Zc6 (Zc9 this ht)]
   exact this
  obtain ⟨rv, r1, r2⟩ := t.r
  obtain ⟨bv, b1, b2⟩ := t.bd
  exact ⟨fun a o e m1 m2 m3 m4 m5 => mv a o o e (t.keep a o e m1 m2 m3 m4 m5) m4, ⟨rv, mv _ _ _ Er r1 (Zdx Er Eg (fun h => nomatch h)), r2.mono tk⟩, ⟨bv, mv _ _ _ Eb b1 (Zdx Eb Eg (fun h => nomatch h)), b2.mono tk⟩, mv _ _ _ Ek t.kn (Zdx Ek Eg (fun h => nomatch h)), ⟨_, _, _, _, oth ▸ W'⟩, t.nd, t.ok, (Zaj.mp hrow).1⟩
 obtain ⟨kvs, h1, h2, h3, h4⟩ := Two.add W p hz n0 ⟨_, Eg⟩ ⟨_, Eh⟩ z.n2
 exact ⟨kvs, h1, h2, fun v hv => let ⟨l, h, A⟩ := h3 v hv; ⟨l, h, key l _ A⟩, fun hn => key zz _ (h4 hn)⟩
theorem Stt.goH (z : ZhT c S H0 x ms us) (t : Stt H0 H x N M R B k) {p q : Int} {y : Option (Int × Int)} (hrow : R[k]? = some ⟨false, q, p, y⟩) {zz : Addr} (hz : H zz = none) : ∃ kvs, (upd H zz (.lst [])) x.h = some (.dK kvs) /\ kvs.length <= k /\
  (∀ v, ZeO kvs (.inl p) = some v -> ∃ l, v = .ref l /\ Gs H0 x N M R B k q l (upd H zz (.lst []))) /\ (ZeO kvs (.inl p) = none -> Gs H0 x N M R B k q zz (upd (upd H zz (.lst [])) x.h (.dK (Zfa kvs (.inl p) (.ref zz))))) := by
 obtain ⟨Lg, Lh, fg, fh, W⟩ := t.gh
 obtain ⟨_, Er⟩ := z.r
 obtain ⟨_, Eb⟩ := z.bd
 obtain ⟨_, Ek⟩ := z.kn
 obtain ⟨_, Eg⟩ := z.g
 obtain ⟨_, Eh⟩ := z.h
 have n0 := t.n0
 have oth : (fun p => Zfc (ZhJ p) R k) = fun p => Zfc (ZhJ p) R (k + 1) := funext fun p => by
  rw [ZhI hrow]
  unfold ZhJ
  rw [if_neg (fun h => Bool.noConfusion h.1), Zas]
 obtain ⟨dk, edk, _⟩ := W.swap.d
 have key : ∀ (l : Addr) (H1 : Hp), Go2 H0 H x.h x.g (fun p => Zfc (ZhZ p) R k) (fun p => Zfc (ZhJ p) R k) k p l H1 -> Gs H0 x N M R B k q l H1 := fun l H1 A => by
  obtain ⟨xs, el, hx, go⟩ := A.go
  refine ⟨xs, el, hx, fun tt ht => ?_⟩
  have hN : ∀ p2, Zfc (ZhZ p2) R (k + 1) = if p2 = p then Zfc (ZhZ p) R k ++ [((k : Int), q)] else Zfc (ZhZ p2) R k := fun p2 => by
   rw [ZhI hrow]
   unfold ZhZ
   by_cases z : p2 = p
   ·subst z; rw [if_pos rfl, if_pos ⟨rfl, rfl⟩]
   ·rw [if_neg z, if_neg (fun h => z h.2.symm), Zas]
  obtain ⟨Ld, Le, fd, fe, W'⟩ := go (k : Int) q tt (fun p2 => Zfc (ZhZ p2) R (k + 1)) hN ht
  have mv : ∀ a o u, H0 a = some u -> H a = some o -> a ≠ x.h -> (upd (upd H1 tt (.tup [.int (k : Int), .int q])) l (.lst (xs ++ [.ref tt]))) a = some o := fun a o u e0 e n1 => by
   have := A.fr a o e n1
   rw [Zc6 (fun h => by rw [h, A.l0] at e0; cases e0), Zc6 (Zc9 this ht)]
   exact this
  have tk : TK H (upd (upd H1 tt (.tup [.int (k : Int), .int q])) l (.lst (xs ++ [.ref tt]))) := fun a ys e => by
   have := A.fr a _ e (Zdx e edk (fun h => nomatch h))
   rw [Zc6 (Zdx this el (fun h => nomatch h)), Zc6 (Zc9 this ht)]
   exact this
  obtain ⟨rv, r1, r2⟩ := t.r
  obtain ⟨bv, b1, b2⟩ := t.bd
  exact ⟨fun a o e m1 m2 m3 m4 m5 => mv a o o e (t.keep a o e m1 m2 m3 m4 m5) m5, ⟨rv, mv _ _ _ Er r1 (Zdx Er Eh (fun h => nomatch h)), r2.mono tk⟩, ⟨bv, mv _ _ _ Eb b1 (Zdx Eb Eh (fun h => nomatch h)), b2.mono tk⟩, mv _ _ _ Ek t.kn (Zdx Ek Eh (fun h => nomatch h)), ⟨_, _, _, _, oth ▸ W'.swap⟩, t.nd, t.ok, (Zaj.mp hrow).1⟩
 obtain ⟨kvs, h1, h2, h3, h4⟩ := Two.add W.swap p hz n0 ⟨_, Eh⟩ ⟨_, Eg⟩ (Ne.symm z.n2)
 exact ⟨kvs, h1, h2, fun v hv => let ⟨l, h, A⟩ := h3 v hv; ⟨l, h, key l _ A⟩, fun hn => key zz _ (h4 hn)⟩
end
theorem ZhU {H : Hp} : ∀ {fv : List V} {l : List (Int × Int)} {i : Nat} {v : V}, Ims H fv (l.map flD) -> fv[i]? = some v -> ∃ p t, l[i]? = some p /\ v = .ref t /\ H t = some (.tup [.int p.1, .int p.2])
 | _, [], _, _, .nil, e => by simp at e
 | _, p :: ps, 0, v, .cons h _, e => by
  cases e
  obtain ⟨t, xs, rfl, e, hs⟩ := ZeM h
  obtain rfl := ZlG hs
  exact ⟨p, t, rfl, rfl, e⟩
 | _, p :: ps, i + 1, v, .cons _ t, e => by
  rw [ZaU] at e
  obtain ⟨q, u, e1, e2⟩ := ZhU t e
  exact ⟨q, u, by rw [ZaU]; exact e1, e2⟩
section
variable {P : Program} {w : World} {K : PySem.W.Frag} {mg : Str -> Option Value} {base : Heap}
def ZjS (c : Cs) (S : Addr) : Sp := fun vs H Q _ => ∃ (H0 : Hp) (x : Sx) (N M : Int) (ms : List Mk3) (us : List Us) (R : List Rw) (B : List (Int × Int)) (k : Nat) (f : Addr) (fv : List V) (l : List (Int × Int)) (y : Option (Int × Int)) (wv : V), vs = [.ref x.s, .ref f, wv] /\ ZhT c S H0 x ms us /\ Stt H0 H x N M R B k /\ N <= 64 /\ M <= 64 /\
 H f = some (.lst fv) /\ Ims H fv (l.map flD) /\ f ≠ x.r /\ (∀ p ∈ l, InR N p.1 /\ InR N p.2) /\ Im H wv (ZjH y) /\ ∀ H', Stt H0 H' x N M (Zfn R (l.map fun p => ⟨true, p.1, p.2, y⟩)) B k -> Fr2 x H H' -> Q .non H'
theorem Zf4 (T : Txt K mg) : Ze0 P w K mg base CX0 2 T.a_Settling_put_flows T.fd_Settling_put_flows ["self", "flows", "why"] (ZjS (cs T) T.a_Settling) := by
 have G_Settling_put := Ze2 (P := P) (w := w) (base := base) T
 refine T.F_Settling_put_flows.ok Zfj (fun vs H Q E h => ?_) (fun cdv A outer s H vs Q E hr h => ?_)
 ·obtain ⟨H0, x, N, M, ms, us, R, B, k, f, fv, l, y, wv, rfl, _⟩ := h
  rfl
 obtain ⟨H0, x, N, M, ms, us, R, B, k, f, fv, l, y, wv, rfl, z, t, hN, hM, hf, hl, nr, hin, hw, q⟩ := h
 refine ⟨_, (Zc4 (Zet PassesOwn.never rfl (Zd0 (cv 1)) (ZdG (i := 3) Zfj.nd rfl (.inl rfl))
   (Zc4 (Zdr (ZdN (Zec (PE.mono (cv 0)) T.cl_Settling T.me_Settling_put G_Settling_put (hr.mono (by decide)) T.b_Settling_put .nil Zdp (ZcW Zdm (ZcW (Zc8 Zc7 (cv 3) ZcY (fun _ _ => rfl)) (ZcW (Zc8 Zc7 (cv 3) ZcY (fun _ _ => rfl)) (ZcW (cv 2) Zc1)))))))))), ?_⟩
 have nk : f ≠ x.kn := Zdx hf t.kn (fun h => nomatch h)
 obtain ⟨rv, hrv, _⟩ := t.r
 refine ⟨f, rfl, ⟨_, SqL.of hf⟩, Zea (xs := fv) (fun i σ H2 => ∃ (o : Option V), σ = [some (.ref x.s), some (.ref f), some wv, o] /\ Stt H0 H2 x N M (Zfn R ((l.take i).map fun p => ⟨true, p.1, p.2, y⟩)) B k /\ Fr2 x H H2)
  ⟨none, rfl, t, .refl _ _⟩ (fun i σ H2 _ ⟨_, _, _, F⟩ => SqL.of (F _ _ hf nr nk)) ?_ ?_⟩
 ·rintro i v σ H2 hv ⟨o, rfl, t2, F⟩
  obtain ⟨p, tt, hp, rfl, et⟩ := ZhU hl hv
  have tk : TK H H2 := fun a xs e => F a _ e (Zdx e hrv (fun h => nomatch h)) (Zdx e t.kn (fun h => nomatch h))
  have et2 := tk _ _ et
  have hpm := hin p (ZaB hp)
  refine ⟨⟨_, _, z.hs t2, Zh7 "put" _ _ _ _ _ _ _ (by decide +kernel)⟩, _, et2, _, et2, ?_⟩
  refine ⟨H0, x, N, M, ms, us, _, B, k, ⟨true, p.1, p.2, y⟩, wv, rfl, z, t2, hN, hM, hw.mono tk, ⟨hpm.1.1, hpm.1.2, hpm.2.1, hpm.2.2⟩, fun H' t' F' => ⟨_, rfl, ?_, F.trans F'⟩⟩
  rw [Zhn hp, ZfD]
  exact t'
 ·rintro σ H2 ⟨o, rfl, t2, F⟩
  refine q H2 ?_ F
  have := hl.length
  rw [Zar] at this
  rw [this, Za9] at t2
  exact t2
def ZqY (c : Cs) (S : Addr) : Sp := fun vs H Q _ => ∃ (H0 : Hp) (x : Sx) (N M : Int) (ms : List Mk3) (us : List Us) (R : List Rw) (B : List (Int × Int)) (k : Nat) (p q : Int) (y : Option (Int × Int)), vs = [.ref x.s, .int (k : Int), .int p, .int q] /\ ZhT c S H0 x ms us /\ Stt H0 H x N M R B k /\ N <= 64 /\ M <= 64 /\ k <= 8192 /\ R[k]? = some ⟨true, p, q, y⟩ /\ ∀ H', Stt H0 H' x N M (Zfn R ((Zfc (ZhZ p) R k).map fun h => (⟨false, h.2, q, some (h.1, (k : Int))⟩ : Rw))) B (k + 1) -> Q .non H'
theorem Zf5 (T : Txt K mg) : Ze0 P w K mg base CX0 2 T.a_Settling_work_goes T.fd_Settling_work_goes ["self", "number", "p", "q"] (ZqY (cs T) T.a_Settling) := by
 have G_Settling_put := Ze2 (P := P) (w := w) (base := base) T
 refine T.F_Settling_work_goes.ok Zfi (fun vs H Q E h => ?_) (fun cdv A outer s H vs Q E hr h => ?_)
 ·obtain ⟨H0, x, N, M, ms, us, R, B, k, p, q, y, rfl, _⟩ := h
  rfl
 obtain ⟨H0, x, N, M, ms, us, R, B, k, p, q, y, rfl, z, t, hN, hM, hk, hrow, fin⟩ := h
 have hq := t.ok _ (ZaB hrow)
 have hu := ZhA hr
 refine ⟨_, (Zc0 (Zet PassesOwn.never rfl (Zd0 (Ziz hu (Zdi T.cl_Settling T.n_Settling_heres (cv 0)) (cv 2) (ZdJ Zc1) ⟨rfl, rfl, rfl, rfl⟩)) (ZdG (i := 4) Zfi.nd rfl (.inl rfl))
   (Zc4 (Zdr (ZdN (Zec (PE.mono (cv 0)) T.cl_Settling T.me_Settling_put G_Settling_put (hr.mono (by decide)) T.b_Settling_put .nil Zdp (ZcW Zdm (ZcW (Zc8 Zc7 (cv 4) ZcY (fun _ _ => rfl)) (ZcW (cv 3) (ZcW (ZdB (ZcW (Zc8 Zc7 (cv 4) ZcY (fun _ _ => rfl)) (ZcW (cv 1) Zc1))) Zc1)))))))))
  (Zc4 (Zdr (Ze4 (ZfT Zcv Zcw Zcx ZdA (PE.mono (ZiH (Zdi T.cl_Settling T.n_Settling_goes (cv 0)) (cv 2) (ZdJ Zc1) ⟨rfl, rfl, rfl, rfl⟩)) (ZcW (PE.mono (ZdB (ZcW (cv 1) (ZcW (cv 3) Zc1)))) Zc1)))))), ?_⟩
 have sl : sizeLine = 16777216 := sizeLine_eq
 obtain ⟨Lg, Lh, fg, fh, W⟩ := t.gh
 obtain ⟨rv, hrv, _⟩ := t.r
 obtain ⟨_, Er⟩ := z.r
 refine ⟨_, ⟨_, _, z.hs t, Zlb _ _ _ _ _ _ _⟩, x.h, rfl, .inl (by obtain ⟨kvs, e, _⟩ := W.e; exact ⟨kvs, .inl e⟩), (by show 0 <= sizeLine; decide), fun zz hz => ?_⟩
 obtain ⟨kvs, l, ek, eg, hl, own⟩ := W.e.get p hz
 have s1 := Zc2 hz (.lst [])
 have t1 := t.same s1
 have nr : l ≠ x.r := fun h => by
  rcases own with m | m
  ·rw [h] at m; rw [(W.e0 _ m).1] at Er; cases Er
  ·rw [h, hrv] at m; cases m
 have nk : l ≠ x.kn := Zdx hl t1.kn (fun h => nomatch h)
 refine ⟨_, ZgF.k (k := Sum.inl p) ek, l, eg, ⟨_, SqL.of hl⟩, Zea (xs := fh p) (fun i σ H2 => ∃ (o : Option V), σ = [some (.ref x.s), some (.int (k : Int)), some (.int p), some (.int q), o] /\ Stt H0 H2 x N M (Zfn R (((Zfc (ZhZ p) R k).take i).map fun h => (⟨false, h.2, q, some (h.1, (k : Int))⟩ : Rw))) B k /\ Fr2 x (upd H zz (.lst [])) H2)
  ⟨none, rfl, t1, .refl _ _⟩ (fun i σ H2 _ ⟨_, _, _, F⟩ => SqL.of (F _ _ hl nr nk)) ?_ ?_⟩
 ·rintro i v σ H2 hv ⟨o, rfl, t2, F⟩
  obtain ⟨hh, tt, hp, rfl, et⟩ := ZhU (W.ev p).2 hv
  obtain ⟨nn, yy, en, hn, hrr⟩ := Zms (ZaB hp)
  have oo := t.ok _ (ZaB hrr)
  have et2 := F _ _ (s1 _ _ et) (Zdx et hrv (fun h => nomatch h)) (Zdx et t.kn (fun h => nomatch h))
  refine ⟨⟨_, _, z.hs t2, Zh7 "put" _ _ _ _ _ _ _ (by decide +kernel)⟩, _, et2, _, et2, (by show 2 <= sizeLine; decide), fun tw hw => ?_⟩
  refine ⟨H0, x, N, M, ms, us, _, B, k, ⟨false, hh.2, q, some (hh.1, (k : Int))⟩, .ref tw, rfl, z, t2.same (Zc2 hw _), hN, hM, .tup ZcX (.cons (.flat rfl) (.cons (.flat rfl) .nil)), ⟨oo.1, oo.2.1, hq.2.2.1, hq.2.2.2⟩, fun H' t' F' => ⟨_, rfl, ?_, F.trans ((Fr2.of (Zc2 hw _)).trans F')⟩⟩
  rw [Zhn hp, ZfD]
  exact t'
 ·rintro σ H2 ⟨o, rfl, t2, F⟩
  have hln := (W.ev p).2.length
  rw [Zar] at hln
  rw [hln, Za9] at t2
  obtain ⟨more, em⟩ := ZfE ((Zfc (ZhZ p) R k).map fun h => (⟨false, h.2, q, some (h.1, (k : Int))⟩ : Rw)) R
  have hrow2 : (Zfn R ((Zfc (ZhZ p) R k).map fun h => (⟨false, h.2, q, some (h.1, (k : Int))⟩ : Rw)))[k]? = some ⟨true, p, q, y⟩ := by rw [em, Zaz (Zaj.mp hrow).1]; exact hrow
  obtain ⟨Lg2, Lh2, fg2, fh2, W2⟩ := t2.gh
  refine ⟨_, ⟨_, _, z.hs t2, ZmL _ _ _ _ _ _ _⟩, x.g, rfl, .inl (by obtain ⟨kvs, e, _⟩ := W2.d; exact ⟨kvs, .inl e⟩), (by show 0 <= sizeLine; decide), fun z2 hz2 => ?_⟩
  obtain ⟨kvs2, ek2, hl2, c1, c2⟩ := t2.goG z hrow2 hz2
  refine ⟨kvs2, Sum.inl p, ek2, rfl, by omega, fun v hv => ?_, fun hn => ?_⟩
  ·obtain ⟨l2, rfl, xs, el, hx, go⟩ := c1 v hv
   exact ⟨⟨xs, el⟩, (by show 2 <= sizeLine; decide), fun tt ht => ⟨xs, Zc2 ht _ _ _ el, by omega, fin _ (go tt ht)⟩⟩
  ·obtain ⟨xs, el, hx, go⟩ := c2 hn
   exact ⟨⟨xs, el⟩, (by show 2 <= sizeLine; decide), fun tt ht => ⟨xs, Zc2 ht _ _ _ el, by omega, fin _ (go tt ht)⟩⟩
def ZqZ (c : Cs) (S : Addr) : Sp := fun vs H Q _ => ∃ (H0 : Hp) (x : Sx) (N M : Int) (ms : List Mk3) (us : List Us) (R : List Rw) (B : List (Int × Int)) (k : Nat) (p q : Int) (y : Option (Int × Int)), vs = [.ref x.s, .int (k : Int), .int q, .int p] /\ ZhT c S H0 x ms us /\ Stt H0 H x N M R B k /\ N <= 64 /\ M <= 64 /\ k <= 8192 /\ R[k]? = some ⟨false, q, p, y⟩ /\ ∀ H', Stt H0 H' x N M (Zfn R ((Zfc (ZhJ p) R k).map fun h => (⟨false, q, h.2, some ((k : Int), h.1)⟩ : Rw))) B (k + 1) -> Q .non H'
theorem Zf6 (T : Txt K mg) : Ze0 P w K mg base CX0 2 T.a_Settling_work_here T.fd_Settling_work_here ["self", "number", "m", "p"] (ZqZ (cs T) T.a_Settling) := by
 have G_Settling_put := Ze2 (P := P) (w := w) (base := base) T
 refine T.F_Settling_work_here.ok Zfk (fun vs H Q E h => ?_) (fun cdv A outer s H vs Q E hr h => ?_)
 ·obtain ⟨H0, x, N, M, ms, us, R, B, k, p, q, y, rfl, _⟩ := h
  rfl
 obtain ⟨H0, x, N, M, ms, us, R, B, k, p, q, y, rfl, z, t, hN, hM, hk, hrow, fin⟩ := h
 have hq := t.ok _ (ZaB hrow)
 have hu := ZhA hr
 refine ⟨_, (Zc0 (Zet PassesOwn.never rfl (Zd0 (Ziz hu (Zdi T.cl_Settling T.n_Settling_goes (cv 0)) (cv 3) (ZdJ Zc1) ⟨rfl, rfl, rfl, rfl⟩)) (ZdG (i := 4) Zfk.nd rfl (.inl rfl))
   (Zc4 (Zdr (ZdN (Zec (PE.mono (cv 0)) T.cl_Settling T.me_Settling_put G_Settling_put (hr.mono (by decide)) T.b_Settling_put .nil Zdp (ZcW Zdm (ZcW (cv 2) (ZcW (Zc8 Zc7 (cv 4) ZcY (fun _ _ => rfl)) (ZcW (ZdB (ZcW (cv 1) (ZcW (Zc8 Zc7 (cv 4) ZcY (fun _ _ => rfl)) Zc1))) Zc1)))))))))
  (Zc4 (Zdr (Ze4 (ZfT Zcv Zcw Zcx ZdA (PE.mono (ZiH (Zdi T.cl_Settling T.n_Settling_heres (cv 0)) (cv 3) (ZdJ Zc1) ⟨rfl, rfl, rfl, rfl⟩)) (ZcW (PE.mono (ZdB (ZcW (cv 1) (ZcW (cv 2) Zc1)))) Zc1)))))), ?_⟩
 have sl : sizeLine = 16777216 := sizeLine_eq
 obtain ⟨Lg, Lh, fg, fh, W⟩ := t.gh
 obtain ⟨rv, hrv, _⟩ := t.r
 obtain ⟨_, Er⟩ := z.r
 refine ⟨_, ⟨_, _, z.hs t, ZmL _ _ _ _ _ _ _⟩, x.g, rfl, .inl (by obtain ⟨kvs, e, _⟩ := W.d; exact ⟨kvs, .inl e⟩), (by show 0 <= sizeLine; decide), fun zz hz => ?_⟩
 obtain ⟨kvs, l, ek, eg, hl, own⟩ := W.d.get p hz
 have s1 := Zc2 hz (.lst [])
 have t1 := t.same s1
 have nr : l ≠ x.r := fun h => by
  rcases own with m | m
  ·rw [h] at m; rw [(W.d0 _ m).1] at Er; cases Er
  ·rw [h, hrv] at m; cases m
 have nk : l ≠ x.kn := Zdx hl t1.kn (fun h => nomatch h)
 refine ⟨_, ZgF.k (k := Sum.inl p) ek, l, eg, ⟨_, SqL.of hl⟩, Zea (xs := fg p) (fun i σ H2 => ∃ (o : Option V), σ = [some (.ref x.s), some (.int (k : Int)), some (.int q), some (.int p), o] /\ Stt H0 H2 x N M (Zfn R (((Zfc (ZhJ p) R k).take i).map fun h => (⟨false, q, h.2, some ((k : Int), h.1)⟩ : Rw))) B k /\ Fr2 x (upd H zz (.lst [])) H2)
  ⟨none, rfl, t1, .refl _ _⟩ (fun i σ H2 _ ⟨_, _, _, F⟩ => SqL.of (F _ _ hl nr nk)) ?_ ?_⟩
 ·rintro i v σ H2 hv ⟨o, rfl, t2, F⟩
  obtain ⟨hh, tt, hp, rfl, et⟩ := ZhU (W.dv p).2 hv
  obtain ⟨nn, yy, en, hn, hrr⟩ := Zmr (ZaB hp)
  have oo := t.ok _ (ZaB hrr)
  have et2 := F _ _ (s1 _ _ et) (Zdx et hrv (fun h => nomatch h)) (Zdx et t.kn (fun h => nomatch h))
  refine ⟨⟨_, _, z.hs t2, Zh7 "put" _ _ _ _ _ _ _ (by decide +kernel)⟩, _, et2, _, et2, (by show 2 <= sizeLine; decide), fun tw hw => ?_⟩
  refine ⟨H0, x, N, M, ms, us, _, B, k, ⟨false, q, hh.2, some ((k : Int), hh.1)⟩, .ref tw, rfl, z, t2.same (Zc2 hw _), hN, hM, .tup ZcX (.cons (.flat rfl) (.cons (.flat rfl) .nil)), ⟨hq.1, hq.2.1, oo.2.2.1, oo.2.2.2⟩, fun H' t' F' => ⟨_, rfl, ?_, F.trans ((Fr2.of (Zc2 hw _)).trans F')⟩⟩
  rw [Zhn hp, ZfD]
  exact t'
 ·rintro σ H2 ⟨o, rfl, t2, F⟩
  have hln := (W.dv p).2.length
  rw [Zar] at hln
  rw [hln, Za9] at t2
  obtain ⟨more, em⟩ := ZfE ((Zfc (ZhJ p) R k).map fun h => (⟨false, q, h.2, some ((k : Int), h.1)⟩ : Rw)) R
  have hrow2 : (Zfn R ((Zfc (ZhJ p) R k).map fun h => (⟨false, q, h.2, some ((k : Int), h.1)⟩ : Rw)))[k]? = some ⟨false, q, p, y⟩ := by rw [em, Zaz (Zaj.mp hrow).1]; exact hrow
  obtain ⟨Lg2, Lh2, fg2, fh2, W2⟩ := t2.gh
  refine ⟨_, ⟨_, _, z.hs t2, Zlb _ _ _ _ _ _ _⟩, x.h, rfl, .inl (by obtain ⟨kvs, e, _⟩ := W2.e; exact ⟨kvs, .inl e⟩), (by show 0 <= sizeLine; decide), fun z2 hz2 => ?_⟩
  obtain ⟨kvs2, ek2, hl2, c1, c2⟩ := t2.goH z hrow2 hz2
  refine ⟨kvs2, Sum.inl p, ek2, rfl, by omega, fun v hv => ?_, fun hn => ?_⟩
  ·obtain ⟨l2, rfl, xs, el, hx, go⟩ := c1 v hv
   exact ⟨⟨xs, el⟩, (by show 2 <= sizeLine; decide), fun tt ht => ⟨xs, Zc2 ht _ _ _ el, by omega, fin _ (go tt ht)⟩⟩
  ·obtain ⟨xs, el, hx, go⟩ := c2 hn
   exact ⟨⟨xs, el⟩, (by show 2 <= sizeLine; decide), fun tt ht => ⟨xs, Zc2 ht _ _ _ el, by omega, fin _ (go tt ht)⟩⟩
end
noncomputable def nmB (us : List Us) (ms : List Mk3) (m j : Int) : Bool := match us[j.toNat]?, ms[m.toNat]? with
 | some u, some k => (ZhE u k.f).isNone
 | _, _ => false
noncomputable def Znv (us : List Us) (ms : List Mk3) (ρ : Rw) (k : Int) : List (Int × Int) := match ρ.w with
 | true => []
 | false => bdn (atU us) (nmB us ms ρ.a) ρ.b k us.length
noncomputable def Zm2 (us : List Us) (ms : List Mk3) (m n : Int) (R : List Rw) (j : Int) : List Rw := match us[j.toNat]?, ms[m.toNat]? with
 | some u, some mk => (match ZhE u mk.f with
  | none => R
  | some l => Zfn R (l.map fun p => ⟨true, p.1, p.2, some (n, j)⟩))
 | _, _ => R
noncomputable def ZhV (us : List Us) (ms : List Mk3) (m n : Int) (R : List Rw) (L : List Int) : List Rw := L.foldl (Zm2 us ms m n) R
theorem Zlc (us : List Us) (ms : List Mk3) (m n : Int) (R : List Rw) (j : Int) : ∃ more, Zm2 us ms m n R j = R ++ more := by
 unfold Zm2
 split
 ·split
  ·exact ⟨[], (Zas _).symm⟩
  ·exact ZfE _ _
 ·exact ⟨[], (Zas _).symm⟩
theorem Zf7 (us : List Us) (ms : List Mk3) (m n : Int) : ∀ (L : List Int) (R : List Rw), ∃ more, ZhV us ms m n R L = R ++ more
 | [], R => ⟨[], (Zas _).symm⟩
 | j :: L, R => by
  obtain ⟨m1, e1⟩ := Zlc us ms m n R j
  obtain ⟨m2, e2⟩ := Zf7 us ms m n L (Zm2 us ms m n R j)
  refine ⟨m1 ++ m2, ?_⟩
  show ZhV us ms m n (Zm2 us ms m n R j) L = _
  rw [e2, e1, Za1]
theorem Zit {us : List Us} {ms : List Mk3} {m n : Int} {R : List Rw} {L : List Int} {i : Nat} {j : Int} (h : L[i]? = some j) : ZhV us ms m n R (L.take (i + 1)) = Zm2 us ms m n (ZhV us ms m n R (L.take i)) j := by
 rw [Za2, h]
 unfold ZhV
 rw [List.foldl_append]
 rfl
noncomputable def Zkv (us : List Us) (ms : List Mk3) (R : List Rw) (k : Nat) (ρ : Rw) : List Rw := match ρ.w with
 | true => Zfn R ((Zfc (ZhZ ρ.a) R k).map fun h => (⟨false, h.2, ρ.b, some (h.1, (k : Int))⟩ : Rw))
 | false => Zfn (ZhV us ms ρ.a (k : Int) R (ixn (atU us) ρ.b us.length)) ((Zfc (ZhJ ρ.b) R k).map fun h => (⟨false, ρ.a, h.2, some ((k : Int), h.1)⟩ : Rw))
theorem ZmM (us : List Us) (ms : List Mk3) (R : List Rw) (k : Nat) (ρ : Rw) : ∃ more, Zkv us ms R k ρ = R ++ more := by
 unfold Zkv
 split
 ·exact ZfE _ _
 ·obtain ⟨m1, e1⟩ := Zf7 us ms ρ.a (k : Int) (ixn (atU us) ρ.b us.length) R
  obtain ⟨m2, e2⟩ := ZfE ((Zfc (ZhJ ρ.b) R k).map fun h => (⟨false, ρ.a, h.2, some ((k : Int), h.1)⟩ : Rw)) (ZhV us ms ρ.a (k : Int) R (ixn (atU us) ρ.b us.length))
  exact ⟨m1 ++ m2, by rw [e2, e1, Za1]⟩
theorem ZjT {L : List Int} {q : Int -> Bool} {n : Int} {i : Nat} {j : Int} (h : L[i]? = some j) : ((L.take (i + 1)).filter q).map (fun j => (n, j)) = ((L.take i).filter q).map (fun j => (n, j)) ++ if q j = true then [(n, j)] else [] := by
 rw [Za2, h, Option.toList, List.filter_append, ZaZ]
 congr 1
 by_cases e : q j = true
 ·rw [if_pos e]; simp [e]
 ·rw [if_neg e]; simp [e]
theorem ZmN {H : Hp} : ∀ {fv : List V} {l : List (Int × Int)}, Zos H fv (l.map flD) -> Ims H fv (l.map flD)
 | _, [], .nil => .nil
 | _, p :: t, .cons h hs => by
  refine .cons ?_ (ZmN hs)
  cases h with
  | tup e es =>
   cases es with
   | cons h1 es =>
    cases h1
    cases es with
    | cons h2 es =>
     cases h2
     cases es
     exact .tup e (.cons (.flat rfl) (.cons (.flat rfl) .nil))
theorem Zq0 {H : Hp} {rv : List V} {R : List Rw} {l : List (Int × Int)} (h1 : Ims H rv (R.map Rw.d)) (h2 : Ims H rv (l.map flD)) (hR : R ≠ []) : False := by
 cases R with
 | nil => exact hR rfl
 | cons r R =>
  cases h1 with
  | cons a _ =>
   cases l with
   | nil => cases h2
   | cons p l =>
    cases h2 with
    | cons b _ =>
     obtain ⟨t, xs, rfl, e, hs⟩ := ZeM a
     obtain ⟨t', xs', e', e2, hs'⟩ := ZeM b
     cases e'
     rw [e] at e2
     cases e2
     have y1 := hs.length
     have y2 := hs'.length
     rw [y1] at y2
     simp at y2
theorem ZpV {te : TE} {i : Nat} {D : Zjm} {σ : St} {H : Hp} {u : TS.Internal} (R : V -> Hp -> Prop) (ht : ∀ Q : VK, (∀ v H1, R v H1 -> Q v H1) -> te σ H Q) (h : ∀ v H1, R v H1 -> u D (σ.set i (some v)) H1) : Ziw (Zqj te (Zeq i)) u D σ H := ht _ h
theorem ZfF {H : Hp} : ∀ {rv : List V} {R : List Rw} {i : Nat} {ρ : Rw}, Ims H rv (R.map Rw.d) -> R[i]? = some ρ -> ∃ t wv, rv[i]? = some (.ref t) /\ H t = some (.tup [.str (wd ρ.w), .int ρ.a, .int ρ.b, wv]) /\ Im H wv (ZjH ρ.y)
 | _, [], _, _, _, e => by simp at e
 | _, r :: R, 0, ρ, .cons h _, e => by
  cases e
  obtain ⟨t, xs, rfl, e, hs⟩ := ZeM h
  cases hs with
  | cons h1 hs =>
   cases h1
   cases hs with
   | cons h2 hs =>
    cases h2
    cases hs with
    | cons h3 hs =>
     cases h3
     cases hs with
     | cons h4 hs => cases hs; exact ⟨t, _, rfl, e, h4⟩
 | _, r :: R, i + 1, ρ, .cons _ t, e => by
  rw [ZaU] at e
  obtain ⟨q, u, e1, e2⟩ := ZfF t e
  exact ⟨q, u, by rw [ZaU]; exact e1, e2⟩
section
variable {c : Cs} {S : Addr} {H0 H H' : Hp} {x : Sx} {N M : Int} {R : List Rw} {B : List (Int × Int)} {k : Nat} {ms : List Mk3} {us : List Us}
theorem ZhT.uaH (z : ZhT c S H0 x ms us) (t : Stt H0 H x N M R B k) : DL H x.ua x.Lu (ixv us us.length) us.length := by
 obtain ⟨_, Er⟩ := z.r
 obtain ⟨_, Eb⟩ := z.bd
 obtain ⟨_, Ek⟩ := z.kn
 exact z.ua.keep (fun kvs e => t.keep _ _ e (Zdx e Er (fun h => nomatch h)) (Zdx e Eb (fun h => nomatch h)) (Zdx e Ek (fun h => nomatch h)) z.n3 z.n4) (fun a l m e => z.lst t e (z.n9 a m).1 (z.n9 a m).2)
def Fr3 (x : Sx) (H H' : Hp) : Prop := ∀ a o, H a = some o -> a ≠ x.r -> a ≠ x.kn -> a ≠ x.bd -> H' a = some o
theorem Stt.bad (z : ZhT c S H0 x ms us) (t : Stt H0 H x N M R B k) {n u : Int} {tt : Addr} {bv : List V} (hb : H x.bd = some (.lst bv)) (ht : H tt = none) :
  Stt H0 (upd (upd H tt (.tup [.int n, .int u])) x.bd (.lst (bv ++ [.ref tt]))) x N M R (B ++ [(n, u)]) k := by
 have s1 := Zc2 ht (.tup [.int n, .int u])
 have e1 : (upd H tt (.tup [.int n, .int u])) tt = some (.tup [.int n, .int u]) := ZcX
 have t1 := t.same s1
 have hb1 := s1 _ _ hb
 generalize upd H tt (.tup [.int n, .int u]) = H1 at s1 t1 hb1 e1 ⊢
 obtain ⟨keep, ⟨rv, r1, r2⟩, ⟨bv', b1, b2⟩, kn, ⟨Lg, Lh, fg, fh, W⟩, nd, ok, kl⟩ := t1
 rw [hb1] at b1
 cases b1
 obtain ⟨_, Eb⟩ := z.bd
 obtain ⟨_, Eg⟩ := z.g
 obtain ⟨_, Eh⟩ := z.h
 have F : ∀ a o, H1 a = some o -> a ≠ x.bd -> (upd H1 x.bd (.lst (bv ++ [.ref tt]))) a = some o := fun a o e m => by rw [Zc6 m]; exact e
 have tk : TK H1 (upd H1 x.bd (.lst (bv ++ [.ref tt]))) := fun a xs e => F a _ e (Zdx e hb1 (fun h => nomatch h))
 refine ⟨fun a o e m1 m2 m3 m4 m5 => F a o (keep a o e m1 m2 m3 m4 m5) m2, ⟨rv, F _ _ r1 z.n1, r2.mono tk⟩, ⟨_, ZcX, ?_⟩, F _ _ kn (Zdx kn hb1 (fun h => nomatch h)), ⟨Lg, Lh, fg, fh, W.frame (fun a o e m => F a o e (fun h => ?_)) tk⟩, nd, ok, kl⟩
 ·rw [ZaZ]
  exact (b2.mono tk).app (.cons (.tup (tk _ _ e1) (.cons (.flat rfl) (.cons (.flat rfl) .nil))) .nil)
 ·rcases m with m | m | m
  ·rw [h] at m; exact absurd (show some (HO.lst _) = some (HO.dK _) by rw [<- Eb, m, Eg]) (fun h => nomatch h)
  ·rw [h] at m; exact absurd (show some (HO.lst _) = some (HO.dK _) by rw [<- Eb, m, Eh]) (fun h => nomatch h)
  ·rw [h, Eb] at m; cases m
end
section
variable {P : Program} {w : World} {K : PySem.W.Frag} {mg : Str -> Option Value} {base : Heap}
def Zq1 (c : Cs) (S : Addr) : Sp := fun vs H Q _ => ∃ (H0 : Hp) (x : Sx) (N : Int) (ms : List Mk3) (us : List Us) (fs : List (Int × Int)) (R : List Rw) (B : List (Int × Int)) (k : Nat) (n p : Int) (m : Nat), vs = [.ref x.s, .int n, .int (m : Int), .int p] /\ ZhT c S H0 x ms us /\ Stt H0 H x N ms.length R B k /\ Dat N ms us fs /\ m < ms.length /\ R ≠ [] /\ B.length <= 1000000 /\
 ∀ H', Stt H0 H' x N ms.length (ZhV us ms (m : Int) n R (ixn (atU us) p us.length)) (B ++ bdn (atU us) (nmB us ms m) p n us.length) k -> TK H H' -> Q .non H'
theorem Zf8 (T : Txt K mg) : Ze0 P w K mg base CX0 3 T.a_Settling_work_uses T.fd_Settling_work_uses ["self", "number", "m", "p"] (Zq1 (cs T) T.a_Settling) := by
 have G_Settling_put_flows := Zf4 (P := P) (w := w) (base := base) T
 have G_NumUse_met := ZiV (P := P) (w := w) (base := base) T
 have G_CallUse_met := Zh2 (P := P) (w := w) (base := base) T
 have G_TakeUse_met := Zh4 (P := P) (w := w) (base := base) T
 have G_CaseUse_met := Zh3 (P := P) (w := w) (base := base) T
 have G_RowUse_met := ZiW (P := P) (w := w) (base := base) T
 refine T.F_Settling_work_uses.ok ZeF (fun vs H Q E h => ?_) (fun cdv A outer s H vs Q E hr h => ?_)
 ·obtain ⟨H0, x, N, ms, us, fs, R, B, k, n, p, m, rfl, _⟩ := h
  rfl
 obtain ⟨H0, x, N, ms, us, fs, R, B, k, n, p, m, rfl, z, t, dat, hm, hR, hB, fin⟩ := h
 have hu := ZhA hr
 refine ⟨_, (Zc4 (Zet PassesOwn.never rfl (Zd0 (Ziz hu (Zdi T.cl_Settling T.n_Settling_uses_at (cv 0)) (cv 3) (ZdJ Zc1) ⟨rfl, rfl, rfl, rfl⟩)) (ZdG (i := 4) ZeF.nd rfl (.inl rfl))
   (Zc0 (Zdn (i := 5) ZeF.nd rfl (.inl rfl) (PE.or (ZdN (Zec (PE.mono (Zc8 Zde (Zdi T.cl_Board T.n_Board_uses (Zdi T.cl_Settling T.n_Settling_board (cv 0))) (cv 4) (fun _ _ => rfl))) T.cl_NumUse T.me_NumUse_met G_NumUse_met (hr.mono (by decide)) T.b_NumUse_met .nil Zdp (ZcW (Zc8 Zde (Zdi T.cl_Board T.n_Board_makes (Zdi T.cl_Settling T.n_Settling_board (cv 0))) (cv 2) (fun _ _ => rfl)) Zc1))) (PE.or (ZdN (Zec (PE.mono (Zc8 Zde (Zdi T.cl_Board T.n_Board_uses (Zdi T.cl_Settling T.n_Settling_board (cv 0))) (cv 4) (fun _ _ => rfl))) T.cl_CallUse T.me_CallUse_met G_CallUse_met (hr.mono (by decide)) T.b_CallUse_met .nil Zdp (ZcW (Zc8 Zde (Zdi T.cl_Board T.n_Board_makes (Zdi T.cl_Settling T.n_Settling_board (cv 0))) (cv 2) (fun _ _ => rfl)) Zc1))) (PE.or (ZdN (Zec (PE.mono (Zc8 Zde (Zdi T.cl_Board T.n_Board_uses (Zdi T.cl_Settling T.n_Settling_board (cv 0))) (cv 4) (fun _ _ => rfl))) T.cl_TakeUse T.me_TakeUse_met G_TakeUse_met (hr.mono (by decide)) T.b_TakeUse_met .nil Zdp (ZcW (Zc8 Zde (Zdi T.cl_Board T.n_Board_makes (Zdi T.cl_Settling T.n_Settling_board (cv 0))) (cv 2) (fun _ _ => rfl)) Zc1))) (PE.or (ZdN (Zec (PE.mono (Zc8 Zde (Zdi T.cl_Board T.n_Board_uses (Zdi T.cl_Settling T.n_Settling_board (cv 0))) (cv 4) (fun _ _ => rfl))) T.cl_CaseUse T.me_CaseUse_met G_CaseUse_met (hr.mono (by decide)) T.b_CaseUse_met .nil Zdp (ZcW (Zc8 Zde (Zdi T.cl_Board T.n_Board_makes (Zdi T.cl_Settling T.n_Settling_board (cv 0))) (cv 2) (fun _ _ => rfl)) Zc1))) (ZdN (Zec (PE.mono (Zc8 Zde (Zdi T.cl_Board T.n_Board_uses (Zdi T.cl_Settling T.n_Settling_board (cv 0))) (cv 4) (fun _ _ => rfl))) T.cl_RowUse T.me_RowUse_met G_RowUse_met (hr.mono (by decide)) T.b_RowUse_met .nil Zdp (ZcW (Zc8 Zde (Zdi T.cl_Board T.n_Board_makes (Zdi T.cl_Settling T.n_Settling_board (cv 0))) (cv 2) (fun _ _ => rfl)) Zc1))))))))
   (Zc4 (Zdz (ZfP (ZkJ (cv 5)))
    (Zc4 (Zdr (Ze4 (ZfT Zcv Zcw Zcx ZdA (PE.mono (Zdi T.cl_Settling T.n_Settling_bads (cv 0))) (ZcW (PE.mono (ZdB (ZcW (cv 1) (ZcW (cv 4) Zc1)))) Zc1)))))
    (Zc4 (Zdr (ZdN (Zec (PE.mono (cv 0)) T.cl_Settling T.me_Settling_put_flows G_Settling_put_flows (hr.mono (by decide)) T.b_Settling_put_flows .nil Zdp (ZcW (cv 5) (ZcW (ZdB (ZcW (cv 1) (ZcW (cv 4) Zc1))) Zc1))))))))))), ?_⟩
 have sl : sizeLine = 16777216 := sizeLine_eq
 have hM : (ms.length : Int) <= 64 := by have := dat.lm; omega
 obtain ⟨rv, hrv, _⟩ := t.r
 obtain ⟨bv0, hbv0, _⟩ := t.bd
 refine ⟨_, ⟨_, _, z.hs t, ZlH _ _ _ _ _ _ _⟩, x.ua, rfl, .inl (by obtain ⟨kvs, e, _⟩ := z.uaH t; exact ⟨kvs, .inl e⟩), (by show 0 <= sizeLine; decide), fun zz hz => ?_⟩
 obtain ⟨kvs, l, ek, eg, hl, own⟩ := (z.uaH t).get p hz
 have s1 := Zc2 hz (.lst [])
 have t1 := t.same s1
 have nr : l ≠ x.r := fun h => by
  rcases own with m | m
  ·exact (z.n9 l m).1 h
  ·rw [h, hrv] at m; cases m
 have nb : l ≠ x.bd := fun h => by
  rcases own with m | m
  ·exact (z.n9 l m).2 h
  ·rw [h, hbv0] at m; cases m
 have nk : l ≠ x.kn := Zdx hl t1.kn (fun h => nomatch h)
 obtain ⟨uv, eu, hU⟩ := z.u
 obtain ⟨mv, em, hMk⟩ := z.m
 obtain ⟨mk, hmk⟩ : ∃ mk, ms[m]? = some mk := ⟨_, ZaQ hm⟩
 obtain ⟨mvv, hmvv⟩ : ∃ v, mv[m]? = some v := ⟨_, ZaQ (by rw [hMk.length]; exact hm)⟩
 obtain ⟨mk', hmk', hM3⟩ := hMk.get hmvv
 rw [hmk] at hmk'
 cases hmk'
 have mo := dat.mo mk (ZaB hmk)
 refine ⟨_, ZgF.k (k := Sum.inl p) ek, l, eg, ⟨_, SqL.of hl⟩, Zea (xs := ixv us us.length p) (fun i σ H2 => ∃ (o5 o6 : Option V), σ = [some (.ref x.s), some (.int n), some (.int (m : Int)), some (.int p), o5, o6] /\ Stt H0 H2 x N ms.length (ZhV us ms (m : Int) n R ((ixn (atU us) p us.length).take i)) (B ++ (((ixn (atU us) p us.length).take i).filter (nmB us ms m)).map fun j => (n, j)) k /\ Fr3 x (upd H zz (.lst [])) H2)
  ⟨none, none, rfl, (by show Stt H0 _ x N ms.length R (B ++ []) k; rw [Zas]; exact t1), fun _ _ e _ _ _ => e⟩ (fun i σ H2 _ ⟨_, _, _, _, F⟩ => SqL.of (F _ _ hl nr nk nb)) ?_ ?_⟩
 ·rintro i v σ H2 hv ⟨o5, o6, rfl, t2, F⟩
  unfold ixv at hv
  rw [ZaA] at hv
  cases hj : (ixn (atU us) p us.length)[i]? with
  | none => rw [hj] at hv; cases hv
  | some j' =>
  rw [hj] at hv
  cases hv
  obtain ⟨j, rfl, hjl, hat⟩ := Zkj (ZaB hj)
  have hi : i <= us.length := ZbB (Zbx (Zaj.mp hj).1 Zki)
  obtain ⟨u, hu1⟩ : ∃ u, us[j]? = some u := ⟨_, ZaQ hjl⟩
  obtain ⟨xv, hxv⟩ : ∃ v, uv[j]? = some v := ⟨_, ZaQ (by rw [hU.length]; exact hjl)⟩
  obtain ⟨u', hu2, hux⟩ := hU.get hxv
  rw [hu1] at hu2
  cases hu2
  have uo := dat.uo u (ZaB hu1)
  have fk := z.fk t2
  have hux2 := hux.mono fk
  have hM2 : Zkg (cs T) H2 mvv (mkg mk.f mk.a mk.p) := Zkg.mono fk hM3
  have hp2 := z.lst t2 eu z.n7 z.n8
  have hp1 := z.lst t2 em z.n5 z.n6
  have hnm : nmB us ms m j = (ZhE u mk.f).isNone := by unfold nmB; rw [ZcK, ZcK, hu1, hmk]
  have huse : ∀ Rx, Zm2 us ms (m : Int) n Rx (j : Int) = (match ZhE u mk.f with | none => Rx | some l => Zfn Rx (l.map fun p => ⟨true, p.1, p.2, some (n, (j : Int))⟩)) := fun Rx => by unfold Zm2; rw [ZcK, ZcK, hu1, hmk]
  dsimp only [Zeq]
  refine ZpV (R := fun v H3 => Zdj H2 H3 /\ Dta H3 v (mtD (ZhE u mk.f))) (fun Q' key => ?_) (fun v H3 ⟨S3, hd⟩ => ?_)
  ·have hs2 := z.hs t2
   have hb2 := z.hb t2
   have key' : ∀ v H', Zdj H2 H' -> Dta H' v (mtD (ZhE u mk.f)) -> Q' v H' := fun v H' a b => key v H' ⟨a, b⟩
   cases u with
   | num a1 a2 a3 =>
    obtain ⟨xu, dxu, rfl, e⟩ := id hux2
    exact .inl ⟨_, ⟨_, _, hs2, Zfe _ _ _ _ _ _ _⟩, _, ⟨_, _, hb2, ZgA _ _ _ _ _⟩, uv, hp2, Zc3 (ZcZ hxv) ⟨⟨_, _, e, ZmH _ _ _⟩, _, ⟨_, _, hs2, Zfe _ _ _ _ _ _ _⟩, _, ⟨_, _, hb2, ZfM _ _ _ _ _⟩, mv, hp1, Zc3 (ZcZ hmvv) ⟨_, _, _, mk.f, mk.a, mk.p, rfl, ⟨_, _, _, rfl⟩, uo.1, hux2, hM2, mo.1, key'⟩⟩⟩
   | call a1 a2 a3 a4 a5 =>
    obtain ⟨xu, dxu, rfl, e⟩ := id hux2
    exact .inr (.inl ⟨_, ⟨_, _, hs2, Zfe _ _ _ _ _ _ _⟩, _, ⟨_, _, hb2, ZgA _ _ _ _ _⟩, uv, hp2, Zc3 (ZcZ hxv) ⟨⟨_, _, e, ZlF _ _ _ _ _⟩, _, ⟨_, _, hs2, Zfe _ _ _ _ _ _ _⟩, _, ⟨_, _, hb2, ZfM _ _ _ _ _⟩, mv, hp1, Zc3 (ZcZ hmvv) ⟨_, _, _, mk.f, mk.a, mk.p, rfl, ⟨_, _, _, _, _, rfl⟩, uo.1, hux2, hM2, mo.1, key'⟩⟩⟩)
   | take a1 a2 a3 a4 =>
    obtain ⟨xu, dxu, f, rfl, e, _⟩ := id hux2
    exact .inr (.inr (.inl ⟨_, ⟨_, _, hs2, Zfe _ _ _ _ _ _ _⟩, _, ⟨_, _, hb2, ZgA _ _ _ _ _⟩, uv, hp2, Zc3 (ZcZ hxv) ⟨⟨_, _, e, Zks _ _ _ _⟩, _, ⟨_, _, hs2, Zfe _ _ _ _ _ _ _⟩, _, ⟨_, _, hb2, ZfM _ _ _ _ _⟩, mv, hp1, Zc3 (ZcZ hmvv) ⟨_, _, _, mk.f, mk.a, mk.p, rfl, ⟨_, _, _, _, rfl⟩, uo.1, hux2, hM2, mo.1, key'⟩⟩⟩))
   | case a1 a2 a3 a4 =>
    obtain ⟨xu, dxu, f, rfl, e, _⟩ := id hux2
    exact .inr (.inr (.inr (.inl ⟨_, ⟨_, _, hs2, Zfe _ _ _ _ _ _ _⟩, _, ⟨_, _, hb2, ZgA _ _ _ _ _⟩, uv, hp2, Zc3 (ZcZ hxv) ⟨⟨_, _, e, Zkt _ _ _ _⟩, _, ⟨_, _, hs2, Zfe _ _ _ _ _ _ _⟩, _, ⟨_, _, hb2, ZfM _ _ _ _ _⟩, mv, hp1, Zc3 (ZcZ hmvv) ⟨_, _, _, mk.f, mk.a, mk.p, rfl, ⟨_, _, _, _, rfl⟩, uo.1, hux2, hM2, mo.1, key'⟩⟩⟩)))
   | row a1 a2 a3 a4 =>
    obtain ⟨xu, dxu, rfl, e⟩ := id hux2
    exact .inr (.inr (.inr (.inr ⟨_, ⟨_, _, hs2, Zfe _ _ _ _ _ _ _⟩, _, ⟨_, _, hb2, ZgA _ _ _ _ _⟩, uv, hp2, Zc3 (ZcZ hxv) ⟨⟨_, _, e, Zku _ _ _ _⟩, _, ⟨_, _, hs2, Zfe _ _ _ _ _ _ _⟩, _, ⟨_, _, hb2, ZfM _ _ _ _ _⟩, mv, hp1, Zc3 (ZcZ hmvv) ⟨_, _, _, mk.f, mk.a, mk.p, rfl, ⟨_, _, _, _, rfl⟩, uo.1, hux2, hM2, mo.1, key'⟩⟩⟩)))
  have t3 := t2.same S3
  have hs3 := z.hs t3
  have F3 : Fr3 x (upd H zz (.lst [])) H3 := fun a o e n1 n2 n3 => S3 _ _ (F a o e n1 n2 n3)
  cases e : ZhE u mk.f with
  | none =>
   rw [e] at hd
   cases hd
   refine ⟨true, by rw [decide_eq_true rfl], Zfh ?_⟩
   obtain ⟨bv, hbv, hbl⟩ := t3.bd
   have hbn : bv.length <= 1000000 + us.length := by
    rw [hbl.length, Zar, ZaC, Zar]
    have := Za0 (nmB us ms m) ((ixn (atU us) p us.length).take i)
    have := List.length_take_le i (ixn (atU us) p us.length)
    omega
   have := dat.lu
   refine ⟨_, ⟨_, _, hs3, ZmK _ _ _ _ _ _ _⟩, ⟨_, hbv⟩, (by show 2 <= sizeLine; decide), fun tt ht => ⟨bv, Zc2 ht _ _ _ hbv, by omega, _, _, rfl, ?_, fun a o e n1 n2 n3 => ?_⟩⟩
   ·rw [Zit hj, huse, e, ZjT hj, hnm, e, if_pos (show (none : Option (List (Int × Int))).isNone = true from rfl), <- Za1]
    exact t3.bad z hbv ht
   ·rw [Zc6 n3]
    exact Zc2 ht _ _ _ (F3 a o e n1 n2 n3)
  | some lf =>
   rw [e] at hd
   cases hd with
   | @lst f fv _ ef hfl =>
   refine ⟨false, by rw [decide_eq_false (fun h => nomatch h)], Zen ?_⟩
   refine ⟨⟨_, _, hs3, Zh7 "put_flows" _ _ _ _ _ _ _ (by decide +kernel)⟩, (by show 2 <= sizeLine; decide), fun tw hw => ?_⟩
   have S4 := Zc2 hw (.tup [.int n, .int (j : Int)])
   have fr : f ≠ x.r := fun h => by
    obtain ⟨rv3, hrv3, hrl⟩ := t3.r
    rw [h, hrv3] at ef
    cases ef
    obtain ⟨more, em⟩ := Zf7 us ms (m : Int) n ((ixn (atU us) p us.length).take i) R
    exact Zq0 hrl (ZmN hfl) (by rw [em]; simp [hR])
   refine ⟨H0, x, N, ms.length, ms, us, _, _, k, f, fv, lf, some (n, (j : Int)), .ref tw, rfl, z, t3.same S4, dat.n1, hM, S4 _ _ ef, (ZmN hfl).mono (Zdj.tk S4), fr, Zns uo.2 mo.2.1 e, .tup ZcX (.cons (.flat rfl) (.cons (.flat rfl) .nil)), fun H' t' F' => ?_⟩
   refine ⟨_, _, rfl, ?_, fun a o e n1 n2 n3 => F' a o (S4 _ _ (F3 a o e n1 n2 n3)) n1 n2⟩
   rw [Zit hj, huse, e, ZjT hj, hnm, e, if_neg (by simp), Zas]
   exact t'
 ·rintro σ H2 ⟨o5, o6, rfl, t2, F⟩
  refine fin H2 ?_ fun a xs e => F a _ (s1 _ _ e) (Zdx e hrv (fun h => nomatch h)) (Zdx e t.kn (fun h => nomatch h)) (Zdx e hbv0 (fun h => nomatch h))
  unfold ixv at t2
  rw [Zar, Za9] at t2
  exact t2
def ZoI (c : Cs) (S : Addr) : Sp := fun vs H Q _ => ∃ (H0 : Hp) (x : Sx) (N : Int) (ms : List Mk3) (us : List Us) (fs : List (Int × Int)) (R : List Rw) (B : List (Int × Int)) (k : Nat) (ρ : Rw), vs = [.ref x.s, .int (k : Int)] /\ ZhT c S H0 x ms us /\ Stt H0 H x N ms.length R B k /\ Dat N ms us fs /\ R[k]? = some ρ /\ B.length <= 64 * k /\
 ∀ H', Stt H0 H' x N ms.length (Zkv us ms R k ρ) (B ++ Znv us ms ρ k) (k + 1) -> Q .non H'
theorem Zq2 : (xor false (decide (wd true = ("goes" : Str)))) = true := by decide +kernel
theorem Zry : (xor false (decide (wd false = ("goes" : Str)))) = false := by decide +kernel
theorem Zhk (T : Txt K mg) : Ze0 P w K mg base CX0 4 T.a_Settling_work T.fd_Settling_work ["self", "number"] (ZoI (cs T) T.a_Settling) := by
 have G_Settling_work_goes := Zf5 (P := P) (w := w) (base := base) T
 have G_Settling_work_here := Zf6 (P := P) (w := w) (base := base) T
 have G_Settling_work_uses := Zf8 (P := P) (w := w) (base := base) T
 refine T.F_Settling_work.ok ZfS (fun vs H Q E h => ?_) (fun cdv A outer s H vs Q E hr h => ?_)
 ·obtain ⟨H0, x, N, ms, us, fs, R, B, k, ρ, rfl, _⟩ := h
  rfl
 obtain ⟨H0, x, N, ms, us, fs, R, B, k, ρ, rfl, z, t, dat, hk, hB, fin⟩ := h
 refine ⟨_, (Zc0 (Zdn (i := 2) ZfS.nd rfl (.inl rfl) (Zc8 Zde (Zdi T.cl_Settling T.n_Settling_rows (cv 0)) (cv 1) (fun _ _ => rfl)))
  (Zc4 (Zdz (Zdb Zd7 (Zc8 Zc7 (cv 2) ZcY (fun _ _ => rfl)) Zdm (Zdk _))
   (Zc4 (Zdr (ZdN (Zec (PE.mono (cv 0)) T.cl_Settling T.me_Settling_work_goes G_Settling_work_goes (hr.mono (by decide)) T.b_Settling_work_goes .nil Zdp (ZcW (cv 1) (ZcW (Zc8 Zc7 (cv 2) ZcY (fun _ _ => rfl)) (ZcW (Zc8 Zc7 (cv 2) ZcY (fun _ _ => rfl)) Zc1)))))))
   (Zc0 (Zdr (ZdN (Zec (PE.mono (cv 0)) T.cl_Settling T.me_Settling_work_uses G_Settling_work_uses (hr.mono (by decide)) T.b_Settling_work_uses .nil Zdp (ZcW (cv 1) (ZcW (Zc8 Zc7 (cv 2) ZcY (fun _ _ => rfl)) (ZcW (Zc8 Zc7 (cv 2) ZcY (fun _ _ => rfl)) Zc1))))))
   (Zc4 (Zdr (ZdN (Zec (PE.mono (cv 0)) T.cl_Settling T.me_Settling_work_here G_Settling_work_here (hr.mono (by decide)) T.b_Settling_work_here .nil Zdp (ZcW (cv 1) (ZcW (Zc8 Zc7 (cv 2) ZcY (fun _ _ => rfl)) (ZcW (Zc8 Zc7 (cv 2) ZcY (fun _ _ => rfl)) Zc1))))))))))), ?_⟩
 have hM : (ms.length : Int) <= 64 := by have := dat.lm; omega
 have hlen := t.len dat.n1 hM
 have hkl := (Zaj.mp hk).1
 obtain ⟨rv, hrv, hrl⟩ := t.r
 obtain ⟨tr, wv, h1, h2, _⟩ := ZfF hrl hk
 obtain ⟨o1, o2, o3, o4⟩ := t.ok ρ (ZaB hk)
 refine ⟨_, ⟨_, _, z.hs t, Zi2 _ _ _ _ _ _ _⟩, rv, hrv, Zc3 (ZcZ h1) ⟨_, h2, Zc3 (ZcZ (j := 0) rfl) ?_⟩⟩
 obtain ⟨w', a, b, y⟩ := ρ
 cases w' with
 | true =>
  dsimp only at h2 o1 o2 o3 o4 ⊢
  dsimp only [tC, cEq, onB]
  rw [Zq2]
  refine Zfh ⟨⟨_, _, z.hs t, Zh7 "work_goes" _ _ _ _ _ _ _ (by decide +kernel)⟩, _, h2, _, h2, H0, x, N, ms.length, ms, us, R, B, k, a, b, y, rfl, z, t, dat.n1, hM, by omega, hk, fun H' t' => fin H' ?_⟩
  show Stt H0 H' x N ms.length (Zfn R ((Zfc (ZhZ a) R k).map fun h => (⟨false, h.2, b, some (h.1, (k : Int))⟩ : Rw))) (B ++ []) (k + 1)
  rw [Zas]
  exact t'
 | false =>
  dsimp only at h2 o1 o2 o3 o4 ⊢
  dsimp only [tC, cEq, onB]
  have ea : a = (a.toNat : Int) := by omega
  rw [Zry]
  refine Zen ⟨⟨_, _, z.hs t, Zh7 "work_uses" _ _ _ _ _ _ _ (by decide +kernel)⟩, _, h2, _, h2, H0, x, N, ms, us, fs, R, B, k, (k : Int), b, a.toNat, (by rw [<- ea]; rfl), z, t, dat, by omega, (fun h => by rw [h] at hkl; exact absurd hkl (ZbK _)), by omega, fun H1 t1 tk => ?_⟩
  have h2' : H1 tr = some (.tup [.str (wd false), .int a, .int b, wv]) := tk _ _ h2
  rw [<- ea] at t1
  obtain ⟨more, em⟩ := Zf7 us ms a (k : Int) (ixn (atU us) b us.length) R
  have eg : ∀ p, Zfc (ZhJ p) (ZhV us ms a (k : Int) R (ixn (atU us) b us.length)) k = Zfc (ZhJ p) R k := fun p => by rw [em]; exact ZhH (ZbB hkl)
  refine ⟨⟨_, _, z.hs t1, Zh7 "work_here" _ _ _ _ _ _ _ (by decide +kernel)⟩, _, h2', _, h2', H0, x, N, ms.length, ms, us, _, _, k, b, a, y, rfl, z, t1, dat.n1, hM, by omega, by rw [em, Zaz hkl]; exact hk, fun H' t' => fin H' ?_⟩
  rw [eg] at t'
  exact t'
end
theorem _root_.BO.Internal.UsAt.to {c : Cs} {H H' : Hp} {v : V} {u : Us} {s S dx : Addr} (h : UsAt c H v u) (hs : H s = some (.ins S dx [])) (k : ∀ a o, H a = some o -> a ≠ s -> H' a = some o) : UsAt c H' v u := by
 have tk : TK H H' := fun a xs e => k a _ e (Zdx e hs (fun h => nomatch h))
 have n : ∀ {a : Addr} {C d : Addr} {p : Str × V} {r : List (Str × V)}, H a = some (.ins C d (p :: r)) -> a ≠ s := fun e => Zdx e hs (fun h => by injection h with _ _ h; cases h)
 cases u with
 | num a p q => obtain ⟨x, d, rfl, e⟩ := h; exact ⟨x, d, rfl, k _ _ e (n e)⟩
 | call a p q y z => obtain ⟨x, d, rfl, e⟩ := h; exact ⟨x, d, rfl, k _ _ e (n e)⟩
 | take a p q l => obtain ⟨x, d, f, rfl, e, i, j⟩ := h; exact ⟨x, d, f, rfl, k _ _ e (n e), i.mono tk, j⟩
 | case a p q l => obtain ⟨x, d, f, rfl, e, i, j⟩ := h; exact ⟨x, d, f, rfl, k _ _ e (n e), i.mono tk, j⟩
 | row a p q y => obtain ⟨x, d, rfl, e⟩ := h; exact ⟨x, d, rfl, k _ _ e (n e)⟩
theorem M3.to {c : Cs} {H H' : Hp} {v : V} {m : Mk3} {s S dx : Addr} (h : M3 c H v m) (hs : H s = some (.ins S dx [])) (k : ∀ a o, H a = some o -> a ≠ s -> H' a = some o) : M3 c H' v m := by
 have tk : TK H H' := fun a xs e => k a _ e (Zdx e hs (fun h => nomatch h))
 obtain ⟨x, d, f, rfl, e, i, j⟩ := h
 exact ⟨x, d, f, rfl, k _ _ e (Zdx e hs (fun h => by injection h with _ _ h; cases h)), i.mono tk, j⟩
theorem stp {Hc : Hp} {s p : Addr} {o u o2 : HO} (Hs : Hc s = some u) (hp : Hc p = none) : (∀ a w, Hc a = some w -> a ≠ s -> (upd (upd Hc p o) s o2) a = some w) /\ (upd (upd Hc p o) s o2) p = some o /\ (upd (upd Hc p o) s o2) s = some o2 /\ (upd Hc p o) s = some u := by
 have n : s ≠ p := Zc9 Hs hp
 refine ⟨fun a w e m => by rw [Zc6 m, Zc6 (Zc9 e hp)]; exact e, by rw [Zc6 (Ne.symm n)]; exact ZcX, ZcX, by rw [Zc6 n]; exact Hs⟩
noncomputable def g1 (b : Addr) : List (Str × V) := [(("board" : Str), V.ref b)]
noncomputable def g2 (b ua : Addr) : List (Str × V) := g1 b ++ [(("uses_at" : Str), V.ref ua)]
noncomputable def g3 (b ua r : Addr) : List (Str × V) := g2 b ua ++ [(("rows" : Str), V.ref r)]
noncomputable def g4 (b ua r bd : Addr) : List (Str × V) := g3 b ua r ++ [(("bads" : Str), V.ref bd)]
noncomputable def g5 (b ua r bd kn : Addr) : List (Str × V) := g4 b ua r bd ++ [(("known" : Str), V.ref kn)]
noncomputable def g6 (b ua r bd kn g : Addr) : List (Str × V) := g5 b ua r bd kn ++ [(("goes" : Str), V.ref g)]
noncomputable def g7 (b ua r bd kn g h : Addr) : List (Str × V) := g6 b ua r bd kn g ++ [(("heres" : Str), V.ref h)]
section
variable {P : Program} {w : World} {K : PySem.W.Frag} {mg : Str -> Option Value} {base : Heap}
def Znw (c : Cs) (S : Addr) : Sp := fun vs H Q _ => ∃ (s dx b bx p0 p1 p2 p3 : Addr) (r0 : V) (uv : List V) (us : List Us), vs = [.ref s, .ref b] /\ H s = some (.ins S dx []) /\ H b = some (.ins c.B bx (fB p0 p1 p2 p3 r0)) /\ H p2 = some (.lst uv) /\ ZgJ (UsAt c H) uv us /\ us.length <= 64 /\
 ∀ (ua r bd kn g h : Addr) (Lu : List Addr) (H' : Hp), (∀ a o, H a = some o -> a ≠ s -> H' a = some o) -> H' s = some (.ins S dx (fS b ua r bd kn g h)) -> DL H' ua Lu (ixv us us.length) us.length -> H' r = some (.lst []) -> H' bd = some (.lst []) -> H' kn = some (.dT []) -> H' g = some (.dK []) -> H' h = some (.dK []) ->
  H r = none -> H bd = none -> H kn = none -> H g = none -> H h = none -> (∀ a ∈ Lu, a ≠ r /\ a ≠ bd) -> r ≠ bd -> g ≠ h -> ua ≠ g -> ua ≠ h -> Q .non H'
theorem Zgg (T : Txt K mg) : Ze0 P w K mg base CX0 2 T.a_Settling___init__ T.fd_Settling___init__ ["self", "board"] (Znw (cs T) T.a_Settling) := by
 have G_uses_by_point := Zhj (P := P) (w := w) (base := base) T
 refine T.F_Settling___init__.ok Zgf (fun vs H Q E h => ?_) (fun cdv A outer s H vs Q E hr h => ?_)
 ·obtain ⟨s, dx, b, bx, p0, p1, p2, p3, r0, uv, us, rfl, _⟩ := h
  rfl
 obtain ⟨s, dx, b, bx, p0, p1, p2, p3, r0, uv, us, rfl, hs, hb, h2, hU, hn, q⟩ := h
 refine ⟨_, (Zc0 (ZfJ T.cl_Settling T.n_Settling_board (Zd8 (PE.mono (cv 0)) (PE.mono (cv 1)) rfl))
  (Zc0 (ZfJ T.cl_Settling T.n_Settling_uses_at (Zd8 (PE.mono (cv 0)) (PE.mono (Zdl G_uses_by_point (hr.mono (by decide)) rfl T.m_uses_by_point T.k_uses_by_point T.b_uses_by_point .nil Zdp (ZcW (cv 1) Zc1))) rfl))
  (Zc0 (ZfJ T.cl_Settling T.n_Settling_rows (Zd8 (PE.mono (cv 0)) (PE.mono (ZdJ Zc1)) rfl))
  (Zc0 (ZfJ T.cl_Settling T.n_Settling_bads (Zd8 (PE.mono (cv 0)) (PE.mono (ZdJ Zc1)) rfl))
  (Zc0 (ZfJ T.cl_Settling T.n_Settling_known (Zd8 (PE.mono (cv 0)) (PE.mono ZkR) rfl))
  (Zc0 (ZfJ T.cl_Settling T.n_Settling_goes (Zd8 (PE.mono (cv 0)) (PE.mono ZgG) rfl))
  (Zc4 (ZfJ T.cl_Settling T.n_Settling_heres (Zd8 (PE.mono (cv 0)) (PE.mono ZgG) rfl))))))))), ?_⟩
 have z0 : (0 : Nat) <= sizeLine := by decide
 refine ⟨dx, _, hs, (by show 0 < 1000; decide), ?_⟩
 have k1 : ∀ a o, H a = some o -> a ≠ s -> (upd H s (.ins T.a_Settling dx (g1 b))) a = some o := fun a o e m => by rw [Zc6 m]; exact e
 have hs1 : (upd H s (.ins T.a_Settling dx (g1 b))) s = some (.ins T.a_Settling dx (g1 b)) := ZcX
 change Ziw _ _ _ _ (upd H s (.ins T.a_Settling dx (g1 b)))
 generalize upd H s (.ins T.a_Settling dx (g1 b)) = H1 at k1 hs1 ⊢
 have bs : b ≠ s := Zdx hb hs (fun h => by injection h with _ _ h; cases h)
 refine ⟨b, bx, p0, p1, p2, p3, r0, uv, us, rfl, k1 _ _ hb bs, k1 _ _ h2 (Zdx h2 hs (fun h => nomatch h)), hU.imp fun _ _ h => h.to hs k1, by omega, fun ua Lu H2 S2 nua nLu D2 => ?_⟩
 refine ⟨dx, _, S2 _ _ hs1, (by show 1 < 1000; decide), ?_⟩
 rw [Zfx ["board"] rfl (by decide +kernel)]
 change Ziw _ _ _ _ (upd H2 s (.ins T.a_Settling dx (g2 b ua)))
 have k2 : ∀ a o, H1 a = some o -> a ≠ s -> (upd H2 s (.ins T.a_Settling dx (g2 b ua))) a = some o := fun a o e m => by rw [Zc6 m]; exact S2 _ _ e
 have uas : ua ≠ s := fun h => by rw [h, hs1] at nua; cases nua
 have D2' : DL (upd H2 s (.ins T.a_Settling dx (g2 b ua))) ua Lu (ixv us us.length) us.length := D2.keep (fun kvs e => by rw [Zc6 uas]; exact e) (fun a l m e => by rw [Zc6 (fun h => by have := (nLu a m).1; rw [h, hs1] at this; cases this)]; exact e)
 have L2.Internal : ∀ a ∈ Lu, a ≠ s /\ ∃ o, (upd H2 s (.ins T.a_Settling dx (g2 b ua))) a = some o := fun a m => by
  have as : a ≠ s := fun h => by have := (nLu a m).1; rw [h, hs1] at this; cases this
  obtain ⟨o, eo⟩ := (nLu a m).2
  exact ⟨as, o, by rw [Zc6 as]; exact eo⟩
 have hs2 : (upd H2 s (.ins T.a_Settling dx (g2 b ua))) s = some (.ins T.a_Settling dx (g2 b ua)) := ZcX
 generalize upd H2 s (.ins T.a_Settling dx (g2 b ua)) = H3 at k2 D2' hs2 L2.Internal ⊢
 obtain ⟨kv, eua, D3⟩ := D2'
 have DD : DL H3 ua Lu (ixv us us.length) us.length := ⟨kv, eua, D3⟩
 have lne : ∀ {Hx : Hp} {f : Int -> List V} {n : Nat} {p : Addr}, DL Hx ua Lu f n -> Hx p = none -> ua ≠ p := fun D e h => by obtain ⟨_, e2, _⟩ := D; rw [h, e] at e2; cases e2
 refine ⟨z0, fun r hr0 => ⟨dx, _, (stp (o := .lst []) (o2 := .lst []) hs2 hr0).2.2.2, (by show 2 < 1000; decide), ?_⟩⟩
 rw [Zfx ["board", "uses_at"] rfl (by decide +kernel)]
 change Ziw _ _ _ _ (upd (upd H3 r (.lst [])) s (.ins T.a_Settling dx (g3 b ua r)))
 obtain ⟨k3, er3, hs3, _⟩ := stp (o := .lst []) (o2 := .ins T.a_Settling dx (g3 b ua r)) hs2 hr0
 have rs : r ≠ s := fun h => by rw [h, hs2] at hr0; cases hr0
 generalize upd (upd H3 r (.lst [])) s (.ins T.a_Settling dx (g3 b ua r)) = H4 at k3 er3 hs3 ⊢
 refine ⟨z0, fun bd hbd => ⟨dx, _, (stp (o := .lst []) (o2 := .lst []) hs3 hbd).2.2.2, (by show 3 < 1000; decide), ?_⟩⟩
 rw [Zfx ["board", "uses_at", "rows"] rfl (by decide +kernel)]
 change Ziw _ _ _ _ (upd (upd H4 bd (.lst [])) s (.ins T.a_Settling dx (g4 b ua r bd)))
 obtain ⟨k4, ebd4, hs4, _⟩ := stp (o := .lst []) (o2 := .ins T.a_Settling dx (g4 b ua r bd)) hs3 hbd
 have rb : r ≠ bd := fun h => by rw [<- h, er3] at hbd; cases hbd
 have bds : bd ≠ s := fun h => by rw [h, hs3] at hbd; cases hbd
 generalize upd (upd H4 bd (.lst [])) s (.ins T.a_Settling dx (g4 b ua r bd)) = H5 at k4 ebd4 hs4 ⊢
 refine fun kn hkn => ⟨dx, _, (stp (o := .dT []) (o2 := .lst []) hs4 hkn).2.2.2, (by show 4 < 1000; decide), ?_⟩
 rw [Zfx ["board", "uses_at", "rows", "bads"] rfl (by decide +kernel)]
 change Ziw _ _ _ _ (upd (upd H5 kn (.dT [])) s (.ins T.a_Settling dx (g5 b ua r bd kn)))
 obtain ⟨k5, ekn5, hs5, _⟩ := stp (o := .dT []) (o2 := .ins T.a_Settling dx (g5 b ua r bd kn)) hs4 hkn
 generalize upd (upd H5 kn (.dT [])) s (.ins T.a_Settling dx (g5 b ua r bd kn)) = H6 at k5 ekn5 hs5 ⊢
 have kns : kn ≠ s := Zdx ekn5 hs5 (fun h => nomatch h)
 refine fun g hg => ⟨dx, _, (stp (o := .dK []) (o2 := .lst []) hs5 hg).2.2.2, (by show 5 < 1000; decide), ?_⟩
 rw [Zfx ["board", "uses_at", "rows", "bads", "known"] rfl (by decide +kernel)]
 change Zjm.nx _ _ (upd (upd H6 g (.dK [])) s (.ins T.a_Settling dx (g6 b ua r bd kn g)))
 obtain ⟨k6, eg6, hs6, _⟩ := stp (o := .dK []) (o2 := .ins T.a_Settling dx (g6 b ua r bd kn g)) hs5 hg
 have gs : g ≠ s := Zdx eg6 hs6 (fun h => nomatch h)
 have e6 : ∀ a o, H3 a = some o -> a ≠ s -> H6 a = some o := fun a o e m => k5 _ _ (k4 _ _ (k3 _ _ e m) m) m
 have uag : ua ≠ g := fun h => by rw [<- h, e6 _ _ eua uas] at hg; cases hg
 generalize upd (upd H6 g (.dK [])) s (.ins T.a_Settling dx (g6 b ua r bd kn g)) = H7 at k6 eg6 hs6 ⊢
 refine fun h hh => ⟨dx, _, (stp (o := .dK []) (o2 := .lst []) hs6 hh).2.2.2, (by show 6 < 1000; decide), ?_⟩
 rw [Zfx ["board", "uses_at", "rows", "bads", "known", "goes"] rfl (by decide +kernel)]
 show Q .non (upd (upd H7 h (.dK [])) s (.ins T.a_Settling dx (g7 b ua r bd kn g h)))
 obtain ⟨k7, eh7, hs7, _⟩ := stp (o := .dK []) (o2 := .ins T.a_Settling dx (g7 b ua r bd kn g h)) hs6 hh
 have uah : ua ≠ h := fun z => by rw [<- z, k6 _ _ (e6 _ _ eua uas) uas] at hh; cases hh
 have gh : g ≠ h := fun z => by rw [<- z, eg6] at hh; cases hh
 have e8 : ∀ a o, H3 a = some o -> a ≠ s -> (upd (upd H7 h (.dK [])) s (.ins T.a_Settling dx (g7 b ua r bd kn g h))) a = some o := fun a o e m => k7 _ _ (k6 _ _ (e6 a o e m) m) m
 have nn : ∀ {Hx : Hp} {p : Addr}, (∀ a o, H a = some o -> a ≠ s -> Hx a = some o) -> Hx p = none -> p ≠ s -> H p = none := fun {Hx p} k e m => by
  cases z : H p with
  | none => rfl
  | some o => rw [k p o z m] at e; cases e
 refine q ua r bd kn g h Lu _ (fun a o e m => e8 a o (k2 _ _ (k1 _ _ e m) m) m) hs7 (DD.keep (fun kvs e => e8 _ _ e uas) (fun a l m e => e8 _ _ e (Zdx e hs2 (fun h => nomatch h)))) ?_ ?_ ?_ (k7 _ _ eg6 gs) eh7 ?_ ?_ ?_ ?_ ?_ ?_ rb gh uag uah
 ·exact k7 _ _ (k6 _ _ (k5 _ _ (k4 _ _ er3 rs) rs) rs) rs
 ·exact k7 _ _ (k6 _ _ (k5 _ _ ebd4 bds) bds) bds
 ·exact k7 _ _ (k6 _ _ ekn5 kns) kns
 ·exact nn (fun a o e m => k2 _ _ (k1 _ _ e m) m) hr0 rs
 ·exact nn (fun a o e m => k3 _ _ (k2 _ _ (k1 _ _ e m) m) m) hbd bds
 ·exact nn (fun a o e m => k4 _ _ (k3 _ _ (k2 _ _ (k1 _ _ e m) m) m) m) hkn kns
 ·exact nn (fun a o e m => e6 _ _ (k2 _ _ (k1 _ _ e m) m) m) hg gs
 ·exact nn (fun a o e m => k6 _ _ (e6 _ _ (k2 _ _ (k1 _ _ e m) m) m) m) hh (Zdx eh7 hs7 (fun h => nomatch h))
 ·intro a m
  obtain ⟨as, o, eo⟩ := L2.Internal a m
  exact ⟨fun h => (by rw [h, hr0] at eo; cases eo), fun h => (by have := k3 _ _ eo as; rw [h, hbd] at this; cases this)⟩
end
section
variable {P : Program} {w : World} {K : PySem.W.Frag} {mg : Str -> Option Value} {base : Heap}
theorem ZmO {us : List Us} {ms : List Mk3} {R : List Rw} : ∀ k : Nat, (Zfc (Znv us ms) R k).length <= us.length * k
 | 0 => ZbD _
 | k + 1 => by
  have ih := ZmO (us := us) (ms := ms) (R := R) k
  rw [Zfc, ZaC, Nat.mul_succ]
  have : (match R[k]? with
   | some r => Znv us ms r k
   | none => []).length <= us.length := by
   cases R[k]? with
   | none => exact ZbE _
   | some r =>
    show (Znv us ms r k).length <= us.length
    unfold Znv
    cases r.w with
    | true => exact ZbE _
    | false => exact Zox
  exact Nat.add_le_add ih this
theorem two0 {H0 : Hp} {d e : Addr} {N M : Int -> List (Int × Int)} (hd : H0 d = some (.dK [])) (he : H0 e = some (.dK [])) (hN : ∀ p, N p = []) (hM : ∀ p, M p = []) : Two H0 H0 d e N M 0 [] [] (fun _ => []) (fun _ => []) :=
 ⟨⟨[], hd, ZbE _, fun _ _ => rfl, fun _ _ h => (by cases h), fun _ _ _ h => (by cases h)⟩, ⟨[], he, ZbE _, fun _ _ => rfl, fun _ _ h => (by cases h), fun _ _ _ h => (by cases h)⟩, fun _ h => absurd h ZaS, fun _ h => absurd h ZaS, fun _ h => absurd h ZaS,
  fun p => ⟨ZbE _, by rw [hN p]; exact .nil⟩, fun p => ⟨ZbE _, by rw [hM p]; exact .nil⟩⟩
noncomputable def flR (fs : List (Int × Int)) : List Rw := fs.map fun p => ⟨true, p.1, p.2, none⟩
noncomputable def heR (ms : List Mk3) : Nat -> List Rw
 | 0 => []
 | n + 1 => heR ms n ++ match ms[n]? with
  | some mk => [⟨false, (n : Int), mk.a, none⟩]
  | none => []
theorem ZoJ {ms : List Mk3} {n : Nat} {mk : Mk3} (h : ms[n]? = some mk) : heR ms (n + 1) = heR ms n ++ [⟨false, (n : Int), mk.a, none⟩] := by rw [heR, h]
noncomputable def ZlI (fs : List (Int × Int)) (ms : List Mk3) : List Rw := Zfn (Zfn [] (flR fs)) (heR ms ms.length)
inductive Zkw (us : List Us) (ms : List Mk3) (R0 : List Rw) : Nat -> List Rw -> Prop
 | zero : Zkw us ms R0 0 R0
 | step {k : Nat} {R : List Rw} {ρ : Rw} : Zkw us ms R0 k R -> R[k]? = some ρ -> Zkw us ms R0 (k + 1) (Zkv us ms R k ρ)
def ZlJ (c : Cs) (L : Addr) : Sp := fun vs H Q _ => ∃ (b bx p0 p1 p2 p3 : Addr) (N : Int) (mv uv fv : List V) (ms : List Mk3) (us : List Us) (fs : List (Int × Int)), vs = [.ref b] /\ H b = some (.ins c.B bx (fB p0 p1 p2 p3 (.int 0))) /\ H p1 = some (.lst mv) /\ ZgJ (M3 c H) mv ms /\ H p2 = some (.lst uv) /\ ZgJ (UsAt c H) uv us /\ H p3 = some (.lst fv) /\ Ims H fv (fs.map flD) /\ Dat N ms us fs /\
 ∀ (l dl r bd : Addr) (H' : Hp) (rv bv : List V) (R : List Rw), Zdj H H' -> H' l = some (.ins L dl (fL r bd)) -> H' r = some (.lst rv) -> Ims H' rv (R.map Rw.d) -> H' bd = some (.lst bv) -> Ims H' bv ((Zfc (Znv us ms) R R.length).map flD) -> (∀ ρ ∈ R, ρ.ok N ms.length) -> R.length <= 8192 -> (R.map Rw.k).Nodup -> Zkw us ms (ZlI fs ms) R.length R -> Q (.ref l) H'
theorem ZlK (T : Txt K mg) : Ze0 P w K mg base CX0 5 T.a_settled T.fd_settled ["board"] (ZlJ (cs T) T.a_Log) := by
 have G_Settling___init__ := Zgg (P := P) (w := w) (base := base) T
 have G_Settling_put := Ze2 (P := P) (w := w) (base := base) T
 have G_Settling_work := Zhk (P := P) (w := w) (base := base) T
 have G_Log___init__ := Zf3 (P := P) (w := w) (base := base) T
 refine T.F_settled.ok Ze8 (fun vs H Q E h => ?_) (fun cdv A outer s H vs Q E hr h => ?_)
 ·obtain ⟨b, bx, p0, p1, p2, p3, N, mv, uv, fv, ms, us, fs, rfl, _⟩ := h
  rfl
 obtain ⟨b, bx, p0, p1, p2, p3, N, mv, uv, fv, ms, us, fs, rfl, hb, h1, hM, h2, hU, h3, hF, dat, q⟩ := h
 refine ⟨_, (Zc0 (Zdn (i := 1) Ze8.nd rfl (.inl rfl) (ZfH T.mk_Settling G_Settling___init__ (hr.mono (by decide)) rfl T.m_Settling T.b_Settling___init__ .nil Zdp (ZcW (cv 0) Zc1)))
  (Zc0 (Zet PassesOwn.never rfl (Zd0 (Zdi T.cl_Board T.n_Board_flows (cv 0))) (ZdG (i := 2) Ze8.nd rfl (.inl rfl))
   (Zc4 (Zdr (ZdN (Zec (PE.mono (cv 1)) T.cl_Settling T.me_Settling_put G_Settling_put (hr.mono (by decide)) T.b_Settling_put .nil Zdp (ZcW Zdm (ZcW (Zc8 Zc7 (cv 2) ZcY (fun _ _ => rfl)) (ZcW (Zc8 Zc7 (cv 2) ZcY (fun _ _ => rfl)) (ZcW ZfO Zc1)))))))))
  (Zc0 (Zet PassesOwn.never rfl (ZhC rfl T.z_enumerate (ZcW (Zdi T.cl_Board T.n_Board_makes (cv 0)) Zc1)) (Zjo rfl (Ze9 (ZdG (i := 3) Ze8.nd rfl (.inl rfl)) (Ze9 (ZdG (i := 4) Ze8.nd rfl (.inl rfl)) Zhs)))
   (Zc4 (Zdr (ZdN (Zec (PE.mono (cv 1)) T.cl_Settling T.me_Settling_put G_Settling_put (hr.mono (by decide)) T.b_Settling_put .nil Zdp (ZcW Zdm (ZcW (cv 3) (ZcW (Zdi T.cl_Make T.n_Make_at (cv 4)) (ZcW ZfO Zc1)))))))))
  (Zc0 (Zdn (i := 5) Ze8.nd rfl (.inl rfl) ZcY)
  (Zc0 (ZkK PassesOwn.never (Zdb Zov (cv 5) (Zdq Zdw rfl T.z_len Zfo (ZcW (Zdi T.cl_Settling T.n_Settling_rows (cv 1)) Zc1)) (Zdk _))
   (Zc0 (Zdr (ZdN (Zec (PE.mono (cv 1)) T.cl_Settling T.me_Settling_work G_Settling_work (hr.mono (by decide)) T.b_Settling_work .nil Zdp (ZcW (cv 5) Zc1))))
   (Zc4 (Zpb (i := 5) Ze8.nd rfl (.inl rfl) ZcY Zpc))))
  (Zc4 (Zdd (ZfH T.mk_Log G_Log___init__ (hr.mono (by decide)) rfl T.m_Log T.b_Log___init__ .nil Zdp (ZcW (Zdi T.cl_Settling T.n_Settling_rows (cv 1)) (ZcW (Zdi T.cl_Settling T.n_Settling_bads (cv 1)) Zc1)))))))))), ?_⟩
 have sl : sizeLine = 16777216 := sizeLine_eq
 have hM64 : (ms.length : Int) <= 64 := by have := dat.lm; omega
 refine fun s dx hs hdx _ => ?_
 have S1 : Zdj H (upd (upd H dx (.own s)) s (.ins T.a_Settling dx [])) := Zd6 hs hdx
 have es : (upd (upd H dx (.own s)) s (.ins T.a_Settling dx [])) s = some (.ins T.a_Settling dx []) := ZcX
 have fresh : ∀ a, (upd (upd H dx (.own s)) s (.ins T.a_Settling dx [])) a = none -> H a = none := fun a e => by
  cases z : H a with
  | none => rfl
  | some o => rw [S1 _ _ z] at e; cases e
 generalize upd (upd H dx (.own s)) s (.ins T.a_Settling dx []) = H1 at S1 es fresh ⊢
 refine ⟨s, dx, b, bx, p0, p1, p2, p3, _, uv, us, rfl, es, S1 _ _ hb, S1 _ _ h2, hU.imp fun _ _ h => h.mono (Zdj.fk S1), dat.lu, fun ua r bd kn g h Lu H0 k hS D er ebd ekn eg eh nr nbd nkn ng nh nL rb gh uag uah => ⟨rfl, ?_⟩⟩
 have sN : ∀ {a : Addr} {o : HO}, H a = some o -> a ≠ s := fun e z => by rw [z, hs] at e; cases e
 have keepH : ∀ a o, H a = some o -> H0 a = some o := fun a o e => k _ _ (S1 _ _ e) (sN e)
 have pn : ∀ {a p : Addr} {o : HO}, H a = some o -> H1 p = none -> a ≠ p := fun e z => Zc9 e (fresh _ z)
 have Z : ZhT (cs T) T.a_Settling H0 ⟨s, dx, b, bx, p0, p1, p2, p3, ua, r, bd, kn, g, h, Lu⟩ ms us :=
  ⟨hS, keepH _ _ hb, ⟨mv, keepH _ _ h1, hM.imp fun _ _ h => (show M3 _ H1 _ _ from Zkg.mono (Zdj.fk S1) h).to es k⟩, ⟨uv, keepH _ _ h2, hU.imp fun _ _ h => (h.mono (Zdj.fk S1)).to es k⟩, D, ⟨_, er⟩, ⟨_, ebd⟩, ⟨_, ekn⟩, ⟨_, eg⟩, ⟨_, eh⟩, rb, gh, uag, uah, pn h1 nr, pn h1 nbd, pn h2 nr, pn h2 nbd, nL⟩
 have T0 : Stt H0 H0 ⟨s, dx, b, bx, p0, p1, p2, p3, ua, r, bd, kn, g, h, Lu⟩ N ms.length [] [] 0 :=
  ⟨fun a o e _ _ _ _ _ => e, ⟨[], er, .nil⟩, ⟨[], ebd, .nil⟩, ekn, ⟨_, _, _, _, two0 eg eh (fun _ => rfl) (fun _ => rfl)⟩, ZaI, fun _ h => absurd h ZaS, ZbD _⟩
 have e3 := keepH _ _ h3
 have n31 := pn h3 nr
 have n32 := pn h3 nbd
 have hF0 : Ims H0 fv (fs.map flD) := hF.mono fun a xs e => keepH _ _ e
 generalize hx : (⟨s, dx, b, bx, p0, p1, p2, p3, ua, r, bd, kn, g, h, Lu⟩ : Sx) = x at Z T0
 have xs_ : x.s = s := by rw [<- hx]
 have xb : x.b = b := by rw [<- hx]
 have xr : x.r = r := by rw [<- hx]
 have xbd : x.bd = bd := by rw [<- hx]
 have hbo : ∀ {H2 : Hp} {R : List Rw} {B : List (Int × Int)} {k : Nat}, Stt H0 H2 x N ms.length R B k -> H2 b = some (.ins (cs T).B bx (fB p0 p1 p2 p3 (.int 0))) := fun t => by
  have := Z.hb t
  rw [<- hx] at this
  exact this
 have hso : ∀ {H2 : Hp} {R : List Rw} {B : List (Int × Int)} {k : Nat}, Stt H0 H2 x N ms.length R B k -> H2 s = some (.ins T.a_Settling dx (fS b ua r bd kn g h)) := fun t => by
  have := Z.hs t
  rw [<- hx] at this
  exact this
 have fl : ∀ {H2 : Hp} {R : List Rw} {B : List (Int × Int)} {k : Nat}, Stt H0 H2 x N ms.length R B k -> H2 p3 = some (.lst fv) := fun t => Z.lst t e3 (by rw [xr]; exact n31) (by rw [xbd]; exact n32)
 have tkk : ∀ {H2 : Hp} {R : List Rw} {B : List (Int × Int)} {k : Nat}, Stt H0 H2 x N ms.length R B k -> TK H0 H2 := fun t a xs e => Z.fix t e (fun _ h => nomatch h) (fun _ h => nomatch h) (fun _ h => nomatch h)
 refine ⟨_, ⟨_, _, hbo T0, Zk9 _ _ _ _ _⟩, p3, rfl, ⟨_, SqL.of (fl T0)⟩, Zea (xs := fv) (fun i σ H2 => ∃ (o2 o3 o4 o5 : Option V), σ = [some (.ref b), some (.ref s), o2, o3, o4, o5] /\ Stt H0 H2 x N ms.length (Zfn [] (flR (fs.take i))) [] 0)
  ⟨none, none, none, none, rfl, T0⟩ (fun i σ H2 _ ⟨_, _, _, _, _, t⟩ => SqL.of (fl t)) ?_ ?_⟩
 ·rintro i v σ H2 hv ⟨o2, o3, o4, o5, rfl, t⟩
  obtain ⟨p, tt, hp, rfl, et⟩ := ZhU hF0 hv
  have et2 := tkk t _ _ et
  have hpm := dat.fo p (ZaB hp)
  refine ⟨⟨_, _, hso t, Zh7 "put" _ _ _ _ _ _ _ (by decide +kernel)⟩, _, et2, _, et2, H0, x, N, ms.length, ms, us, _, [], 0, ⟨true, p.1, p.2, none⟩, .non, by rw [xs_]; rfl, Z, t, dat.n1, hM64, .flat rfl, ⟨hpm.1.1, hpm.1.2, hpm.2.1, hpm.2.2⟩, fun H' t' _ => ⟨_, _, _, _, rfl, ?_⟩⟩
  unfold flR
  rw [Zhn hp, ZfD]
  exact t'
 ·rintro σ H2 ⟨o2, o3, o4, o5, rfl, t⟩
  have hfl := hF0.length
  rw [Zar] at hfl
  rw [hfl, Za9] at t
  have ml : ∀ {H2 : Hp} {R : List Rw} {B : List (Int × Int)} {k : Nat}, Stt H0 H2 x N ms.length R B k -> H2 p1 = some (.lst mv) := fun t => Z.lst t (keepH _ _ h1) (by rw [xr]; exact pn h1 nr) (by rw [xbd]; exact pn h1 nbd)
  refine ⟨_, ⟨_, _, hbo t, ZfM _ _ _ _ _⟩, p1, rfl, ⟨_, SqL.of (ml t)⟩, ZgT (xs := mv) (fun i σ H2 => ∃ (o2 o3 o4 o5 : Option V), σ = [some (.ref b), some (.ref s), o2, o3, o4, o5] /\ Stt H0 H2 x N ms.length (Zfn (Zfn [] (flR fs)) (heR ms i)) [] 0)
   ⟨_, _, _, _, rfl, t⟩ (fun i σ H2 _ ⟨_, _, _, _, _, t⟩ => SqL.of (ml t)) ?_ ?_⟩
  ·rintro i v σ H2 tt hv ⟨o2, o3, o4, o5, rfl, t⟩ htt
   obtain ⟨mv0, em0, hM0⟩ := Z.m
   have eqv : mv0 = mv := by
    have : H0 x.p1 = some (.lst mv) := by rw [<- hx]; exact keepH _ _ h1
    rw [em0] at this
    cases this
    rfl
   subst eqv
   obtain ⟨mk, hmk, hm3⟩ := hM0.get hv
   have hil := (Zaj.mp hmk).1
   have hmo := dat.mo mk (ZaB hmk)
   have sT := Zc2 htt (.tup [.int (i : Int), v])
   refine ⟨tt, _, rfl, SqT.of ZcX, rfl, _, _, rfl, _, _, rfl, rfl, ?_⟩
   have t1 := t.same sT
   generalize upd H2 tt (.tup [.int (i : Int), v]) = H3 at t1 ⊢
   obtain ⟨xm, dxm, f, rfl, exm, _⟩ := Zkg.mono (Z.fk t1) hm3
   refine ⟨⟨_, _, hso t1, Zh7 "put" _ _ _ _ _ _ _ (by decide +kernel)⟩, _, ⟨_, _, exm, ZqW _ _ _ _⟩, H0, x, N, ms.length, ms, us, _, [], 0, ⟨false, (i : Int), mk.a, none⟩, .non, by rw [xs_]; rfl, Z, t1, dat.n1, hM64, .flat rfl, ⟨by show (0 : Int) <= (i : Int); omega, by show (i : Int) < (ms.length : Int); omega, hmo.2.2.1, hmo.2.2.2⟩, fun H' t' _ => ⟨_, _, _, _, rfl, ?_⟩⟩
   rw [ZoJ hmk, ZfD]
   exact t'
  ·rintro σ H2 ⟨o2, o3, o4, o5, rfl, t⟩
   have hml := hM.length
   rw [hml] at t
   refine ⟨fun m σ H2 => ∃ (o2 o3 o4 : Option V) (k : Nat) (R : List Rw), m = 9000 - k /\ σ = [some (.ref b), some (.ref s), o2, o3, o4, some (.int (k : Int))] /\ k <= R.length /\ Zkw us ms (ZlI fs ms) k R /\ Stt H0 H2 x N ms.length R (Zfc (Znv us ms) R k) k, ⟨_, _, _, _, 0, _, rfl, rfl, ZbE _, .zero, t⟩, ?_⟩
   rintro m σ H2 ⟨o2, o3, o4, k, R, rfl, rfl, hk, hre, t⟩
   have hlen := t.len dat.n1 hM64
   obtain ⟨rv, hrv, hrl⟩ := t.r
   have hrn : rv.length = R.length := by rw [hrl.length, Zar]
   refine ⟨_, ⟨_, _, hso t, Zi2 _ _ _ _ _ _ _⟩, r, _, rfl, .inl (SqL.of (by rw [<- xr]; exact hrv)), ?_⟩
   by_cases hkl : k < R.length
   ·dsimp only [cI0, onB]
    rw [decide_eq_true (show (k : Int) < (rv.length : Int) by omega)]
    refine Zfh ⟨fun σ' H' => ∃ m', m' < 9000 - k /\ ∃ (o2 o3 o4 : Option V) (k : Nat) (R : List Rw), m' = 9000 - k /\ σ' = [some (.ref b), some (.ref s), o2, o3, o4, some (.int (k : Int))] /\ k <= R.length /\ Zkw us ms (ZlI fs ms) k R /\ Stt H0 H' x N ms.length R (Zfc (Znv us ms) R k) k, fun _ _ h => h, ?_⟩
    obtain ⟨ρ, hρ⟩ : ∃ ρ, R[k]? = some ρ := ⟨_, ZaQ hkl⟩
    have dl := ZmO (us := us) (ms := ms) (R := R) k
    have := dat.lu
    refine ⟨⟨_, _, hso t, Zh7 "work" _ _ _ _ _ _ _ (by decide +kernel)⟩, H0, x, N, ms, us, fs, R, _, k, ρ, by rw [xs_]; rfl, Z, t, dat, hρ, ZbA dl (Nat.mul_le_mul_right k this), fun H' t' => ?_⟩
    obtain ⟨more, em⟩ := ZmM us ms R k ρ
    refine ⟨_, rfl, _, _, rfl, rfl, 9000 - (k + 1), by omega, _, _, _, k + 1, Zkv us ms R k ρ, rfl, rfl, by rw [em, ZaC]; omega, .step hre hρ, ?_⟩
    rw [em] at t' ⊢
    rw [ZhH (R := R) (S := more) (n := k + 1) hkl, ZhI hρ]
    exact t'
   ·have ek : k = R.length := by omega
    subst ek
    obtain ⟨bv, hbv, hbl⟩ := t.bd
    dsimp only [cI0, onB]
    rw [decide_eq_false (show ¬ ((R.length : Nat) : Int) < (rv.length : Int) by omega)]
    refine Zen ⟨_, ⟨_, _, hso t, Zi2 _ _ _ _ _ _ _⟩, _, ⟨_, _, hso t, ZmK _ _ _ _ _ _ _⟩, fun l dl hl hdl _ => ?_⟩
    refine ⟨l, dl, r, bd, rfl, ZcX, rfl, ?_⟩
    rw [ZdZ]
    have S9 : Zdj H2 (upd (upd H2 dl (.own l)) l (.ins T.a_Log dl (fL r bd))) := Zd6 hl hdl
    refine q l dl r bd _ rv bv R (fun a o e => S9 _ _ (t.keep a o (keepH _ _ e) (by rw [xr]; exact pn e nr) (by rw [xbd]; exact pn e nbd) ?_ ?_ ?_)) ZcX (by have := S9 _ _ hrv; rw [xr] at this; exact this) (hrl.mono (Zdj.tk S9)) (by have := S9 _ _ hbv; rw [xbd] at this; exact this) (hbl.mono (Zdj.tk S9)) t.ok hlen t.nd hre
    ·rw [<- hx]; exact pn e nkn
    ·rw [<- hx]; exact pn e ng
    ·rw [<- hx]; exact pn e nh
end
section
variable {P : Program} {w : World} {K : PySem.W.Frag} {mg : Str -> Option Value} {base : Heap}
noncomputable def Zq3 : List Int := [48271, 69621, 16807, 39373, 40692, 52774, 12211, 3791, 40014]
noncomputable def Zq4 : List Int := [10007, 20011, 30011, 40009, 50021, 60013, 70001, 80021, 90001]
theorem Zkx {l : List Int} {i : Int} (h0 : 0 <= i) (h1 : i < (l.length : Int)) : ∃ n, atI (l.map V.int) i = some (.int n) /\ n ∈ l := by
 obtain ⟨c, e, m⟩ := ZnQ (l.map V.int) i h0 (by rw [Zar]; exact h1)
 obtain ⟨n, hn, rfl⟩ := ZaT.mp m
 exact ⟨n, e, hn⟩
theorem ZoK : ∀ n ∈ Zq3, -(2 ^ 64) < n /\ n < 2 ^ 64 := by decide
theorem ZoL : ∀ n ∈ Zq4, 0 < n := by decide
def Zf9 : Sp := fun vs H Q _ => ∃ c t m : Int, vs = [.int c, .int t, .int m] /\ 0 <= t /\ t < 9 /\ 0 < m /\ ∀ n H', Zdj H H' -> 0 <= n -> n < m -> Q (.int n) H'
theorem Zfy (T : Txt K mg) : Ze0 P w K mg base CX0 1 T.a_pick T.fd_pick ["_law_cell", "_law_turn", "_law_many"] Zf9 := by
 refine T.F_pick.ok Zf1 (fun vs H Q E h => ?_) (fun cdv A outer s H vs Q E hr h => ?_)
 ·obtain ⟨c, t, m, rfl, _⟩ := h
  rfl
 obtain ⟨c, t, m, rfl, t0, t1, hm, q⟩ := h
 refine ⟨_, (Zc0 (Zdn (i := 3) Zf1.nd rfl (.inl rfl) (ZdJ (Zkf (xs := [48271, 69621, 16807, 39373, 40692, 52774, 12211, 3791, 40014]) (by decide +kernel))))
  (Zc0 (Zdn (i := 4) Zf1.nd rfl (.inl rfl) (ZdJ (Zkf (xs := [10007, 20011, 30011, 40009, 50021, 60013, 70001, 80021, 90001]) (by decide +kernel))))
  (Zc4 (Zdd (Zeb ZfR (Zeb ZfR (Zeb ZkY (Zeb ZhF (Zeb ZfR (cv 0) (Zeb ZnU ZcY ZcY)) ZcY) (Zc8 Zde (cv 3) (cv 1) (fun _ _ => rfl))) (Zc8 Zde (cv 4) (cv 1) (fun _ _ => rfl))) (cv 2)))))), ?_⟩
 obtain ⟨f, ef, mf⟩ := Zkx (l := Zq3) t0 t1
 obtain ⟨p, ep, mp⟩ := Zkx (l := Zq4) t0 t1
 refine ⟨(by show 9 <= sizeLine; decide), fun a ha => ⟨(by show 9 <= sizeLine; decide), fun b hb => ?_⟩⟩
 have S1 := Zc2 ha (.lst (Zq3.map V.int))
 have S2 := Zc2 hb (.lst (Zq4.map V.int))
 refine ⟨⟨by decide, by decide, by decide⟩, (by show (0 : Int) < 10 ^ (40 : Int).toNat; decide +kernel), _, S2 _ _ ZcX, Zc3 ef ⟨.inr (ZoK f mf), _, ZcX, Zc3 ep ⟨ZoL p mp, hm, ?_⟩⟩⟩
 exact q _ _ (S1.trans S2) (ZcL _ (Int.ne_of_gt hm)) (ZcM _ hm)
theorem ZoM {X : Cx} : OpR X (binaryOp .Mult) (fun x y H Q => ∃ (i : Str) (n : Int), x = .str i /\ y = .int n /\ 0 <= n /\ n < 100 /\ 1 <= i.length /\ i.length <= 1000 /\ ∀ z : Str, z.length = n.toNat * i.length -> Q (.str z) H) := by
 intro pins s σ H x y v u Q I rx ry h
 obtain ⟨i, n, rfl, rfl, h0, h9, hl, hm, q⟩ := h
 by_cases n2 : 2 <= n
 ·exact ZlC pins s σ H _ _ v u Q I rx ry ⟨i, n, rfl, rfl, n2, h9, hl, hm, q _ (Zmm i _)⟩
 obtain ⟨t, rfl⟩ := rx
 obtain ⟨t', rfl⟩ := ry
 by_cases n1 : n = 1
 ·subst n1
  refine PySem.P.mul_str (by decide) (fun _ h => by simp at h) (fun _ h => by simp at h) ?_
  rw [if_neg (by decide), if_pos (by simp)]
  exact ⟨.str i, H, I, ⟨_, rfl⟩, q i (by simp)⟩
 ·obtain rfl : n = 0 := by omega
  exact PySem.P.mul_str_none (by decide) (by decide) ⟨.str Str.empty, H, I.tok _, ⟨_, rfl⟩, q _ (by show (0 : Nat) = 0 * i.length; omega)⟩
noncomputable def sg4 (k : Nat) : Nat := ("abcd" : Str).cps.toList.getD k 0
noncomputable def w4 (A B : Str) (k : Nat) : Str := A ++ ⟨#[sg4 k]⟩ ++ B
theorem Znx (a b : Str) : (a ++ b).cps.toList = a.cps.toList ++ b.cps.toList := ZcG
theorem ZhW (c : Nat) : (⟨#[c]⟩ : Str).length = 1 := rfl
theorem ZpW {f : Nat -> Str} (h : ∀ a, a < 4 -> ∀ b, b < 4 -> a ≠ b -> f a ≠ f b) : ((Zaa 4).map f).Nodup := by
 rw [List.Nodup, Zbp]
 refine List.Pairwise.imp_of_mem (fun {a b} ha hb hlt => ?_) Zbs
 exact h a (Zac.mp ha) b (Zac.mp hb) (Zbz hlt)
theorem ZpX : ∀ a, a < 4 -> ∀ b, b < 4 -> a ≠ b -> sg4 a ≠ sg4 b := by decide +kernel
theorem Zny (A B : Str) : ((Zaa 4).map (w4 A B)).Nodup := ZpW fun a ha b hb hn e => by
 have h := congrArg (fun z : Str => z.cps.toList) e
 simp only [w4, Znx] at h
 have h2 := List.append_cancel_left (List.append_cancel_right h)
 injection h2 with h3 _
 exact ZpX a ha b hb hn h3
def Wd (H : Hp) (l : Addr) : Prop := ∃ ws : List Str, H l = some (.lst (ws.map V.str)) /\ ws.length = 4 /\ ws.Nodup
theorem Wd.same {H H' : Hp} {l : Addr} (h : Wd H l) (s : Zdj H H') : Wd H' l := by
 obtain ⟨ws, e, z⟩ := h
 exact ⟨ws, s _ _ e, z⟩
theorem Zq5 {H : Hp} {l : Addr} (h : Wd H l) : ∃ ws : List Str, H l = some (.lst (ws.map V.str)) /\ ws.Nodup /\ ∀ i : Int, 0 <= i -> i < 4 -> ∃ x, atI (ws.map V.str) i = some (.str x) /\ ws[i.toNat]? = some x := by
 obtain ⟨ws, e, hl, hn⟩ := h
 refine ⟨ws, e, hn, fun i h0 h1 => ?_⟩
 have hi : i.toNat < ws.length := by omega
 refine ⟨ws[i.toNat], ?_, ZaQ hi⟩
 have z : atI (ws.map V.str) ((i.toNat : Nat) : Int) = some (.str ws[i.toNat]) := ZcZ (by rw [ZaA, ZaQ hi]; rfl)
 rw [show ((i.toNat : Nat) : Int) = i by omega] at z
 exact z
theorem ZmP {a : Nat} {ws : List Str} (h : ∀ (j : Nat) (y : Str), ws[j]? = some y -> y.length = a + j) : ws.Nodup := by
 rw [List.Nodup, Zbl]
 intro i j hi hj hlt e
 have h1 := h i _ (ZaQ hi)
 have h2 := h j _ (ZaQ hj)
 rw [e] at h1
 omega
theorem ZpY {k ch : Nat} (h : ("abcd" : Str).cps[k]? = some ch) : sg4 k = ch := by
 rw [sg4, ZaV, ZcC, h]
 rfl
def Zi3 : Sp := fun vs H Q _ => ∃ c : Int, vs = [.int c] /\ ∀ l H', Zdj H H' -> H l = none -> Wd H' l -> Q (.ref l) H'
theorem Zi4 (T : Txt K mg) : Ze0 P w K mg base CX0 2 T.a_words T.fd_words ["_law_cell"] Zi3 := by
 refine T.F_words.ok ZeJ (fun vs H Q E h => ?_) (fun cdv A outer s H vs Q E hr h => ?_)
 ·obtain ⟨c, rfl, _⟩ := h
  rfl
 obtain ⟨c0, rfl, q⟩ := h
 refine ⟨_, (Zc0 (Zdn (i := 1) ZeJ.nd rfl (.inl rfl) (Zeb ZfR (cv 0) (Zeb ZnU ZcY ZcY)))
  (Zc0 (Zdn (i := 2) ZeJ.nd rfl (.inr rfl) Zdm)
  (Zc0 (Zet PassesOwn.never rfl (ZfW rfl T.z_range (ZcW (Zeb ZfR (cv 1) ZcY) Zc1)) (ZdG (i := 3) ZeJ.nd rfl (.inl rfl))
   (Zc4 (Zdn (i := 2) ZeJ.nd rfl (.inr rfl) (Zeb ZiG (cv 2) (Zc8 ZpH Zdm (Zeb ZfR (Zeb Zkh (cv 1) (Zeb ZhF ZcY (Zeb ZkY (Zeb ZkY ZcY (cv 3)) (cv 3)))) ZcY) (fun _ _ => rfl))))))
  (Zc0 (Zdn (i := 4) ZeJ.nd rfl (.inr rfl) (Zeb ZfR (Zeb Zkh (cv 1) ZcY) (Zeb ZhF (Zdq Zjy rfl T.z_len Zfo (ZcW (cv 2) Zc1)) ZcY)))
  (Zc0 (Zdz (Zdb Zd7 (Zeb ZfR (Zeb Zkh (cv 1) ZcY) ZcY) ZcY (Zdk _))
   (Zc4 (Zdd (ZiD rfl (ZlO (x := "_law_sign") ["_law_stem", "_law_at"] [("_law_stem", 2, s.heap.objs.size + 1), ("_law_at", 4, s.heap.objs.size + 2)] rfl rfl (by decide +kernel) (by decide +kernel) rfl (by decide +kernel) rfl rfl (by intro p hp; simp only [Zag, ZaS, or_false] at hp; rcases hp with rfl | rfl <;> exact ⟨rfl, rfl, rfl, rfl⟩)) (Zpz Zdm) (fun _ _ _ _ _ => Ze3) (fun _ _ _ _ _ => (Zeb ZiG (Zeb ZiG (Zfb ZnM (cv 1) ZfY (Zfm (cv 2))) (cv 0)) (Zfb ZnM (cv 1) (Zfm (cv 2)) ZfY))))))
   Zdc)
  (Zc4 (Zdd (ZiD rfl (ZlO (x := "_law_k") ["_law_stem"] [("_law_stem", 2, s.heap.objs.size + 1)] rfl rfl (by decide +kernel) (by decide +kernel) rfl (by decide +kernel) rfl rfl (by intro p hp; simp only [Zag, ZaS, or_false] at hp; rcases hp with rfl <;> exact ⟨rfl, rfl, rfl, rfl⟩)) (ZfW rfl T.z_range (ZcW ZcY Zc1)) (fun _ _ _ _ _ => Ze3) (fun _ _ _ _ _ => (Zeb ZiG (cv 1) (Zeb ZoM Zdm (cv 0)))))))))))), ?_⟩
 have sl : sizeLine = 16777216 := sizeLine_eq
 refine ⟨⟨by decide, by decide, by decide⟩, (by show (0 : Int) < 10 ^ (30 : Int).toNat; decide +kernel), ?_⟩
 dsimp only
 generalize c0 % 10 ^ (30 : Int).toNat = c
 have s0 := ZcL c (show (8 : Int) ≠ 0 by decide)
 have s1 := ZcM c (show (0 : Int) < 8 by decide)
 refine ⟨(by show (0 : Int) < 8; decide), c % 8, rfl, by omega, by omega, ZlX (fun i σ H2 => ∃ (x : Str) (o : Option V), σ = [some (.int c0), some (.int c), some (.str x), o, none] /\ H2 = H /\ 1 <= x.length /\ x.length <= 1 + i)
  ⟨"q", none, rfl, rfl, (by decide +kernel), (by decide +kernel)⟩ ?_ ?_⟩
 ·rintro i σ H2 hi ⟨x, o, rfl, rfl, h1, h2⟩
  have k0 : (0 : Int) <= 0 + (i : Int) := by omega
  have k1 : (0 : Int) + (i : Int) <= 7 := by omega
  have kk0 : 0 <= 3 * (0 + (i : Int)) * (0 + (i : Int)) := Int.mul_nonneg (by omega) k0
  have kk1 : 3 * (0 + (i : Int)) * (0 + (i : Int)) <= 21 * 7 := Int.mul_le_mul (by omega) k1 k0 (by decide)
  obtain ⟨ch, e1, _⟩ := ZnQ ("q7" : Str).cps.toList (c / (8 + 3 * (0 + (i : Int)) * (0 + (i : Int))) % 2) (ZcL _ (by decide)) (by rw [show ("q7" : Str).cps.toList.length = 2 by decide +kernel]; exact ZcM _ (by decide))
  refine ⟨.inl ⟨by decide, by decide⟩, .inl ⟨by omega, by omega⟩, ⟨by omega, by omega⟩, (by show (0 : Int) < 2; decide), sz (by decide +kernel), Zc3 e1 ⟨by rw [ZhW]; omega, _, _, rfl, rfl, by rw [Str.length_append, ZhW]; omega, by rw [Str.length_append, ZhW]; omega⟩⟩
 ·rintro σ H2 ⟨x, o, rfl, rfl, h1, h2⟩
  have hx : x.length <= 100 := by omega
  refine ⟨⟨by decide, by decide⟩, x, rfl, by omega, (by show (0 : Int) < (x.length : Int) + 1; omega), ?_⟩
  dsimp only
  generalize c / 8 % ((x.length : Int) + 1) = at_
  have la := Txt.slice_le x none (some at_)
  have lb := Txt.slice_le x (some at_) none
  refine ⟨⟨by decide, by decide⟩, (by show (0 : Int) < 2; decide), ?_⟩
  dsimp only [tC, cEq, onB]
  refine Zql (fun _ => ?_) (fun _ => ?_)
  ·have z4 : ("abcd" : Str).cps.size = 4 := by decide +kernel
   refine ⟨_, rfl, fun D hD => ?_⟩
   refine ZfQ 4 (by omega) (fun xs _ => xs = ((Zaa xs.length).map (w4 (Txt.slice x none (some at_)) (Txt.slice x (some at_) none))).map V.str) (fun xs H1 H2 h _ => h) hD rfl (fun k H2 _ hk => (by show k < ("abcd" : Str).cps.size; rw [z4]; exact hk)) (fun H2 _ => (by show 4 = ("abcd" : Str).cps.size; rw [z4])) rfl ?_ ?_
   ·rintro k H3 v H4 xs Z S hk ⟨rfl, ch, hc, rfl⟩ hxs hl z
    refine ⟨_, rfl, _, rfl, by omega, by rw [ZhW]; omega, _, rfl, _, rfl, by omega, by rw [Str.length_append, ZhW]; omega, z _ _ (Zdj.refl _) ?_⟩
    rw [ZaC, ZaL, ZaY, ZaZ, ZaZ, <- hxs, hl]
    show xs ++ _ = xs ++ [V.str (w4 _ _ k)]
    rw [w4, ZpY hc]
   ·rintro H3 xs S hxs hl e
    rw [hl] at hxs
    exact q D H3 S hD ⟨_, by rw [e, hxs], by rw [Zar, List.length_range], Zny _ _⟩
  ·refine ⟨4, rfl, by decide, by decide, fun D hD => ?_⟩
   refine ZfQ 4 (by omega) (fun xs _ => ∃ ws : List Str, xs = ws.map V.str /\ ∀ (j : Nat) (y : Str), ws[j]? = some y -> y.length = x.length + j) (fun xs H1 H2 h _ => h) hD rfl (fun k H2 _ hk => hk) (fun H2 _ => ZbD _) ⟨[], rfl, fun j y h => by simp at h⟩ ?_ ?_
   ·rintro k H3 v H4 xs Z S hk ⟨rfl, rfl⟩ ⟨ws, hws, hj⟩ hl z
    have hwl : ws.length = k := by rw [hws, Zar] at hl; exact hl
    have l7 : ("7" : Str).length = 1 := by decide +kernel
    refine ⟨_, _, rfl, rfl, by omega, by omega, by rw [l7]; decide, by rw [l7]; decide, fun y hy => ⟨?_, z _ _ (Zdj.refl _) ⟨ws ++ [x ++ y], by rw [hws, ZaZ]; rfl, fun j y' h => ?_⟩⟩⟩
    ·rw [l7] at hy; omega
    ·by_cases hjl : j < ws.length
     ·rw [Zaz hjl] at h
      exact hj j y' h
     ·have : j = ws.length := by
       have := (Zaj.mp h).1
       rw [ZaC, ZaL] at this
       omega
      subst this
      rw [Zbt] at h
      cases h
      rw [Str.length_append, hy, l7]
      omega
   ·rintro H3 xs S ⟨ws, hws, hj⟩ hl e
    exact q D H3 S hD ⟨ws, by rw [e, hws], by rw [hws, Zar] at hl; exact hl, ZmP hj⟩
end
section
variable {i : Nat} {s w : Str} {t u : TS.Internal} {D : Zjm} {σ : St} {H : Hp}
theorem ZpZ (hv : σ[i]? = some (some (.str s))) (h : s ≠ w) (q : u D σ H) : Zj6 (cT (tOp (cEq false) (cV i) (tC (.str w)))) t u D σ H := by
 show onV σ[i]? _
 rw [hv]
 show if (false ^^ decide (s = w)) = true then t D σ H else u D σ H
 rw [decide_eq_false h]
 exact q
theorem ZoN (hv : σ[i]? = some (some (.str s))) (h : s = w) (q : t D σ H) : Zj6 (cT (tOp (cEq false) (cV i) (tC (.str w)))) t u D σ H := by
 show onV σ[i]? _
 rw [hv]
 show if (false ^^ decide (s = w)) = true then t D σ H else u D σ H
 rw [decide_eq_true h]
 exact q
theorem Zp0 {a : Addr} {r : List V} (hv : σ[i]? = some (some (.ref a))) (ha : H a = some (.tup (.str s :: r))) (h : s ≠ w) (q : u D σ H) : Zj6 (cT (tOp (cEq false) (tOp Zm0 (cV i) (tC (.int 0))) (tC (.str w)))) t u D σ H := by
 show onV σ[i]? _
 rw [hv]
 refine ⟨_, ha, Zc3 (ZcZ (j := 0) rfl) ?_⟩
 show if (false ^^ decide (s = w)) = true then t D σ H else u D σ H
 rw [decide_eq_false h]
 exact q
theorem ZoO {a : Addr} {r : List V} (hv : σ[i]? = some (some (.ref a))) (ha : H a = some (.tup (.str s :: r))) (h : s = w) (q : t D σ H) : Zj6 (cT (tOp (cEq false) (tOp Zm0 (cV i) (tC (.int 0))) (tC (.str w)))) t u D σ H := by
 show onV σ[i]? _
 rw [hv]
 refine ⟨_, ha, Zc3 (ZcZ (j := 0) rfl) ?_⟩
 show if (false ^^ decide (s = w)) = true then t D σ H else u D σ H
 rw [decide_eq_true h]
 exact q
theorem Zeo {u' : TS.Internal} (hv : σ[i]? = some (some (.str s))) (h : s ≠ w) (q : u' D σ H) : Ziw (Zj6 (cT (tOp (cEq false) (cV i) (tC (.str w)))) t Ze1) u' D σ H := ZpZ (u := Ze1) (D := { D with nx := u' D }) hv h q
theorem Zg5 {u' : TS.Internal} (hv : σ[i]? = some (some (.str s))) (h : s = w) (q : t { D with nx := u' D } σ H) : Ziw (Zj6 (cT (tOp (cEq false) (cV i) (tC (.str w)))) t Ze1) u' D σ H := ZoN (u := Ze1) (D := { D with nx := u' D }) hv h q
end
noncomputable def wat (ws : List Str) (i : Int) : Str := ws.getD (i % 4).toNat ""
theorem Zp1 {ws : List Str} (n : ws.length = 4) (i : Int) : atI (ws.map V.str) (i % 4) = some (.str (wat ws i)) := by
 have h0 := ZcL i (show (4 : Int) ≠ 0 by decide)
 have h1 := ZcM i (show (0 : Int) < 4 by decide)
 obtain ⟨r, er⟩ : ∃ r : Nat, i % 4 = (r : Int) := ⟨_, (Int.toNat_of_nonneg h0).symm⟩
 rw [wat, er, ZcK]
 refine ZcZ (j := r) ?_
 have hr : r < ws.length := by omega
 rw [ZaA, ZaV, ZaQ hr]
 rfl
theorem Zp2 {ws : List Str} (n : ws.length = 4) (nd : ws.Nodup) {i j : Int} (h : i % 4 ≠ j % 4) : wat ws i ≠ wat ws j := by
 have h0 := ZcL i (show (4 : Int) ≠ 0 by decide)
 have h1 := ZcM i (show (0 : Int) < 4 by decide)
 have g0 := ZcL j (show (4 : Int) ≠ 0 by decide)
 have g1 := ZcM j (show (0 : Int) < 4 by decide)
 have hi : (i % 4).toNat < ws.length := by omega
 have hj : (j % 4).toNat < ws.length := by omega
 rw [wat, wat, ZaV, ZaV, ZaQ hi, ZaQ hj]
 have key := Zbl.mp nd
 rcases Nat.lt_or_gt_of_ne (show (i % 4).toNat ≠ (j % 4).toNat by omega) with z | z
 ·exact key _ _ hi hj z
 ·exact (key _ _ hj hi z).symm
noncomputable def kys (ws : List Str) (a : Int) (n : Nat) : List Str := (Zaa n).map fun (k : Nat) => wat ws (a + (0 + (k : Int)))
theorem ZmQ {ws : List Str} (n : ws.length = 4) (nd : ws.Nodup) {a : Int} {m : Nat} (hm : m <= 4) : (kys ws a m).Nodup := by
 rw [kys, List.Nodup, Zbp]
 refine List.Pairwise.imp_of_mem (fun {x y} hx hy hlt => Zp2 n nd ?_) Zbs
 have h1 := Zac.mp hx
 have h2 := Zac.mp hy
 omega
theorem Znz (ws : List Str) (a : Int) (n : Nat) : kys ws a (n + 1) = kys ws a n ++ [wat ws (a + (0 + (n : Int)))] := by
 rw [kys, kys, ZaY, ZaZ]
 rfl
section
variable {P : Program} {w : World} {K : PySem.W.Frag} {mg : Str -> Option Value} {base : Heap}
def Spt (H : Hp) (sp : Addr) (N : Int) : Prop := ∃ ns : List Int, H sp = some (.lst (ns.map V.int)) /\ ns.length = 3 /\ ∀ n ∈ ns, InR N n
theorem Spt.at {H : Hp} {sp : Addr} {N : Int} (h : Spt H sp N) : ∃ ns : List Int, H sp = some (.lst (ns.map V.int)) /\ ∀ k : Int, 0 <= k -> k < 3 -> ∃ n, atI (ns.map V.int) k = some (.int n) /\ InR N n := by
 obtain ⟨ns, e, hl, hr⟩ := h
 refine ⟨ns, e, fun k k0 k1 => ?_⟩
 obtain ⟨n, en, mn⟩ := Zkx (l := ns) k0 (by omega)
 exact ⟨n, en, hr n mn⟩
theorem Spt.same {H H' : Hp} {sp : Addr} {N : Int} (h : Spt H sp N) (s : Zdj H H') : Spt H' sp N := by
 obtain ⟨ns, e, z⟩ := h
 exact ⟨ns, s _ _ e, z⟩
def Zi5 : Sp := fun vs H Q _ => ∃ (l sp : Addr) (c N : Int), vs = [.ref l, .int c, .ref sp] /\ Wd H l /\ Spt H sp N /\ ∀ v (ps : List (Str × Int)) H', Zdj H H' -> ps.length <= 10 -> Zou ps -> (∀ p ∈ ps, InR N p.2) -> Im H' v (prD ps) -> Q v H'
theorem ZgU (T : Txt K mg) : Ze0 P w K mg base CX0 2 T.a_named T.fd_named ["_law_words_here", "_law_cell", "_law_spots"] Zi5 := by
 have G_pick := Zfy (P := P) (w := w) (base := base) T
 refine T.F_named.ok ZgP (fun vs H Q E h => ?_) (fun cdv A outer s H vs Q E hr h => ?_)
 ·obtain ⟨l, sp, c, N, rfl, _⟩ := h
  rfl
 obtain ⟨l, sp, c, N, rfl, hw, hsp, q⟩ := h
 obtain ⟨ws, ew, wn, wd⟩ := hw
 obtain ⟨ns, es, hat⟩ := hsp.at
 refine ⟨_, (Zc0 (Zdn (i := 3) ZgP.nd rfl (.inr rfl) (Zdl G_pick (hr.mono (by decide)) rfl T.m_pick T.k_pick T.b_pick .nil Zdp (ZcW (cv 1) (ZcW ZcY (ZcW ZcY Zc1)))))
  (Zc4 (Zdd (ZeP ZiB rfl T.z_tuple ZiC (ZcW (ZiD rfl (ZlO (x := "_law_k") ["_law_words_here", "_law_spots", "_law_first"] [("_law_words_here", 0, s.heap.objs.size + 1), ("_law_spots", 2, s.heap.objs.size + 2), ("_law_first", 3, s.heap.objs.size + 3)] rfl rfl (by decide +kernel) (by decide +kernel) rfl (by decide +kernel) rfl rfl (by intro p hp; simp only [Zag, ZaS, or_false] at hp; rcases hp with rfl | rfl | rfl <;> exact ⟨rfl, rfl, rfl, rfl⟩)) (ZfW rfl T.z_range (ZcW (Zdl G_pick (hr.mono (by decide)) rfl T.m_pick T.k_pick T.b_pick .nil Zdp (ZcW (cv 1) (ZcW ZcY (ZcW ZcY Zc1)))) Zc1)) (fun _ _ _ _ _ => Ze3) (fun _ _ _ _ _ => (ZdB (ZcW (Zc8 Zde (cv 1) (Zeb ZfR (Zeb ZhF (cv 3) (cv 0)) ZcY) (fun _ _ => rfl)) (ZcW (Zc8 Zde (cv 2) (cv 0) (fun _ _ => rfl)) Zc1))))) Zc1))))), ?_⟩
 have sl : sizeLine = 16777216 := sizeLine_eq
 refine ⟨c, 6, 4, rfl, by decide, by decide, by decide, fun fi H1 S1 _ _ => ⟨c, 8, 4, rfl, by decide, by decide, by decide, fun r H2 S2 r0 r1 => ⟨r, rfl, by omega, by omega, fun D hD => ?_⟩⟩⟩
 have S12 := S1.trans S2
 refine ZfQ r.toNat (by omega) (fun xs H2 => ∃ ps : List (Str × Int), ps.map Prod.fst = kys ws fi xs.length /\ (∀ p ∈ ps, InR N p.2) /\ Ims H2 xs (ps.map prL)) (fun xs H1 H2 ⟨ps, hn, hr, h⟩ k => ⟨ps, hn, hr, h.mono k⟩) hD rfl (fun k H2 _ hk => hk) (fun H2 _ => ZbD _) ⟨[], rfl, fun p h => absurd h ZaS, .nil⟩ ?_ ?_
 ·rintro k H3 v H4 xs Z S hk ⟨rfl, rfl⟩ ⟨ps, hpl, hpr, hp⟩ hl z
  obtain ⟨m, em, hm⟩ := hat (0 + (k : Int)) (by omega) (by omega)
  refine ⟨(by show (0 : Int) < 4; decide), _, S _ _ (S12 _ _ ew), Zc3 (Zp1 wn _) ⟨_, S _ _ (S12 _ _ es), Zc3 em ⟨(by show 2 <= sizeLine; decide), fun t2 ht2 => ?_⟩⟩⟩
  refine z _ _ (Zc2 ht2 _) ⟨ps ++ [(wat ws (fi + (0 + (k : Int))), m)], ?_, fun p hp => ?_, ?_⟩
  ·rw [ZaZ, hpl, ZaC, hl]
   exact (Znz ws fi k).symm
  ·rcases Zah.mp hp with h | h
   ·exact hpr p h
   ·simp only [ZaM] at h
    rw [h]
    exact hm
  rw [ZaZ]
  exact (hp.mono (Zdj.tk (Zc2 ht2 _))).app (.cons (.tup ZcX (.cons (.flat rfl) (.cons (.flat rfl) .nil))) .nil)
 ·rintro H3 xs S ⟨ps, hpl, hpr, hp⟩ hl e
  have lp : ps.length = xs.length := by
   have := congrArg Zaw hpl
   rw [Zar, kys, Zar, List.length_range] at this
   exact this
  have dp : Zou ps := by
   rw [Zou, hpl]
   exact ZmQ wn wd (by omega)
  exact ⟨D, xs, rfl, .inl ⟨SqL.of e, fun t3 ht3 => q _ ps _ ((S12.trans S).trans (Zc2 ht3 _)) (by omega) dp hpr (.tup ZcX (hp.mono (Zdj.tk (Zc2 ht3 _))))⟩⟩
theorem Zld {K : PySem.W.Frag} {te : TE} {Q : VK} {τ : St} {H H1 : Hp} {p D : Addr} {N : Int} (hp : H1 p = some (.lst [V.int 1, V.int 2, V.int 3])) (hD : H1 D = none) (hτ : τ.set 0 none = τ) (S : Zdj H H1)
  (step : ∀ (k : Int) (H2 : Hp) (Z : VK), Zdj H1 H2 -> 1 <= k -> k <= 3 -> (∀ n H5, Zdj H2 H5 -> InR N n -> Z (.int n) H5) -> te (τ.set 0 (some (.int k))) H2 Z)
  (fin : ∀ H', Zdj H H' -> Spt H' D N -> Q (.ref D) H') : LcP (Itl K p) 0 Zke te Q τ H1 D := by
 refine ZfQ 3 (by decide) (fun xs _ => ∃ ns : List Int, xs = ns.map V.int /\ ∀ n ∈ ns, InR N n) (fun xs _ _ h _ => h) hD hτ (fun k H2 S hk => ZjC hp S hk) (fun H2 S => ZjD hp S) ⟨[], rfl, fun n h => absurd h ZaS⟩ ?_ ?_
 ·rintro k H2 v H3 xs Z S2 hk ⟨rfl, hv⟩ ⟨ns, hns, hr⟩ hl z
  have hv' := hv _ (SqL.of (S2 _ _ hp))
  obtain ⟨j, rfl, j1, j3⟩ : ∃ j : Int, v = .int j /\ 1 <= j /\ j <= 3 := by
   match k, hk, hv' with
   | 0, _, e => cases e; exact ⟨1, rfl, by decide, by decide⟩
   | 1, _, e => cases e; exact ⟨2, rfl, by decide, by decide⟩
   | 2, _, e => cases e; exact ⟨3, rfl, by decide, by decide⟩
  refine step j H3 Z S2 j1 j3 fun n H5 S5 hn => z _ _ S5 ⟨ns ++ [n], by rw [hns, ZaZ]; rfl, fun m hm => ?_⟩
  rcases Zah.mp hm with h | h
  ·exact hr m h
  ·simp only [ZaM] at h
   rw [h]
   exact hn
 ·rintro H2 xs S2 ⟨ns, hns, hr⟩ hl e
  exact fin H2 (S.trans S2) ⟨ns, by rw [e, hns], by rw [hns, Zar] at hl; exact hl, hr⟩
theorem Zge {Q : VK} {l : Addr} {c N : Int} {sp : Option V} {f : V} {m : Mf} {H H1 : Hp} (hN : 0 < N) (q : ∀ v (m : Mf) (a p : Int) H', Zdj H H' -> m.ok -> m.rng N -> InR N a -> Im H' v (Mkg.d (mkg m a p)) -> Q v H') (S : Zdj H H1) (ok : m.ok) (rg : m.rng N) (hf : Im H1 f m.f) :
  Zrg (Zrn (Zhd (cV 4) (Zhd (cV 5) (Zhd (Zl5 Zf9 [] E0 (Zhd (cV 1) (Zhd (tC (.int 5)) (Zhd (cV 2) Zo0)))) (Zhd (Zl5 Zf9 [] E0 (Zhd (cV 1) (Zhd (tC (.int 7)) (Zhd (tC (.int 160)) Zo0)))) Zo0))))) { nx := fun _ H' => Q .non H', rt := Q } [some (.ref l), some (.int c), some (.int N), sp, some (.str m.s), some f] H1 := by
 refine ⟨c, 5, N, rfl, by decide, by decide, hN, fun a H2 S2 a0 a1 => ⟨c, 7, 160, rfl, by decide, by decide, by decide, fun p H3 S3 _ _ => ⟨(by show 4 <= sizeLine; decide), fun t ht => ?_⟩⟩⟩
 have S4 := Zc2 ht (.tup [V.str m.s, f, V.int a, V.int p])
 exact q _ m a p _ (((S.trans S2).trans S3).trans S4) ok rg ⟨a0, a1⟩ (.tup ZcX (.cons (.flat rfl) (.cons (hf.mono (Zdj.tk ((S2.trans S3).trans S4))) (.cons (.flat rfl) (.cons (.flat rfl) .nil)))))
def ZjU : Sp := fun vs H Q _ => ∃ (l : Addr) (c N : Int), vs = [.ref l, .int c, .int N] /\ Wd H l /\ 0 < N /\ ∀ v (m : Mf) (a p : Int) H', Zdj H H' -> m.ok -> m.rng N -> InR N a -> Im H' v (Mkg.d (mkg m a p)) -> Q v H'
theorem ZjV (T : Txt K mg) : Ze0 P w K mg base CX0 3 T.a_make T.fd_make ["_law_words_here", "_law_cell", "_law_many"] ZjU := by
 have G_pick := Zfy (P := P) (w := w) (base := base) T
 have G_named := ZgU (P := P) (w := w) (base := base) T
 refine T.F_make.ok Zd9 (fun vs H Q E h => ?_) (fun cdv A outer s H vs Q E hr h => ?_)
 ·obtain ⟨l, c, N, rfl, _⟩ := h
  rfl
 obtain ⟨l, c, N, rfl, hw, hN, q⟩ := h
 refine ⟨_, (Zc0 (Zhm (j := 3) rfl (ZlO (x := "_law_k") ["_law_many", "_law_cell"] [("_law_many", 2, s.heap.objs.size + 2), ("_law_cell", 1, s.heap.objs.size + 1)] rfl rfl (by decide +kernel) (by decide +kernel) rfl (by decide +kernel) rfl rfl (by intro p hp; simp only [Zag, ZaS, or_false] at hp; rcases hp with rfl | rfl <;> exact ⟨rfl, rfl, rfl, rfl⟩)) (Zd0 (ZdJ (ZcW ZcY (ZcW ZcY (ZcW ZcY Zc1))))) (fun _ _ _ _ _ => Ze3) (fun _ _ _ _ _ => (Zdl G_pick (hr.mono (by decide)) rfl T.m_pick T.k_pick T.b_pick .nil Zdp (ZcW (cv 2) (ZcW (cv 0) (ZcW (cv 1) Zc1))))) Zd9.nd rfl (.inl rfl))
  (Zc0 (Zdn (i := 4) Zd9.nd rfl (.inl rfl) (Zc8 Zde (ZdJ (ZcW Zdm (ZcW Zdm (ZcW Zdm (ZcW Zdm (ZcW Zdm (ZcW Zdm Zc1))))))) (Zdl G_pick (hr.mono (by decide)) rfl T.m_pick T.k_pick T.b_pick .nil Zdp (ZcW (cv 1) (ZcW ZcY (ZcW ZcY Zc1)))) (fun _ _ => rfl)))
  (Zc0 (Zdn (i := 5) Zd9.nd rfl (.inl rfl) (ZdB Zc1))
  (Zc0 (Zdz (Zdb Zd7 (cv 4) Zdm (Zdk _))
   (Zc4 (Zdn (i := 5) Zd9.nd rfl (.inl rfl) (ZdB (ZcW (Zc8 Zde (cv 3) ZcY (fun _ _ => rfl)) (ZcW (Zc8 Zde (cv 3) ZcY (fun _ _ => rfl)) Zc1)))))
   Zdc)
  (Zc0 (Zdz (Zdb Zd7 (cv 4) Zdm (Zdk _))
   (Zc4 (Zdn (i := 5) Zd9.nd rfl (.inl rfl) (Zdl G_named (hr.mono (by decide)) rfl T.m_named T.k_named T.b_named .nil Zdp (ZcW (cv 0) (ZcW (cv 1) (ZcW (cv 3) Zc1))))))
   Zdc)
  (Zc0 (Zdz (Zdb Zd7 (cv 4) Zdm (Zdk _))
   (Zc4 (Zdn (i := 5) Zd9.nd rfl (.inl rfl) (ZdB (ZcW (Zc8 Zde (cv 0) (Zdl G_pick (hr.mono (by decide)) rfl T.m_pick T.k_pick T.b_pick .nil Zdp (ZcW (cv 1) (ZcW ZcY (ZcW ZcY Zc1)))) (fun _ _ => rfl)) (ZcW (Zc8 Zde (cv 3) ZcY (fun _ _ => rfl)) Zc1)))))
   Zdc)
  (Zc0 (Zdz (Zdb Zd7 (cv 4) Zdm (Zdk _))
   (Zc4 (Zdn (i := 5) Zd9.nd rfl (.inl rfl) (ZdB (ZcW (Zc8 Zde (cv 3) ZcY (fun _ _ => rfl)) Zc1))))
   Zdc)
  (Zc4 (Zdd (ZdB (ZcW (cv 4) (ZcW (cv 5) (ZcW (Zdl G_pick (hr.mono (by decide)) rfl T.m_pick T.k_pick T.b_pick .nil Zdp (ZcW (cv 1) (ZcW ZcY (ZcW (cv 2) Zc1)))) (ZcW (Zdl G_pick (hr.mono (by decide)) rfl T.m_pick T.k_pick T.b_pick .nil Zdp (ZcW (cv 1) (ZcW ZcY (ZcW ZcY Zc1)))) Zc1)))))))))))))), ?_⟩
 refine ⟨(by show 3 <= sizeLine; decide), fun p hp => ⟨p, rfl, ⟨_, SqL.of ZcX⟩, fun D hD => Zld (N := N) ZcX hD rfl (Zc2 hp _) (fun k H2 Z _ k1 k3 z => ⟨c, k, N, rfl, by omega, by omega, hN, fun n H5 S5 n0 n1 => z n H5 S5 ⟨n0, n1⟩⟩) (fun H1 S1 hsp => ?_)⟩⟩
 refine ⟨(by show 6 <= sizeLine; decide), fun b hb => ⟨c, 4, 6, rfl, by decide, by decide, by decide, fun n H2 S2 n0 n1 => ?_⟩⟩
 have Sb := Zc2 hb (.lst [V.str "num", V.str "fn", V.str "rec", V.str "tag", V.str "row", V.str "any"])
 have hb2 := S2 _ _ (ZcX (H := H1) (a := b) (o := .lst [V.str "num", V.str "fn", V.str "rec", V.str "tag", V.str "row", V.str "any"]))
 have S3 : Zdj H H2 := S1.trans (Sb.trans S2)
 have hsp2 := hsp.same (Sb.trans S2)
 have hw2 := hw.same S3
 obtain ⟨ws, ew, _, wat_⟩ := Zq5 hw2
 obtain ⟨ns, es, hat⟩ := hsp2.at
 obtain ⟨x0, e0, r0⟩ := hat 0 (by decide) (by decide)
 obtain ⟨x1, e1, r1⟩ := hat 1 (by decide) (by decide)
 refine ⟨_, hb2, ?_⟩
 obtain ⟨k, rfl⟩ : ∃ k : Nat, n = (k : Int) := ⟨n.toNat, by omega⟩
 match k, n1 with
 | 0, _ =>
  refine Zc3 (ZcZ (j := 0) rfl) ⟨(by show 0 <= sizeLine; decide), fun t ht => ?_⟩
  dsimp only [Zeq]
  refine Zeo (s := "num") rfl (by decide +kernel) (Zeo (s := "num") rfl (by decide +kernel) (Zeo (s := "num") rfl (by decide +kernel) (Zeo (s := "num") rfl (by decide +kernel) ?_)))
  exact Zge (m := .num) hN q (S3.trans (Zc2 ht _)) trivial trivial (.tup ZcX .nil)
 | 1, _ =>
  refine Zc3 (ZcZ (j := 1) rfl) ⟨(by show 0 <= sizeLine; decide), fun t ht => ?_⟩
  have St := Zc2 ht (.tup [])
  dsimp only [Zeq]
  refine Zg5 (s := "fn") rfl rfl ⟨_, St _ _ es, Zc3 e0 ⟨_, St _ _ es, Zc3 e1 ⟨(by show 2 <= sizeLine; decide), fun t2 ht2 => ?_⟩⟩⟩
  dsimp only [Zeq]
  refine Zeo (s := "fn") rfl (by decide +kernel) (Zeo (s := "fn") rfl (by decide +kernel) (Zeo (s := "fn") rfl (by decide +kernel) ?_))
  exact Zge (m := .fn x0 x1) hN q ((S3.trans St).trans (Zc2 ht2 _)) trivial ⟨r0, r1⟩ (.tup ZcX (.cons (.flat rfl) (.cons (.flat rfl) .nil)))
 | 2, _ =>
  refine Zc3 (ZcZ (j := 2) rfl) ⟨(by show 0 <= sizeLine; decide), fun t ht => ?_⟩
  have St := Zc2 ht (.tup [])
  dsimp only [Zeq]
  refine Zeo (s := "rec") rfl (by decide +kernel) (Zg5 (s := "rec") rfl rfl ⟨l, D, c, N, rfl, hw2.same St, hsp2.same St, fun v ps H4 S4 hl hd hr hv => ?_⟩)
  dsimp only [Zeq]
  refine Zeo (s := "rec") rfl (by decide +kernel) (Zeo (s := "rec") rfl (by decide +kernel) ?_)
  exact Zge (m := .rcd ps) hN q ((S3.trans St).trans S4) ⟨hl, hd⟩ hr hv
 | 3, _ =>
  refine Zc3 (ZcZ (j := 3) rfl) ⟨(by show 0 <= sizeLine; decide), fun t ht => ?_⟩
  have St := Zc2 ht (.tup [])
  dsimp only [Zeq]
  refine Zeo (s := "tag") rfl (by decide +kernel) (Zeo (s := "tag") rfl (by decide +kernel) (Zg5 (s := "tag") rfl rfl ⟨c, 6, 4, rfl, by decide, by decide, by decide, fun j H4 S4 j0 j1 => ?_⟩))
  obtain ⟨y, ey, _⟩ := wat_ j j0 j1
  refine ⟨_, S4 _ _ (St _ _ ew), Zc3 ey ⟨_, S4 _ _ (St _ _ es), Zc3 e0 ⟨(by show 2 <= sizeLine; decide), fun t2 ht2 => ?_⟩⟩⟩
  dsimp only [Zeq]
  refine Zeo (s := "tag") rfl (by decide +kernel) ?_
  exact Zge (m := .tag y x0) hN q (((S3.trans St).trans S4).trans (Zc2 ht2 _)) trivial r0 (.tup ZcX (.cons (.flat rfl) (.cons (.flat rfl) .nil)))
 | 4, _ =>
  refine Zc3 (ZcZ (j := 4) rfl) ⟨(by show 0 <= sizeLine; decide), fun t ht => ?_⟩
  have St := Zc2 ht (.tup [])
  dsimp only [Zeq]
  refine Zeo (s := "row") rfl (by decide +kernel) (Zeo (s := "row") rfl (by decide +kernel) (Zeo (s := "row") rfl (by decide +kernel) (Zg5 (s := "row") rfl rfl ⟨_, St _ _ es, Zc3 e0 ⟨(by show 1 <= sizeLine; decide), fun t2 ht2 => ?_⟩⟩)))
  exact Zge (m := .row x0) hN q ((S3.trans St).trans (Zc2 ht2 _)) trivial r0 (.tup ZcX (.cons (.flat rfl) .nil))
 | 5, _ =>
  refine Zc3 (ZcZ (j := 5) rfl) ⟨(by show 0 <= sizeLine; decide), fun t ht => ?_⟩
  dsimp only [Zeq]
  refine Zeo (s := "any") rfl (by decide +kernel) (Zeo (s := "any") rfl (by decide +kernel) (Zeo (s := "any") rfl (by decide +kernel) (Zeo (s := "any") rfl (by decide +kernel) ?_)))
  exact Zge (m := .any) hN q (S3.trans (Zc2 ht _)) trivial trivial (.tup ZcX .nil)
 | k + 6, h => exact absurd h (by omega)
end
section
variable {i : Nat} {s w w' : Str} {t : TS.Internal} {D : Zjm} {σ : St} {H : Hp} {u' : TS.Internal}
theorem ZoP {Q : Bool -> Hp -> Prop} (hv : σ[i]? = some (some (.str s))) (h : s ≠ w) (q : Q false H) : cT (tOp (cEq false) (cV i) (tC (.str w))) σ H Q := by
 show onV σ[i]? _
 rw [hv]
 show Q (false ^^ decide (s = w)) H
 rw [decide_eq_false h]
 exact q
theorem Zn2 {Q : Bool -> Hp -> Prop} (hv : σ[i]? = some (some (.str s))) (h : s = w) (q : Q true H) : cT (tOp (cEq false) (cV i) (tC (.str w))) σ H Q := by
 show onV σ[i]? _
 rw [hv]
 show Q (false ^^ decide (s = w)) H
 rw [decide_eq_true h]
 exact q
theorem Zn3 (hv : σ[i]? = some (some (.str s))) (h : s ≠ w) (h' : s ≠ w') (q : u' D σ H) : Ziw (Zj6 (tOr (cT (tOp (cEq false) (cV i) (tC (.str w)))) (cT (tOp (cEq false) (cV i) (tC (.str w'))))) t Ze1) u' D σ H :=
 ZoP hv h (Zen (ZoP hv h' (Zen q)))
theorem Zq6 (hv : σ[i]? = some (some (.str s))) (h : s = w) (q : t { D with nx := u' D } σ H) : Ziw (Zj6 (tOr (cT (tOp (cEq false) (cV i) (tC (.str w)))) (cT (tOp (cEq false) (cV i) (tC (.str w'))))) t Ze1) u' D σ H :=
 Zn2 hv h (Zfh (Zfh q))
theorem Zq7 (hv : σ[i]? = some (some (.str s))) (h : s ≠ w) (h' : s = w') (q : t { D with nx := u' D } σ H) : Ziw (Zj6 (tOr (cT (tOp (cEq false) (cV i) (tC (.str w)))) (cT (tOp (cEq false) (cV i) (tC (.str w'))))) t Ze1) u' D σ H :=
 ZoP hv h (Zen (Zn2 hv h' (Zfh q)))
end
section
variable {P : Program} {w : World} {K : PySem.W.Frag} {mg : Str -> Option Value} {base : Heap}
theorem hdI {H : Hp} (n : Str) (a p s : Int) : Ims H [V.str n, .int a, .int p, .int s] (hdD n a p s) := .cons (.flat rfl) (.cons (.flat rfl) (.cons (.flat rfl) (.cons (.flat rfl) .nil)))
def Zky : Sp := fun vs H Q _ => ∃ (l : Addr) (c N : Int), vs = [.ref l, .int c, .int N] /\ Wd H l /\ 0 < N /\ ∀ v (u : Us) H', Zdj H H' -> u.ok -> u.dist -> u.rng N -> Im H' v (Us.d u) -> Q v H'
theorem Zkz (T : Txt K mg) : Ze0 P w K mg base CX0 3 T.a_use T.fd_use ["_law_words_here", "_law_cell", "_law_many"] Zky := by
 have G_pick := Zfy (P := P) (w := w) (base := base) T
 have G_named := ZgU (P := P) (w := w) (base := base) T
 refine T.F_use.ok ZfK (fun vs H Q E h => ?_) (fun cdv A outer s H vs Q E hr h => ?_)
 ·obtain ⟨l, c, N, rfl, _⟩ := h
  rfl
 obtain ⟨l, c, N, rfl, hw, hN, q⟩ := h
 refine ⟨_, (Zc0 (Zhm (j := 3) rfl (ZlO (x := "_law_k") ["_law_many", "_law_cell"] [("_law_many", 2, s.heap.objs.size + 2), ("_law_cell", 1, s.heap.objs.size + 1)] rfl rfl (by decide +kernel) (by decide +kernel) rfl (by decide +kernel) rfl rfl (by intro p hp; simp only [Zag, ZaS, or_false] at hp; rcases hp with rfl | rfl <;> exact ⟨rfl, rfl, rfl, rfl⟩)) (Zd0 (ZdJ (ZcW ZcY (ZcW ZcY (ZcW ZcY Zc1))))) (fun _ _ _ _ _ => Ze3) (fun _ _ _ _ _ => (Zdl G_pick (hr.mono (by decide)) rfl T.m_pick T.k_pick T.b_pick .nil Zdp (ZcW (cv 2) (ZcW (cv 0) (ZcW (cv 1) Zc1))))) ZfK.nd rfl (.inl rfl))
  (Zc0 (Zdn (i := 4) ZfK.nd rfl (.inl rfl) (Zc8 Zde (ZdJ (ZcW Zdm (ZcW Zdm (ZcW Zdm (ZcW Zdm (ZcW Zdm Zc1)))))) (Zdl G_pick (hr.mono (by decide)) rfl T.m_pick T.k_pick T.b_pick .nil Zdp (ZcW (cv 1) (ZcW ZcY (ZcW ZcY Zc1)))) (fun _ _ => rfl)))
  (Zc0 (Zdn (i := 5) ZfK.nd rfl (.inl rfl) (ZdB (ZcW (cv 4) (ZcW (Zdl G_pick (hr.mono (by decide)) rfl T.m_pick T.k_pick T.b_pick .nil Zdp (ZcW (cv 1) (ZcW ZcY (ZcW (cv 2) Zc1)))) (ZcW (Zdl G_pick (hr.mono (by decide)) rfl T.m_pick T.k_pick T.b_pick .nil Zdp (ZcW (cv 1) (ZcW ZcY (ZcW ZcY Zc1)))) (ZcW (Zeb ZfR (cv 1) ZcY) Zc1))))))
  (Zc0 (Zdz (Zdb Zd7 (cv 4) Zdm (Zdk _))
   (Zc4 (Zdd (Zeb Zka (cv 5) (ZdB (ZcW (Zc8 Zde (cv 3) ZcY (fun _ _ => rfl)) (ZcW (Zc8 Zde (cv 3) ZcY (fun _ _ => rfl)) Zc1))))))
   Zdc)
  (Zc0 (Zdz (PW.pt (Zhr (Zdb Zd7 (cv 4) Zdm (Zdk _)) (Zg8 (Zdb Zd7 (cv 4) Zdm (Zdk _)))))
   (Zc4 (Zdd (Zeb Zka (cv 5) (ZdB (ZcW (Zdl G_named (hr.mono (by decide)) rfl T.m_named T.k_named T.b_named .nil Zdp (ZcW (cv 0) (ZcW (cv 1) (ZcW (cv 3) Zc1)))) Zc1)))))
   Zdc)
  (Zc0 (Zdz (Zdb Zd7 (cv 4) Zdm (Zdk _))
   (Zc4 (Zdd (Zeb Zka (cv 5) (ZdB (ZcW (Zc8 Zde (cv 3) ZcY (fun _ _ => rfl)) Zc1)))))
   Zdc)
  (Zc4 (Zdd (cv 5))))))))), ?_⟩
 refine ⟨(by show 3 <= sizeLine; decide), fun p hp => ⟨p, rfl, ⟨_, SqL.of ZcX⟩, fun D hD => Zld (N := N) ZcX hD rfl (Zc2 hp _) (fun k H2 Z _ k1 k3 z => ⟨c, k, N, rfl, by omega, by omega, hN, fun n H5 S5 n0 n1 => z n H5 S5 ⟨n0, n1⟩⟩) (fun H1 S1 hsp => ?_)⟩⟩
 refine ⟨(by show 5 <= sizeLine; decide), fun b hb => ⟨c, 4, 5, rfl, by decide, by decide, by decide, fun n H2 S2 n0 n1 => ?_⟩⟩
 have Sb := Zc2 hb (.lst [V.str "num", V.str "call", V.str "take", V.str "case", V.str "row"])
 have hb2 := S2 _ _ (ZcX (H := H1) (a := b) (o := .lst [V.str "num", V.str "call", V.str "take", V.str "case", V.str "row"]))
 have S3 : Zdj H H2 := S1.trans (Sb.trans S2)
 have hsp2 := hsp.same (Sb.trans S2)
 refine ⟨_, hb2, ?_⟩
 obtain ⟨k, rfl⟩ : ∃ k : Nat, n = (k : Int) := ⟨n.toNat, by omega⟩
 obtain ⟨wd_, hk, hws⟩ : ∃ x : Str, [V.str "num", V.str "call", V.str "take", V.str "case", V.str "row"][k]? = some (.str x) /\ (x = "num" \/ x = "call" \/ x = "take" \/ x = "case" \/ x = "row") := by
  match k, n1 with
  | 0, _ => exact ⟨_, rfl, by simp⟩
  | 1, _ => exact ⟨_, rfl, by simp⟩
  | 2, _ => exact ⟨_, rfl, by simp⟩
  | 3, _ => exact ⟨_, rfl, by simp⟩
  | 4, _ => exact ⟨_, rfl, by simp⟩
  | k + 5, h => exact absurd h (by omega)
 refine Zc3 (ZcZ hk) ⟨c, 5, N, rfl, by decide, by decide, hN, fun a H3 S3' a0 a1 => ⟨c, 7, 160, rfl, by decide, by decide, by decide, fun p H4 S4 _ _ => ⟨(by show (0 : Int) < 2; decide), (by show 4 <= sizeLine; decide), fun hd hhd => ?_⟩⟩⟩
 have Sh := Zc2 hhd (.tup [V.str wd_, .int a, .int p, .int (c % 2)])
 have S5 : Zdj H _ := ((S3.trans S3').trans S4).trans Sh
 have eh := (ZcX (H := H4) (a := hd) (o := .tup [V.str wd_, .int a, .int p, .int (c % 2)]))
 have hw5 := hw.same S5
 have hsp5 := hsp2.same ((S3'.trans S4).trans Sh)
 dsimp only [Zeq]
 generalize upd H4 hd (.tup [V.str wd_, .int a, .int p, .int (c % 2)]) = H5 at S5 eh hw5 hsp5 ⊢
 obtain ⟨ns, es, hat⟩ := hsp5.at
 obtain ⟨x0, e0, r0⟩ := hat 0 (by decide) (by decide)
 obtain ⟨x1, e1, r1⟩ := hat 1 (by decide) (by decide)
 have cat : ∀ (H6 : Hp) (ys : List V) (t3 : Addr) (Z : VK), Zdj H5 H6 -> H6 t3 = none -> ys.length <= 5 -> ys ≠ [] -> (∀ t4, (upd H6 t3 (.tup ys)) t4 = none -> Z (.ref t4) (upd (upd H6 t3 (.tup ys)) t4 (.tup ([V.str wd_, .int a, .int p, .int (c % 2)] ++ ys)))) -> Zok K (.ref hd) (.ref t3) (upd H6 t3 (.tup ys)) Z := fun H6 ys t3 Z S6 h3 hl hne z =>
  ⟨hd, t3, _, _, rfl, rfl, SqT.of (Zc2 h3 _ _ _ (S6 _ _ eh)), SqT.of ZcX, (fun z => nomatch z), (by show 4 + ys.length <= sizeLine; have := sizeLine_eq; omega), fun z => absurd z hne, fun _ t4 h4 => z t4 h4⟩
 have pt : ∀ (v : V) (H6 : Hp) (d : Dt) (t3 t4 : Addr), H6 t3 = none -> (upd H6 t3 (.tup [v])) t4 = none -> Im H6 v d -> Im (upd (upd H6 t3 (.tup [v])) t4 (.tup ([V.str wd_, .int a, .int p, .int (c % 2)] ++ [v]))) (.ref t4) (.tup (hdD wd_ a p (c % 2) ++ [d])) := fun v H6 d t3 t4 h3 h4 hv =>
  .tup ZcX ((hdI _ _ _ _).app (.cons (hv.mono (Zdj.tk ((Zc2 h3 _).trans (Zc2 h4 _)))) .nil))
 have nm : ∀ (v : V) (ps : List (Str × Int)) (H6 : Hp) (Z : VK), Zdj H5 H6 -> Im H6 v (prD ps) -> (∀ v' H', Zdj H H' -> Im H' v' (.tup (hdD wd_ a p (c % 2) ++ [prD ps])) -> Z v' H') -> (1 : Nat) <= sizeLine /\ ∀ t3, H6 t3 = none -> Zok K (.ref hd) (.ref t3) (upd H6 t3 (.tup [v])) Z := fun v ps H6 Z S6 hv z =>
  ⟨by decide, fun t3 h3 => cat H6 [v] t3 Z S6 h3 (by show 1 <= 5; decide) (fun h => nomatch h) fun t4 h4 => z _ _ (((S5.trans S6).trans (Zc2 h3 _)).trans (Zc2 h4 _)) (pt v H6 _ t3 t4 h3 h4 hv)⟩
 rcases hws with rfl | rfl | rfl | rfl | rfl
 ·refine Zeo (s := "num") rfl (by decide +kernel) (Zn3 (s := "num") rfl (by decide +kernel) (by decide +kernel) (Zeo (s := "num") rfl (by decide +kernel) ?_))
  exact q _ (.num a p (c % 2)) _ S5 trivial trivial trivial (.tup eh (hdI _ _ _ _))
 ·refine Zg5 (s := "call") rfl rfl ⟨_, es, Zc3 e0 ⟨_, es, Zc3 e1 ⟨(by show 2 <= sizeLine; decide), fun t3 h3 => ?_⟩⟩⟩
  refine cat H5 _ t3 _ (Zdj.refl _) h3 (by show 2 <= 5; decide) (fun h => nomatch h) fun t4 h4 => ?_
  exact q _ (.call a p (c % 2) x0 x1) _ ((S5.trans (Zc2 h3 _)).trans (Zc2 h4 _)) trivial trivial ⟨r0, r1⟩ (.tup ZcX ((hdI _ _ _ _).app (.cons (.flat rfl) (.cons (.flat rfl) .nil))))
 ·refine Zeo (s := "take") rfl (by decide +kernel) (Zq6 (s := "take") rfl rfl ⟨l, D, c, N, rfl, hw5, hsp5, fun v ps H6 S6 hl hd_ hr hv => ?_⟩)
  exact nm v ps H6 _ S6 hv fun v' H' S' h' => q _ (.take a p (c % 2) ps) _ S' hl hd_ hr h'
 ·refine Zeo (s := "case") rfl (by decide +kernel) (Zq7 (s := "case") rfl (by decide +kernel) rfl ⟨l, D, c, N, rfl, hw5, hsp5, fun v ps H6 S6 hl hd_ hr hv => ?_⟩)
  exact nm v ps H6 _ S6 hv fun v' H' S' h' => q _ (.case a p (c % 2) ps) _ S' hl hd_ hr h'
 ·refine Zeo (s := "row") rfl (by decide +kernel) (Zn3 (s := "row") rfl (by decide +kernel) (by decide +kernel) (Zg5 (s := "row") rfl rfl ⟨_, es, Zc3 e0 ⟨(by show 1 <= sizeLine; decide), fun t3 h3 => ?_⟩⟩))
  refine cat H5 _ t3 _ (Zdj.refl _) h3 (by show 1 <= 5; decide) (fun h => nomatch h) fun t4 h4 => ?_
  exact q _ (.row a p (c % 2) x0) _ ((S5.trans (Zc2 h3 _)).trans (Zc2 h4 _)) trivial trivial r0 (.tup ZcX ((hdI _ _ _ _).app (.cons (.flat rfl) .nil)))
theorem Zfw {H : Hp} {v : V} {n : Str} {a p s : Int} {r : List Dt} (h : Im H v (.tup (hdD n a p s ++ r))) : ∃ t xs, v = .ref t /\ H t = some (.tup ([.str n, .int a, .int p, .int s] ++ xs)) /\ Ims H xs r := by
 cases h with
 | @tup t ys _ e hs =>
  cases hs with
  | cons h1 hs =>
   cases h1
   cases hs with
   | cons h2 hs =>
    cases h2
    cases hs with
    | cons h3 hs =>
     cases h3
     cases hs with
     | cons h4 hs =>
      cases h4
      exact ⟨t, _, rfl, e, hs⟩
theorem Zgn {i : Nat} {s w : Str} {t u' : TS.Internal} {D : Zjm} {σ : St} {H : Hp} {a : Addr} {r : List V} (hv : σ[i]? = some (some (.ref a))) (ha : H a = some (.tup (.str s :: r))) (h : s ≠ w) (q : u' D σ H) : Ziw (Zj6 (cT (tOp (cEq false) (tOp Zm0 (cV i) (tC (.int 0))) (tC (.str w)))) t Ze1) u' D σ H := Zp0 (u := Ze1) (D := { D with nx := u' D }) hv ha h q
theorem Zi6 {i : Nat} {s w : Str} {t u' : TS.Internal} {D : Zjm} {σ : St} {H : Hp} {a : Addr} {r : List V} (hv : σ[i]? = some (some (.ref a))) (ha : H a = some (.tup (.str s :: r))) (h : s = w) (q : t { D with nx := u' D } σ H) : Ziw (Zj6 (cT (tOp (cEq false) (tOp Zm0 (cV i) (tC (.int 0))) (tC (.str w)))) t Ze1) u' D σ H := ZoO (u := Ze1) (D := { D with nx := u' D }) hv ha h q
def Zi7 (c : Cs) : Sp := fun vs H Q _ => ∃ (v : V) (u : Us), vs = [v] /\ u.ok /\ Im H v (Us.d u) /\ ∀ x H', Zdj H H' -> UsAt c H' x u -> Q x H'
theorem Zi8 (T : Txt K mg) : Ze0 P w K mg base CX0 4 T.a_using T.fd_using ["_law_told"] (Zi7 (cs T)) := by
 have G_Use___init__ := ZeH (P := P) (w := w) (base := base) T
 have G_CallUse___init__ := Zgx (P := P) (w := w) (base := base) T
 have G_TakeUse___init__ := Zgy (P := P) (w := w) (base := base) T
 have G_CaseUse___init__ := Zgz (P := P) (w := w) (base := base) T
 have G_RowUse___init__ := ZgS (P := P) (w := w) (base := base) T
 refine T.F_using.ok ZiP (fun vs H Q E h => ?_) (fun cdv A outer s H vs Q E hr h => ?_)
 ·obtain ⟨v, u, rfl, _⟩ := h
  rfl
 obtain ⟨v, u, rfl, uo, hv, q⟩ := h
 refine ⟨_, (Zc0 (Zdz (Zdb Zd7 (Zc8 Zc7 (cv 0) ZcY (fun _ _ => rfl)) Zdm (Zdk _))
   (Zc4 (Zdd (ZfH T.mk_CallUse G_CallUse___init__ (hr.mono (by decide)) rfl T.m_CallUse T.b_CallUse___init__ .nil Zdp (ZcW (Zc8 Zc7 (cv 0) ZcY (fun _ _ => rfl)) (ZcW (Zc8 Zc7 (cv 0) ZcY (fun _ _ => rfl)) (ZcW (Zc8 Zc7 (cv 0) ZcY (fun _ _ => rfl)) (ZcW (Zc8 Zc7 (cv 0) ZcY (fun _ _ => rfl)) (ZcW (Zc8 Zc7 (cv 0) ZcY (fun _ _ => rfl)) Zc1))))))))
   Zdc)
  (Zc0 (Zdz (Zdb Zd7 (Zc8 Zc7 (cv 0) ZcY (fun _ _ => rfl)) Zdm (Zdk _))
   (Zc4 (Zdd (ZfH T.mk_TakeUse G_TakeUse___init__ (hr.mono (by decide)) rfl T.m_TakeUse T.b_TakeUse___init__ .nil Zdp (ZcW (Zc8 Zc7 (cv 0) ZcY (fun _ _ => rfl)) (ZcW (Zc8 Zc7 (cv 0) ZcY (fun _ _ => rfl)) (ZcW (Zc8 Zc7 (cv 0) ZcY (fun _ _ => rfl)) (ZcW (Zc8 Zc7 (cv 0) ZcY (fun _ _ => rfl)) Zc1)))))))
   Zdc)
  (Zc0 (Zdz (Zdb Zd7 (Zc8 Zc7 (cv 0) ZcY (fun _ _ => rfl)) Zdm (Zdk _))
   (Zc4 (Zdd (ZfH T.mk_CaseUse G_CaseUse___init__ (hr.mono (by decide)) rfl T.m_CaseUse T.b_CaseUse___init__ .nil Zdp (ZcW (Zc8 Zc7 (cv 0) ZcY (fun _ _ => rfl)) (ZcW (Zc8 Zc7 (cv 0) ZcY (fun _ _ => rfl)) (ZcW (Zc8 Zc7 (cv 0) ZcY (fun _ _ => rfl)) (ZcW (Zc8 Zc7 (cv 0) ZcY (fun _ _ => rfl)) Zc1)))))))
   Zdc)
  (Zc0 (Zdz (Zdb Zd7 (Zc8 Zc7 (cv 0) ZcY (fun _ _ => rfl)) Zdm (Zdk _))
   (Zc4 (Zdd (ZfH T.mk_RowUse G_RowUse___init__ (hr.mono (by decide)) rfl T.m_RowUse T.b_RowUse___init__ .nil Zdp (ZcW (Zc8 Zc7 (cv 0) ZcY (fun _ _ => rfl)) (ZcW (Zc8 Zc7 (cv 0) ZcY (fun _ _ => rfl)) (ZcW (Zc8 Zc7 (cv 0) ZcY (fun _ _ => rfl)) (ZcW (Zc8 Zc7 (cv 0) ZcY (fun _ _ => rfl)) Zc1)))))))
   Zdc)
  (Zc4 (Zdd (ZfH T.mk_NumUse G_Use___init__ (hr.mono (by decide)) rfl T.m_NumUse T.b_Use___init__ .nil Zdp (ZcW (Zc8 Zc7 (cv 0) ZcY (fun _ _ => rfl)) (ZcW (Zc8 Zc7 (cv 0) ZcY (fun _ _ => rfl)) (ZcW (Zc8 Zc7 (cv 0) ZcY (fun _ _ => rfl)) Zc1)))))))))), ?_⟩
 cases u with
 | num a p sl =>
  obtain ⟨t, xs, rfl, e, hs⟩ := Zfw (r := []) (show Im H v (.tup (hdD "num" a p sl ++ [])) from hv)
  cases hs
  refine Zgn rfl e (by decide +kernel) (Zgn rfl e (by decide +kernel) (Zgn rfl e (by decide +kernel) (Zgn rfl e (by decide +kernel) ?_)))
  refine ⟨_, e, Zc3 (ZcZ (j := 1) rfl) ⟨_, e, Zc3 (ZcZ (j := 2) rfl) ⟨_, e, Zc3 (ZcZ (j := 3) rfl) fun x dx hx hdx nx => ?_⟩⟩⟩
  refine ⟨x, _, dx, _, _, _, rfl, ZcX, T.cl_NumUse, T.n_NumUse_at, T.n_NumUse_place, T.n_NumUse_slot, rfl, ?_⟩
  rw [ZdZ]
  exact q _ _ (Zd6 hx hdx) ⟨x, dx, rfl, ZcX⟩
 | call a p sl y z =>
  obtain ⟨t, xs, rfl, e, hs⟩ := Zfw hv
  obtain rfl := ZlG hs
  refine Zi6 rfl e rfl ⟨_, e, Zc3 (ZcZ (j := 1) rfl) ⟨_, e, Zc3 (ZcZ (j := 2) rfl) ⟨_, e, Zc3 (ZcZ (j := 3) rfl) ⟨_, e, Zc3 (ZcZ (j := 4) rfl) ⟨_, e, Zc3 (ZcZ (j := 5) rfl) fun x dx hx hdx nx => ?_⟩⟩⟩⟩⟩
  refine ⟨x, dx, _, _, _, _, _, rfl, ZcX, rfl, ?_⟩
  rw [ZdZ]
  exact q _ _ (Zd6 hx hdx) ⟨x, dx, rfl, ZcX⟩
 | take a p sl ps =>
  obtain ⟨t, xs, rfl, e, hs⟩ := Zfw hv
  obtain ⟨f, rfl, hf⟩ : ∃ f, xs = [f] /\ Im H f (prD ps) := by
   cases hs with | cons h1 hs => cases hs; exact ⟨_, rfl, h1⟩
  refine Zgn rfl e (by decide +kernel) (Zi6 rfl e rfl ⟨_, e, Zc3 (ZcZ (j := 1) rfl) ⟨_, e, Zc3 (ZcZ (j := 2) rfl) ⟨_, e, Zc3 (ZcZ (j := 3) rfl) ⟨_, e, Zc3 (ZcZ (j := 4) rfl) fun x dx hx hdx nx => ?_⟩⟩⟩⟩)
  refine ⟨x, dx, _, _, _, _, rfl, ZcX, rfl, ?_⟩
  rw [ZdZ]
  exact q _ _ (Zd6 hx hdx) ⟨x, dx, f, rfl, ZcX, hf.mono (Zdj.tk (Zd6 hx hdx)), uo⟩
 | case a p sl ps =>
  obtain ⟨t, xs, rfl, e, hs⟩ := Zfw hv
  obtain ⟨f, rfl, hf⟩ : ∃ f, xs = [f] /\ Im H f (prD ps) := by
   cases hs with | cons h1 hs => cases hs; exact ⟨_, rfl, h1⟩
  refine Zgn rfl e (by decide +kernel) (Zgn rfl e (by decide +kernel) (Zi6 rfl e rfl ⟨_, e, Zc3 (ZcZ (j := 1) rfl) ⟨_, e, Zc3 (ZcZ (j := 2) rfl) ⟨_, e, Zc3 (ZcZ (j := 3) rfl) ⟨_, e, Zc3 (ZcZ (j := 4) rfl) fun x dx hx hdx nx => ?_⟩⟩⟩⟩))
  refine ⟨x, dx, _, _, _, _, rfl, ZcX, rfl, ?_⟩
  rw [ZdZ]
  exact q _ _ (Zd6 hx hdx) ⟨x, dx, f, rfl, ZcX, hf.mono (Zdj.tk (Zd6 hx hdx)), uo⟩
 | row a p sl y =>
  obtain ⟨t, xs, rfl, e, hs⟩ := Zfw hv
  obtain rfl := ZpS hs
  refine Zgn rfl e (by decide +kernel) (Zgn rfl e (by decide +kernel) (Zgn rfl e (by decide +kernel) (Zi6 rfl e rfl ⟨_, e, Zc3 (ZcZ (j := 1) rfl) ⟨_, e, Zc3 (ZcZ (j := 2) rfl) ⟨_, e, Zc3 (ZcZ (j := 3) rfl) ⟨_, e, Zc3 (ZcZ (j := 4) rfl) fun x dx hx hdx nx => ?_⟩⟩⟩⟩)))
  refine ⟨x, dx, _, _, _, _, rfl, ZcX, rfl, ?_⟩
  rw [ZdZ]
  exact q _ _ (Zd6 hx hdx) ⟨x, dx, rfl, ZcX⟩
end
theorem Zhp (ns : List Int) (lo hi : Option Int) : ∃ ms : List Int, Zhl (ns.map V.int) lo hi = ms.map V.int /\ ms.length <= ns.length := by
 refine ⟨(ns.drop (HT.Internal.sIx (ns.map V.int).length 0 lo)).take (HT.Internal.sIx (ns.map V.int).length (ns.map V.int).length hi - HT.Internal.sIx (ns.map V.int).length 0 lo), ?_, ?_⟩
 ·unfold Zhl
  rw [<- List.map_drop, <- List.map_take]
 ·rw [Zax, ZaK]
  omega
theorem _root_.BO.Internal.Ls.new {H : Hp} {l : List Addr} {m : List (List V)} {a : Addr} (c : List V) (L : Ls H l m) (nd : l.Nodup) (h : H a = none) : Ls (upd H a (.lst c)) (a :: l) (c :: m) /\ (a :: l).Nodup :=
 ⟨.cons ZcX (L.same (Zc2 h _)), Zat.mpr ⟨fun m => (by obtain ⟨c, e⟩ := L.mem m; rw [h] at e; cases e), nd⟩⟩
noncomputable def Mk3.d (m : Mk3) : Dt := Mkg.d (mkg m.f m.a m.p)
structure Th (H : Hp) (th q0 q1 q2 q3 : Addr) (pts : List Int) (ms : List Mk3) (us : List Us) (fs : List (Int × Int)) : Prop where
 t : H th = some (.lst [.ref q0, .ref q1, .ref q2, .ref q3])
 p : H q0 = some (.lst (pts.map V.int))
 m : ∃ mv, H q1 = some (.lst mv) /\ Ims H mv (ms.map Mk3.d)
 u : ∃ uv, H q2 = some (.lst uv) /\ Ims H uv (us.map Us.d)
 f : ∃ fv, H q3 = some (.lst fv) /\ Ims H fv (fs.map flD)
theorem Th.same {H H' : Hp} {th q0 q1 q2 q3 : Addr} {pts : List Int} {ms : List Mk3} {us : List Us} {fs : List (Int × Int)} (h : Th H th q0 q1 q2 q3 pts ms us fs) (s : Zdj H H') : Th H' th q0 q1 q2 q3 pts ms us fs := by
 obtain ⟨t, p, ⟨mv, m1, m2⟩, ⟨uv, u1, u2⟩, ⟨fv, f1, f2⟩⟩ := h
 have tk := Zdj.tk s
 exact ⟨s _ _ t, s _ _ p, ⟨mv, s _ _ m1, m2.mono tk⟩, ⟨uv, s _ _ u1, u2.mono tk⟩, ⟨fv, s _ _ f1, f2.mono tk⟩⟩
def midT (H : Hp) (a : Addr) : St -> Hp -> Prop := fun σ' H' => ∃ (wl : Addr) (st N : Int), σ' = [some (.ref a), some (.ref wl), some (.int st), some (.int N), none, none, none] /\ Zdj H H' /\ Wd H' wl /\ 0 < N /\ N <= 40
theorem ZmR {ts : List Int} {i : Nat} {x : V} (h : (ts.map V.int)[i]? = some x) : i < ts.length /\ ∃ n : Int, x = .int n := by
 have hi := (Zaj.mp h).1
 rw [Zar] at hi
 rw [ZaA] at h
 cases e : ts[i]? with
 | none => rw [e] at h; cases h
 | some m => rw [e] at h; exact ⟨hi, m, (ZbR.inj h).symm⟩
section
variable {P : Program} {w : World} {K : PySem.W.Frag} {mg : Str -> Option Value} {base : Heap}
structure Dr (H H2 : Hp) (sc th q0 q1 q2 q3 wl : Addr) (ts : List Int) (pts : List Int) (N : Int) (i : Nat) (mv uv fv : List V) (ms : List Mk3) (us : List Us) (fs : List (Int × Int)) : Prop where
 s : Zdj H H2
 w : Wd H2 wl
 wf : H wl = none \/ True
 l : Ls H2 [sc, th, q3, q2, q1, q0] [ts.map V.int, [.ref q0, .ref q1, .ref q2, .ref q3], fv, uv, mv, pts.map V.int]
 nd : [sc, th, q3, q2, q1, q0].Nodup
 f3 : H q3 = none
 f2 : H q2 = none
 f1 : H q1 = none
 w3 : wl ∉ [q3, q2, q1]
 im : Ims H2 mv (ms.map Mk3.d)
 iu : Ims H2 uv (us.map Us.d)
 if_ : Ims H2 fv (fs.map flD)
 lm : ms.length <= i
 lu : us.length <= i
 lf : fs.length <= i
 mo : ∀ m ∈ ms, m.f.ok /\ m.f.rng N /\ InR N m.a
 uo : ∀ u ∈ us, u.ok /\ u.dist /\ u.rng N
 fo : ∀ p ∈ fs, InR N p.1 /\ InR N p.2
theorem Zi9 {α : Type} {l : List α} {a : α} {F : α -> Prop} (h : ∀ x ∈ l, F x) (ha : F a) : ∀ x ∈ l ++ [a], F x := fun x hx => by
 rcases Zah.mp hx with z | z
 ·exact h x z
 ·simp only [ZaM] at z
  rw [z]
  exact ha
section
variable {H H2 H3 : Hp} {sc th q0 q1 q2 q3 wl : Addr} {ts pts : List Int} {N : Int} {i : Nat} {mv uv fv : List V} {ms : List Mk3} {us : List Us} {fs : List (Int × Int)}
theorem Dr.same (d : Dr H H2 sc th q0 q1 q2 q3 wl ts pts N i mv uv fv ms us fs) (s : Zdj H2 H3) : Dr H H3 sc th q0 q1 q2 q3 wl ts pts N i mv uv fv ms us fs :=
 ⟨d.s.trans s, d.w.same s, d.wf, d.l.same s, d.nd, d.f3, d.f2, d.f1, d.w3, d.im.mono (Zdj.tk s), d.iu.mono (Zdj.tk s), d.if_.mono (Zdj.tk s), d.lm, d.lu, d.lf, d.mo, d.uo, d.fo⟩
theorem ZmS {a : Addr} {o : HO} (h : Wd H2 wl) (n : wl ≠ a) : Wd (upd H2 a o) wl := by
 obtain ⟨ws, e, z⟩ := h
 exact ⟨ws, by rw [Zc6 n]; exact e, z⟩
theorem Dr.addF (d : Dr H H2 sc th q0 q1 q2 q3 wl ts pts N i mv uv fv ms us fs) {v : V} {p : Int × Int} (hv : Im H2 v (flD p)) (hp : InR N p.1 /\ InR N p.2) : Dr H (upd H2 q3 (.lst (fv ++ [v]))) sc th q0 q1 q2 q3 wl ts pts N (i + 1) mv uv (fv ++ [v]) ms us (fs ++ [p]) := by
 have k : FK H2 (upd H2 q3 (.lst (fv ++ [v]))) := ZgL (d.l.at (i := 2) (a := q3) rfl rfl)
 refine ⟨ZdX d.s d.f3 _, ZmS d.w (fun z => d.w3 (by simp [z])), d.wf, d.l.put (c := fv ++ [v]) d.nd (i := 2) (a := q3) rfl, d.nd, d.f3, d.f2, d.f1, d.w3, d.im.mono k.tk, d.iu.mono k.tk, ?_, ZbL d.lm, ZbL d.lu, by rw [ZaC]; exact ZbJ d.lf, d.mo, d.uo, Zi9 d.fo hp⟩
 rw [ZaZ]
 exact (d.if_.mono k.tk).app (.cons (hv.mono k.tk) .nil)
theorem Dr.addU (d : Dr H H2 sc th q0 q1 q2 q3 wl ts pts N i mv uv fv ms us fs) {v : V} {u : Us} (hv : Im H2 v u.d) (hu : u.ok /\ u.dist /\ u.rng N) : Dr H (upd H2 q2 (.lst (uv ++ [v]))) sc th q0 q1 q2 q3 wl ts pts N (i + 1) mv (uv ++ [v]) fv ms (us ++ [u]) fs := by
 have k : FK H2 (upd H2 q2 (.lst (uv ++ [v]))) := ZgL (d.l.at (i := 3) (a := q2) rfl rfl)
 refine ⟨ZdX d.s d.f2 _, ZmS d.w (fun z => d.w3 (by simp [z])), d.wf, d.l.put (c := uv ++ [v]) d.nd (i := 3) (a := q2) rfl, d.nd, d.f3, d.f2, d.f1, d.w3, d.im.mono k.tk, ?_, d.if_.mono k.tk, ZbL d.lm, by rw [ZaC]; exact ZbJ d.lu, ZbL d.lf, d.mo, Zi9 d.uo hu, d.fo⟩
 rw [ZaZ]
 exact (d.iu.mono k.tk).app (.cons (hv.mono k.tk) .nil)
theorem Dr.addM (d : Dr H H2 sc th q0 q1 q2 q3 wl ts pts N i mv uv fv ms us fs) {v : V} {m : Mk3} (hv : Im H2 v m.d) (hm : m.f.ok /\ m.f.rng N /\ InR N m.a) : Dr H (upd H2 q1 (.lst (mv ++ [v]))) sc th q0 q1 q2 q3 wl ts pts N (i + 1) (mv ++ [v]) uv fv (ms ++ [m]) us fs := by
 have k : FK H2 (upd H2 q1 (.lst (mv ++ [v]))) := ZgL (d.l.at (i := 4) (a := q1) rfl rfl)
 refine ⟨ZdX d.s d.f1 _, ZmS d.w (fun z => d.w3 (by simp [z])), d.wf, d.l.put (c := mv ++ [v]) d.nd (i := 4) (a := q1) rfl, d.nd, d.f3, d.f2, d.f1, d.w3, ?_, d.iu.mono k.tk, d.if_.mono k.tk, by rw [ZaC]; exact ZbJ d.lm, ZbL d.lu, ZbL d.lf, Zi9 d.mo hm, d.uo, d.fo⟩
 rw [ZaZ]
 exact (d.im.mono k.tk).app (.cons (hv.mono k.tk) .nil)
end
def Zh8 (K : PySem.W.Frag) : Sp := fun vs H Q _ => ∃ (a : Addr) (ns : List Int), vs = [.ref a] /\ SqL K H a (ns.map V.int) /\ ns.length <= 63 /\ ∀ (th q0 q1 q2 q3 : Addr) (N : Int) (pts : List Int) (ms : List Mk3) (us : List Us) (fs : List (Int × Int)) (H' : Hp), Zdj H H' -> Th H' th q0 q1 q2 q3 pts ms us fs -> Dat N ms us fs -> (∀ u ∈ us, u.ok) -> pts.length <= 64 -> N <= 40 -> ms.length <= 61 -> Q (.ref th) H'
theorem Zh9 (T : Txt K mg) : Ze0 P w K mg base CX0 4 T.a_things T.fd_things ["_law_script"] (Zh8 K) := by
 have G_pick := Zfy (P := P) (w := w) (base := base) T
 have G_words := Zi4 (P := P) (w := w) (base := base) T
 have G_make := ZjV (P := P) (w := w) (base := base) T
 have G_use := Zkz (P := P) (w := w) (base := base) T
 refine T.F_things.ok ZdO (fun vs H Q E h => ?_) (fun cdv A outer s H vs Q E hr h => ?_)
 ·obtain ⟨a, ns, rfl, _⟩ := h
  rfl
 obtain ⟨a, ns, rfl, hsq, hlen, q⟩ := h
 refine ⟨_, (Zc0 (Zdn (i := 1) ZdO.nd rfl (.inl rfl) (Zdl G_words (hr.mono (by decide)) rfl T.m_words T.k_words T.b_words .nil Zdp (ZcW (Zdq (ZhD rfl) rfl T.z_sum Zmh (ZcW (Zfb Zhy (cv 0) ZfY (Zfm ZcY)) Zc1)) Zc1)))
  (Zc0 (Zdn (i := 2) ZdO.nd rfl (.inr rfl) (Zdq (ZhD rfl) rfl T.z_sum Zmh (ZcW (Zfb Zhy (cv 0) (Zfm ZcY) (Zfm ZcY)) Zc1)))
  (Zc0 (Zdn (i := 3) ZdO.nd rfl (.inl rfl) (Zeb ZhF ZcY (Zdl G_pick (hr.mono (by decide)) rfl T.m_pick T.k_pick T.b_pick .nil Zdp (ZcW (cv 2) (ZcW ZcY (ZcW ZcY Zc1))))))
  (Zoo (midT H a) (Zdz (Zdb Zd7 (Zdl G_pick (hr.mono (by decide)) rfl T.m_pick T.k_pick T.b_pick .nil Zdp (ZcW (cv 2) (ZcW ZcY (ZcW ZcY Zc1)))) ZcY (Zdk _))
   (Zc4 (Zdn (i := 3) ZdO.nd rfl (.inl rfl) (Zeb ZhF ZcY (Zdl G_pick (hr.mono (by decide)) rfl T.m_pick T.k_pick T.b_pick .nil Zdp (ZcW (cv 2) (ZcW ZcY (ZcW ZcY Zc1)))))))
   Zdc)
  (Zc0 (Zdn (i := 4) ZdO.nd rfl (.inl rfl) (ZdJ (ZcW (ZiD rfl (ZlO (x := "_law_k") ["_law_start"] [("_law_start", 2, s.heap.objs.size + 1)] rfl rfl (by decide +kernel) (by decide +kernel) rfl (by decide +kernel) rfl rfl (by intro p hp; simp only [Zag, ZaS, or_false] at hp; rcases hp with rfl <;> exact ⟨rfl, rfl, rfl, rfl⟩)) (ZfW rfl T.z_range (ZcW (cv 3) Zc1)) (fun _ _ _ _ _ => Ze3) (fun _ _ _ _ _ => (Zdl G_pick (hr.mono (by decide)) rfl T.m_pick T.k_pick T.b_pick .nil Zdp (ZcW (Zeb ZhF (cv 1) (Zeb ZkY ZcY (cv 0))) (ZcW (Zeb ZfR (cv 0) ZcY) (ZcW ZcY Zc1)))))) (ZcW (ZdJ Zc1) (ZcW (ZdJ Zc1) (ZcW (ZdJ Zc1) Zc1))))))
  (Zc0 (Zet PassesOwn.never rfl (Zd0 (Zfb Zhy (cv 0) (Zfm ZcY) (Zfm ZcY))) (ZdG (i := 5) ZdO.nd rfl (.inl rfl))
   (Zc0 (Zdn (i := 6) ZdO.nd rfl (.inl rfl) (Zdl G_pick (hr.mono (by decide)) rfl T.m_pick T.k_pick T.b_pick .nil Zdp (ZcW (cv 5) (ZcW ZcY (ZcW ZcY Zc1)))))
   (Zc4 (Zdz (Zdb Zov (cv 6) ZcY (Zdk _))
    (Zc4 (Zdr (Ze4 (ZfT Zcv Zcw Zcx ZdA (PE.mono (Zc8 Zde (cv 4) ZcY (fun _ _ => rfl))) (ZcW (PE.mono (ZdB (ZcW (Zdl G_pick (hr.mono (by decide)) rfl T.m_pick T.k_pick T.b_pick .nil Zdp (ZcW (cv 5) (ZcW ZcY (ZcW (cv 3) Zc1)))) (ZcW (Zdl G_pick (hr.mono (by decide)) rfl T.m_pick T.k_pick T.b_pick .nil Zdp (ZcW (cv 5) (ZcW ZcY (ZcW (cv 3) Zc1)))) Zc1)))) Zc1)))))
    (Zc4 (Zdz (Zdb Zov (cv 6) ZcY (Zdk _))
     (Zc4 (Zdr (Ze4 (ZfT Zcv Zcw Zcx ZdA (PE.mono (Zc8 Zde (cv 4) ZcY (fun _ _ => rfl))) (ZcW (PE.mono (Zdl G_make (hr.mono (by decide)) rfl T.m_make T.k_make T.b_make .nil Zdp (ZcW (cv 1) (ZcW (cv 5) (ZcW (cv 3) Zc1))))) Zc1)))))
     (Zc4 (Zdr (Ze4 (ZfT Zcv Zcw Zcx ZdA (PE.mono (Zc8 Zde (cv 4) ZcY (fun _ _ => rfl))) (ZcW (PE.mono (Zdl G_use (hr.mono (by decide)) rfl T.m_use T.k_use T.b_use .nil Zdp (ZcW (cv 1) (ZcW (cv 5) (ZcW (cv 3) Zc1))))) Zc1)))))))))))
  (Zc4 (Zdd (cv 4))))))))), ?_⟩
 have sl : sizeLine = 16777216 := sizeLine_eq
 have z0 : (0 : Nat) <= sizeLine := by decide
 obtain ⟨ms0, em, _⟩ := Zhp ns none (some 1)
 obtain ⟨ms1, em1, _⟩ := Zhp ns (some 1) (some 2)
 obtain ⟨ts, et, lt⟩ := Zhp ns (some 2) (some 82)
 have lt2 : ts.length <= 61 := by
  have := congrArg Zaw et
  rw [Zar] at this
  rw [<- this]
  unfold Zhl
  rw [show (2 : Int) = ((2 : Nat) : Int) from rfl, HT.Internal.sIx_nat, Zax, ZaK, Zar]
  omega
 refine ⟨_, rfl, a, _, rfl, hsq, fun c1 hc1 => ⟨c1, ms0, rfl, SqL.of (by rw [ZcX, em]), fun n0 => ⟨n0, rfl, fun wl Hw sw _ ww => ?_⟩⟩⟩
 have Sw : Zdj H Hw := (Zc2 hc1 _).trans sw
 refine ⟨_, rfl, _, rfl, a, _, rfl, Sw.seq hsq, fun c2 hc2 => ⟨c2, ms1, rfl, SqL.of (by rw [ZcX, em1]), fun st => ?_⟩⟩
 have S2 := Zc2 hc2 (.lst (Zhl (ns.map V.int) (some 1) (some 2)))
 have Sv := Sw.trans S2
 have ww2 := ww.same S2
 dsimp only [Zeq]
 generalize upd Hw c2 (.lst (Zhl (ns.map V.int) (some 1) (some 2))) = H1 at Sv ww2 ⊢
 refine ⟨st, 0, 12, rfl, by decide, by decide, by decide, fun n1 H2 S2 a0 a1 => ⟨⟨st, 1, 8, rfl, by decide, by decide, by decide, fun n2 H3 S3 _ _ => ?_⟩, ?_⟩⟩
 ·dsimp only [tC, cEq, onB]
  refine Zql (fun _ => ?_) (fun _ => ?_)
  ·exact ⟨st, 2, 40, rfl, by decide, by decide, by decide, fun n3 H4 S4 b0 b1 => ⟨wl, st, 1 + n3, rfl, ((Sv.trans S2).trans S3).trans S4, ww2.same ((S2.trans S3).trans S4), by omega, by omega⟩⟩
  ·exact ⟨wl, st, 1 + n1, rfl, (Sv.trans S2).trans S3, ww2.same (S2.trans S3), by omega, by omega⟩
 rintro σ H3 ⟨wl, st, N, rfl, S, ww, hN0, hN1⟩
 refine ⟨N, rfl, by omega, by omega, fun q0 hq0 => ?_⟩
 refine ZfQ N.toNat (by omega) (fun xs _ => ∃ ns : List Int, xs = ns.map V.int) (fun xs _ _ h _ => h) hq0 rfl (fun k H2 _ hk => hk) (fun H2 _ => ZbD _) ⟨[], rfl⟩ ?_ ?_
 ·rintro k H4 v H5 xs Z S4 hk ⟨rfl, rfl⟩ ⟨ms, hms⟩ hl z
  refine ⟨.inl ⟨by decide, by decide⟩, (by show (0 : Int) < 9; decide), _, _, 160, rfl, ZcL _ (by decide), ZcM _ (by decide), by decide, fun n H5 S5 _ _ => z _ _ S5 ⟨ms ++ [n], by rw [hms, ZaZ]; rfl⟩⟩
 rintro H4 xs S4 ⟨pts, rfl⟩ hl e0
 rw [Zar] at hl
 refine ⟨z0, fun q1 h1 => ⟨z0, fun q2 h2 => ⟨z0, fun q3 h3 => ⟨(by show 4 <= sizeLine; decide), fun th hth => ?_⟩⟩⟩⟩
 obtain ⟨L1, N1⟩ := Ls.new [] (Ls.cons e0 .nil) (by simp) h1
 obtain ⟨L2.Internal, N2⟩ := Ls.new [] L1 N1 h2
 obtain ⟨L3, N3⟩ := Ls.new [] L2.Internal N2 h3
 obtain ⟨L4, N4⟩ := Ls.new [.ref q0, .ref q1, .ref q2, .ref q3] L3 N3 hth
 have s1 := Zc2 h1 (.lst [])
 have s2 := Zc2 h2 (.lst [])
 have s3 := Zc2 h3 (.lst [])
 have s4 := Zc2 hth (.lst [.ref q0, .ref q1, .ref q2, .ref q3])
 have SS : Zdj H4 _ := ((s1.trans s2).trans s3).trans s4
 have S5 := (S.trans S4).trans SS
 have ww5 := (ww.same S4).same SS
 have f1 : H4 q1 = none := h1
 have f2 : H4 q2 = none := s1.free h2
 have f3 : H4 q3 = none := (s1.trans s2).free h3
 have nw : ∀ x, H4 x = none -> wl ≠ x := fun x hx z => by
  obtain ⟨ws, ew, _⟩ := ww.same S4
  rw [z, hx] at ew
  cases ew
 dsimp only [Zeq]
 refine ⟨_, rfl, _, rfl, a, _, rfl, S5.seq hsq, fun sc hsc => ?_⟩
 obtain ⟨L5, N5⟩ := Ls.new (Zhl (ns.map V.int) (some 2) (some 82)) L4 N4 hsc
 rw [et] at *
 have s5 := Zc2 hsc (.lst (ts.map V.int))
 have D0 : Dr H _ sc th q0 q1 q2 q3 wl ts pts N 0 [] [] [] [] [] [] := ⟨S5.trans s5, ww5.same s5, .inr trivial, L5, N5, (S.trans S4).free f3, (S.trans S4).free f2, (S.trans S4).free f1, by simp only [Zag, ZaS, or_false, not_or]; exact ⟨nw _ f3, nw _ f2, nw _ f1⟩, .nil, .nil, .nil, ZbD _, ZbD _, ZbD _, fun _ h => absurd h ZaS, fun _ h => absurd h ZaS, fun _ h => absurd h ZaS⟩
 refine ⟨sc, rfl, ⟨_, SqL.of ZcX⟩, Zea (xs := ts.map V.int) (fun i σ H2 => ∃ (o5 o6 : Option V) (mv uv fv : List V) (ms : List Mk3) (us : List Us) (fs : List (Int × Int)), σ = [some (.ref a), some (.ref wl), some (.int st), some (.int N), some (.ref th), o5, o6] /\ Dr H H2 sc th q0 q1 q2 q3 wl ts pts N i mv uv fv ms us fs)
  ⟨none, none, [], [], [], [], [], [], rfl, D0⟩ (fun i σ H2 _ ⟨_, _, _, _, _, _, _, _, _, d⟩ => SqL.of (d.l.at (i := 0) (a := sc) rfl rfl)) ?_ ?_⟩
 ·rintro i x σ H2 hx ⟨o5, o6, mv, uv, fv, ms, us, fs, rfl, d⟩
  obtain ⟨hi, n, rfl⟩ := ZmR hx
  have li : i <= 63 := by omega
  refine ⟨n, 0, 8, rfl, by decide, by decide, by decide, fun so H3 S3 _ _ => ?_⟩
  have d3 := d.same S3
  have et3 := d3.l.at (i := 1) (a := th) rfl rfl
  dsimp only [Zeq, tC, cI0, onB]
  refine Zql (fun _ => ?_) (fun _ => Zql (fun _ => ?_) (fun _ => ?_))
  ·refine ⟨_, et3, Zc3 (ZcZ (j := 3) rfl) ⟨⟨_, d3.l.at (i := 2) (a := q3) rfl rfl⟩, n, 1, N, rfl, by decide, by decide, hN0, fun x H4 S4 x0 x1 => ⟨n, 2, N, rfl, by decide, by decide, hN0, fun y H5 S5 y0 y1 => ⟨(by show 2 <= sizeLine; decide), fun t ht => ?_⟩⟩⟩⟩
   have d6 := ((d3.same S4).same S5).same (Zc2 ht (.tup [.int x, .int y]))
   have fl := d6.if_.length
   rw [Zar] at fl
   have := d6.lf
   exact ⟨fv, d6.l.at (i := 2) (a := q3) rfl rfl, by omega, _, _, _, _, _, _, _, _, rfl, d6.addF (p := (x, y)) (.tup ZcX (.cons (.flat rfl) (.cons (.flat rfl) .nil))) ⟨⟨x0, x1⟩, ⟨y0, y1⟩⟩⟩
  ·refine ⟨_, et3, Zc3 (ZcZ (j := 1) rfl) ⟨⟨_, d3.l.at (i := 4) (a := q1) rfl rfl⟩, wl, n, N, rfl, d3.w, hN0, fun v m ma mp H4 S4 ok rg ra hv => ?_⟩⟩
   have d6 := d3.same S4
   have fl := d6.im.length
   rw [Zar] at fl
   have := d6.lm
   exact ⟨mv, d6.l.at (i := 4) (a := q1) rfl rfl, by omega, _, _, _, _, _, _, _, _, rfl, d6.addM (m := ⟨m, ma, mp⟩) hv ⟨ok, rg, ra⟩⟩
  ·refine ⟨_, et3, Zc3 (ZcZ (j := 2) rfl) ⟨⟨_, d3.l.at (i := 3) (a := q2) rfl rfl⟩, wl, n, N, rfl, d3.w, hN0, fun v u H4 S4 ok di rg hv => ?_⟩⟩
   have d6 := d3.same S4
   have fl := d6.iu.length
   rw [Zar] at fl
   have := d6.lu
   exact ⟨uv, d6.l.at (i := 3) (a := q2) rfl rfl, by omega, _, _, _, _, _, _, _, _, rfl, d6.addU (u := u) hv ⟨ok, di, rg⟩⟩
 ·rintro σ H2 ⟨o5, o6, mv, uv, fv, ms, us, fs, rfl, d⟩
  have l1 := d.lm
  have l2 := d.lu
  have l3 := d.lf
  rw [Zar] at l1 l2 l3
  exact q th q0 q1 q2 q3 N pts ms us fs H2 d.s ⟨d.l.at (i := 1) (a := th) rfl rfl, d.l.at (i := 5) (a := q0) rfl rfl, ⟨mv, d.l.at (i := 4) (a := q1) rfl rfl, d.im⟩, ⟨uv, d.l.at (i := 3) (a := q2) rfl rfl, d.iu⟩, ⟨fv, d.l.at (i := 2) (a := q3) rfl rfl, d.if_⟩⟩
   ⟨hN0, by omega, by omega, by omega, by omega, d.mo, fun u hu => (d.uo u hu).2, d.fo⟩ (fun u hu => (d.uo u hu).1) (by omega) hN1 (by omega)
end
section
variable {P : Program} {w : World} {K : PySem.W.Frag} {mg : Str -> Option Value} {base : Heap}
theorem ZmT {H : Hp} : ∀ {mv : List V} {ms : List Mk3} {i : Nat} {v : V}, Ims H mv (ms.map Mk3.d) -> mv[i]? = some v -> ∃ m t f, ms[i]? = some m /\ v = .ref t /\ H t = some (.tup [.str m.f.s, f, .int m.a, .int m.p]) /\ Im H f m.f.f
 | _, [], _, _, .nil, e => by simp at e
 | _, m :: ms, 0, v, .cons h _, e => by
  cases e
  obtain ⟨t, xs, rfl, e, hs⟩ := ZeM h
  cases hs with
  | cons h1 hs =>
   cases h1
   cases hs with
   | cons h2 hs =>
    obtain rfl := ZlG hs
    exact ⟨m, t, _, rfl, rfl, e, h2⟩
 | _, m :: ms, i + 1, v, .cons _ t, e => by
  rw [ZaU] at e
  obtain ⟨q, u, f, e1, e2⟩ := ZmT t e
  exact ⟨q, u, f, by rw [ZaU]; exact e1, e2⟩
theorem ZmU {H : Hp} : ∀ {uv : List V} {us : List Us} {i : Nat} {v : V}, Ims H uv (us.map Us.d) -> uv[i]? = some v -> ∃ u, us[i]? = some u /\ Im H v u.d
 | _, [], _, _, .nil, e => by simp at e
 | _, m :: ms, 0, v, .cons h _, e => by cases e; exact ⟨m, rfl, h⟩
 | _, m :: ms, i + 1, v, .cons _ t, e => by
  rw [ZaU] at e
  obtain ⟨q, e1, e2⟩ := ZmU t e
  exact ⟨q, by rw [ZaU]; exact e1, e2⟩
structure Bf (c : Cs) (H H2 : Hp) (b bx p0 p1 p2 p3 : Addr) (xs mv uv fv : List V) (ms : List Mk3) (us : List Us) (fs : List (Int × Int)) : Prop where
 s : Zdj H H2
 b : H2 b = some (.ins c.B bx (fB p0 p1 p2 p3 (.int 0)))
 l : Ls H2 [p0, p1, p2, p3] [xs, mv, uv, fv]
 nd : [p0, p1, p2, p3].Nodup
 f : ∀ a ∈ [p0, p1, p2, p3], H a = none
 m : ZgJ (M3 c H2) mv ms
 u : ZgJ (UsAt c H2) uv us
 i : Ims H2 fv (fs.map flD)
section
variable {c : Cs} {H H2 H3 : Hp} {b bx p0 p1 p2 p3 : Addr} {xs mv uv fv : List V} {ms : List Mk3} {us : List Us} {fs : List (Int × Int)}
theorem Bf.same (B : Bf c H H2 b bx p0 p1 p2 p3 xs mv uv fv ms us fs) (s : Zdj H2 H3) : Bf c H H3 b bx p0 p1 p2 p3 xs mv uv fv ms us fs :=
 ⟨B.s.trans s, s _ _ B.b, B.l.same s, B.nd, B.f, B.m.imp fun _ _ => Zkg.mono (Zdj.fk s), B.u.imp fun _ _ => UsAt.mono (Zdj.fk s), B.i.mono (Zdj.tk s)⟩
theorem Bf.put (B : Bf c H H2 b bx p0 p1 p2 p3 xs mv uv fv ms us fs) {j : Nat} {a : Addr} {ys zs : List V} (ha : [p0, p1, p2, p3][j]? = some a) (hy : [xs, mv, uv, fv][j]? = some ys) :
  FK H2 (upd H2 a (.lst zs)) /\ Zdj H (upd H2 a (.lst zs)) /\ (upd H2 a (.lst zs)) b = some (.ins c.B bx (fB p0 p1 p2 p3 (.int 0))) /\ Ls (upd H2 a (.lst zs)) [p0, p1, p2, p3] ([xs, mv, uv, fv].set j zs) := by
 have e := B.l.at ha hy
 exact ⟨ZgL e, ZdX B.s (B.f a (ZaB ha)) _, by rw [Zc6 (Zdx B.b e (fun h => nomatch h))]; exact B.b, B.l.put B.nd ha⟩
end
def Zja (c : Cs) : Sp := fun vs H Q _ => ∃ (th q0 q1 q2 q3 : Addr) (pts : List Int) (ms : List Mk3) (us : List Us) (fs : List (Int × Int)), vs = [.ref th] /\ Th H th q0 q1 q2 q3 pts ms us fs /\ (∀ m ∈ ms, m.f.ok) /\ (∀ u ∈ us, u.ok) /\ pts.length <= 64 /\ ms.length <= 64 /\ us.length <= 64 /\ fs.length <= 64 /\
 ∀ (b bx p0 p1 p2 p3 : Addr) (mv uv fv : List V) (H' : Hp), Zdj H H' -> H' b = some (.ins c.B bx (fB p0 p1 p2 p3 (.int 0))) -> H' p1 = some (.lst mv) -> ZgJ (M3 c H') mv ms -> H' p2 = some (.lst uv) -> ZgJ (UsAt c H') uv us -> H' p3 = some (.lst fv) -> Ims H' fv (fs.map flD) -> Q (.ref b) H'
theorem ZgV {α : Type} {l : List α} {i : Nat} {a : α} (h : l[i]? = some a) : l.take (i + 1) = l.take i ++ [a] := by
 rw [Za2, h]
 rfl
theorem Zjb (T : Txt K mg) : Ze0 P w K mg base CX0 5 T.a_board T.fd_board ["_law_things_here"] (Zja (cs T)) := by
 have G_Board___init__ := Zg4 (P := P) (w := w) (base := base) T
 have G_Board_point := Zh6 (P := P) (w := w) (base := base) T
 have G_Board_make := ZiY (P := P) (w := w) (base := base) T
 have G_Board_use := ZjR (P := P) (w := w) (base := base) T
 have G_Board_flow := Zi0 (P := P) (w := w) (base := base) T
 have G_using := Zi8 (P := P) (w := w) (base := base) T
 refine T.F_board.ok ZeK (fun vs H Q E h => ?_) (fun cdv A outer s H vs Q E hr h => ?_)
 ·obtain ⟨th, q0, q1, q2, q3, pts, ms, us, fs, rfl, _⟩ := h
  rfl
 obtain ⟨th, q0, q1, q2, q3, pts, ms, us, fs, rfl, hT, mo, uo, lp, lm, lu, lf, q⟩ := h
 refine ⟨_, (Zc0 (Zdn (i := 1) ZeK.nd rfl (.inl rfl) (Zm9 T.mk_Board G_Board___init__ (hr.mono (by decide)) rfl T.m_Board T.b_Board___init__ .nil Zdp))
  (Zc0 (Zet PassesOwn.never rfl (Zd0 (Zc8 Zde (cv 0) ZcY (fun _ _ => rfl))) (ZdG (i := 2) ZeK.nd rfl (.inl rfl))
   (Zc4 (Zdr (ZdN (Zec (PE.mono (cv 1)) T.cl_Board T.me_Board_point G_Board_point (hr.mono (by decide)) T.b_Board_point .nil Zdp (ZcW (cv 2) Zc1))))))
  (Zc0 (Zet PassesOwn.never rfl (Zd0 (Zc8 Zde (cv 0) ZcY (fun _ _ => rfl))) (ZdG (i := 3) ZeK.nd rfl (.inl rfl))
   (Zc4 (Zdr (ZdN (Zec (PE.mono (cv 1)) T.cl_Board T.me_Board_make G_Board_make (hr.mono (by decide)) T.b_Board_make .nil Zdp (ZcW (Zc8 Zc7 (cv 3) ZcY (fun _ _ => rfl)) (ZcW (Zc8 Zc7 (cv 3) ZcY (fun _ _ => rfl)) (ZcW (Zc8 Zc7 (cv 3) ZcY (fun _ _ => rfl)) (ZcW (Zc8 Zc7 (cv 3) ZcY (fun _ _ => rfl)) Zc1)))))))))
  (Zc0 (Zet PassesOwn.never rfl (Zd0 (Zc8 Zde (cv 0) ZcY (fun _ _ => rfl))) (ZdG (i := 4) ZeK.nd rfl (.inl rfl))
   (Zc4 (Zdr (ZdN (Zec (PE.mono (cv 1)) T.cl_Board T.me_Board_use G_Board_use (hr.mono (by decide)) T.b_Board_use .nil Zdp (ZcW (Zdl G_using (hr.mono (by decide)) rfl T.m_using T.k_using T.b_using .nil Zdp (ZcW (cv 4) Zc1)) Zc1))))))
  (Zc0 (Zet PassesOwn.never rfl (Zd0 (Zc8 Zde (cv 0) ZcY (fun _ _ => rfl))) (ZdG (i := 5) ZeK.nd rfl (.inl rfl))
   (Zc4 (Zdr (ZdN (Zec (PE.mono (cv 1)) T.cl_Board T.me_Board_flow G_Board_flow (hr.mono (by decide)) T.b_Board_flow .nil Zdp (ZcW (Zc8 Zc7 (cv 5) ZcY (fun _ _ => rfl)) (ZcW (Zc8 Zc7 (cv 5) ZcY (fun _ _ => rfl)) Zc1)))))))
  (Zc4 (Zdd (cv 1)))))))), ?_⟩
 have sl : sizeLine = 16777216 := sizeLine_eq
 obtain ⟨et, ep, ⟨mv0, em, im⟩, ⟨uv0, eu, iu⟩, ⟨fv0, ef, if_⟩⟩ := hT
 have lmv := im.length
 have luv := iu.length
 have lfv := if_.length
 rw [Zar] at lmv luv lfv
 refine fun b bx hb hbx _ => ⟨b, bx, rfl, ZcX, fun p0 p1 p2 p3 H1 fr nd eb L k => ⟨rfl, ?_⟩⟩
 have S1 : Zdj H (upd (upd H bx (.own b)) b (.ins (cs T).B bx [])) := Zd6 hb hbx
 have SH : Zdj H H1 := fun a o e => k a o (S1 a o e) (Zc9 e hb)
 have B0 : Bf (cs T) H H1 b bx p0 p1 p2 p3 [] [] [] [] [] [] [] := ⟨SH, eb, L, nd, fun a ha => S1.free (fr a ha), .nil, .nil, .nil⟩
 have no : ∀ {x : Str}, x ∉ (["points", "makes", "uses", "flows", "root"] : List Str) -> (fB p0 p1 p2 p3 (.int 0)).lookup x = none := fun {x} h => by
  simp only [Zag, ZaS, or_false, not_or] at h
  have f : ∀ {a b : Str}, ¬ a = b -> (a == b) = false := fun {a b} h => by simp [h]
  exact (Zer (f h.1)).trans ((Zer (f h.2.1)).trans ((Zer (f h.2.2.1)).trans ((Zer (f h.2.2.2.1)).trans ((Zer (f h.2.2.2.2)).trans rfl))))
 dsimp only [Zeq]
 refine ⟨_, SH _ _ et, Zc3 (ZcZ (j := 0) rfl) ⟨q0, rfl, ⟨_, SqL.of (SH _ _ ep)⟩, Zea (xs := pts.map V.int) (fun i σ H2 => ∃ (o2 : Option V) (xs : List V), σ = [some (.ref th), some (.ref b), o2, none, none, none] /\ xs.length = i /\ Bf (cs T) H H2 b bx p0 p1 p2 p3 xs [] [] [] [] [] [])
  ⟨none, [], rfl, rfl, B0⟩ (fun i σ H2 _ ⟨_, _, _, _, B⟩ => SqL.of (B.s _ _ ep)) ?_ ?_⟩⟩
 ·rintro i v σ H2 hv ⟨o2, xs, rfl, hx, B⟩
  obtain ⟨hi, n, rfl⟩ := ZmR hv
  obtain ⟨k1, s1, b1, l1⟩ := B.put (j := 0) (zs := xs ++ [.int n]) rfl rfl
  refine ⟨⟨_, _, B.b, no (by decide +kernel)⟩, b, bx, p0, p1, p2, p3, _, .int n, xs, rfl, B.b, B.l.at (i := 0) (a := p0) rfl rfl, by omega, _, xs ++ [V.int n], rfl, by rw [ZaC, hx]; rfl, s1, b1, l1, B.nd, B.f, .nil, .nil, .nil⟩
 rintro σ H2 ⟨o2, xs, rfl, hx, B⟩
 refine ⟨_, B.s _ _ et, Zc3 (ZcZ (j := 1) rfl) ⟨q1, rfl, ⟨_, SqL.of (B.s _ _ em)⟩, Zea (xs := mv0) (fun i σ H2 => ∃ (o3 : Option V) (mv : List V), σ = [some (.ref th), some (.ref b), o2, o3, none, none] /\ Bf (cs T) H H2 b bx p0 p1 p2 p3 xs mv [] [] (ms.take i) [] [])
  ⟨none, [], rfl, B⟩ (fun i σ H2 _ ⟨_, _, _, B⟩ => SqL.of (B.s _ _ em)) ?_ ?_⟩⟩
 ·rintro i v σ H2 hv ⟨o3, mv, rfl, B⟩
  obtain ⟨m, t, f, hm, rfl, e, hf⟩ := ZmT im hv
  have e2 := B.s _ _ e
  have lmv2 := B.m.length
  rw [Zax] at lmv2
  refine ⟨⟨_, _, B.b, no (by decide +kernel)⟩, _, e2, Zc3 (ZcZ (j := 0) rfl) ⟨_, e2, Zc3 (ZcZ (j := 1) rfl) ⟨_, e2, Zc3 (ZcZ (j := 2) rfl) ⟨_, e2, Zc3 (ZcZ (j := 3) rfl) ⟨b, bx, p0, p1, p2, p3, _, _, _, _, _, mv, rfl, B.b, B.l.at (i := 1) (a := p1) rfl rfl, by omega, fun x dx hx hdx => ?_⟩⟩⟩⟩⟩
  have S3 : Zdj H2 (upd (upd H2 dx (.own x)) x (.ins (cs T).M dx (fM (.str m.f.s) f (.int m.a) (.int m.p)))) := Zd6 hx hdx
  have B3 := B.same S3
  have ex : (upd (upd H2 dx (.own x)) x (.ins (cs T).M dx (fM (.str m.f.s) f (.int m.a) (.int m.p)))) x = some (.ins (cs T).M dx (fM (.str m.f.s) f (.int m.a) (.int m.p))) := ZcX
  have hf3 : Im _ f m.f.f := hf.mono (Zdj.tk (B.s.trans S3))
  show ∃ (o3 : Option V) (mv' : List V), _ /\ Bf (cs T) H (upd (upd (upd H2 dx (.own x)) x (.ins (cs T).M dx (fM (.str m.f.s) f (.int m.a) (.int m.p)))) p1 (.lst (mv ++ [.ref x]))) b bx p0 p1 p2 p3 xs mv' [] [] (ms.take (i + 1)) [] []
  generalize upd (upd H2 dx (.own x)) x (.ins (cs T).M dx (fM (.str m.f.s) f (.int m.a) (.int m.p))) = H3 at B3 ex hf3 ⊢
  obtain ⟨k1, s1, b1, l1⟩ := B3.put (j := 1) (zs := mv ++ [.ref x]) rfl rfl
  have nx : x ≠ p1 := Zdx ex (B3.l.at (i := 1) (a := p1) rfl rfl) (fun h => nomatch h)
  refine ⟨_, _, rfl, s1, b1, l1, B.nd, B.f, ?_, .nil, .nil⟩
  rw [ZgV hm]
  exact .snoc ⟨x, dx, f, rfl, by rw [Zc6 nx]; exact ex, hf3.mono k1.tk, Mf.dep _, Mf.okd (mo m (ZaB hm))⟩ (B3.m.imp fun _ _ => Zkg.mono k1)
 rintro σ H3 ⟨o3, mv, rfl, B⟩
 rw [Zba (by omega)] at B
 refine ⟨_, B.s _ _ et, Zc3 (ZcZ (j := 2) rfl) ⟨q2, rfl, ⟨_, SqL.of (B.s _ _ eu)⟩, Zea (xs := uv0) (fun i σ H2 => ∃ (o4 : Option V) (uv : List V), σ = [some (.ref th), some (.ref b), o2, o3, o4, none] /\ Bf (cs T) H H2 b bx p0 p1 p2 p3 xs mv uv [] ms (us.take i) [])
  ⟨none, [], rfl, B⟩ (fun i σ H2 _ ⟨_, _, _, B⟩ => SqL.of (B.s _ _ eu)) ?_ ?_⟩⟩
 ·rintro i v σ H2 hv ⟨o4, uv, rfl, B⟩
  obtain ⟨u, hu, hv⟩ := ZmU iu hv
  have luv2 := B.u.length
  rw [Zax] at luv2
  refine ⟨⟨_, _, B.b, no (by decide +kernel)⟩, v, u, rfl, uo u (ZaB hu), hv.mono (Zdj.tk B.s), fun x H4 S4 hx => ?_⟩
  have B4 := B.same S4
  obtain ⟨k1, s1, b1, l1⟩ := B4.put (j := 2) (zs := uv ++ [x]) rfl rfl
  refine ⟨b, bx, p0, p1, p2, p3, _, x, uv, rfl, B4.b, B4.l.at (i := 2) (a := p2) rfl rfl, by omega, _, _, rfl, s1, b1, l1, B.nd, B.f, B4.m.imp fun _ _ => Zkg.mono k1, ?_, .nil⟩
  rw [ZgV hu]
  exact .snoc (hx.mono k1) (B4.u.imp fun _ _ => UsAt.mono k1)
 rintro σ H4 ⟨o4, uv, rfl, B⟩
 rw [Zba (by omega)] at B
 refine ⟨_, B.s _ _ et, Zc3 (ZcZ (j := 3) rfl) ⟨q3, rfl, ⟨_, SqL.of (B.s _ _ ef)⟩, Zea (xs := fv0) (fun i σ H2 => ∃ (o5 : Option V) (fv : List V), σ = [some (.ref th), some (.ref b), o2, o3, o4, o5] /\ fv.length = i /\ Bf (cs T) H H2 b bx p0 p1 p2 p3 xs mv uv fv ms us (fs.take i))
  ⟨none, [], rfl, rfl, B⟩ (fun i σ H2 _ ⟨_, _, _, _, B⟩ => SqL.of (B.s _ _ ef)) ?_ ?_⟩⟩
 ·rintro i v σ H2 hv ⟨o5, fv, rfl, hl, B⟩
  have hi := (Zaj.mp hv).1
  obtain ⟨p, t, hp, rfl, e⟩ := ZhU if_ hv
  have e2 := B.s _ _ e
  refine ⟨⟨_, _, B.b, no (by decide +kernel)⟩, _, e2, Zc3 (ZcZ (j := 0) rfl) ⟨_, e2, Zc3 (ZcZ (j := 1) rfl) ⟨b, bx, p0, p1, p2, p3, _, _, _, fv, rfl, B.b, B.l.at (i := 3) (a := p3) rfl rfl, by omega, fun t2 h2 => ?_⟩⟩⟩
  have B4 := B.same (Zc2 h2 (.tup [.int p.1, .int p.2]))
  have e4 : (upd H2 t2 (.tup [.int p.1, .int p.2])) t2 = some (.tup [.int p.1, .int p.2]) := ZcX
  obtain ⟨k1, s1, b1, l1⟩ := B4.put (j := 3) (zs := fv ++ [.ref t2]) rfl rfl
  refine ⟨_, fv ++ [V.ref t2], rfl, by rw [ZaC, hl]; rfl, s1, b1, l1, B.nd, B.f, B4.m.imp fun _ _ => Zkg.mono k1, B4.u.imp fun _ _ => UsAt.mono k1, ?_⟩
  rw [ZgV hp, ZaZ]
  exact (B4.i.mono k1.tk).app (.cons (.tup (k1.tk _ _ e4) (.cons (.flat rfl) (.cons (.flat rfl) .nil))) .nil)
 rintro σ H5 ⟨o5, fv, rfl, hl, B⟩
 rw [Zba (by omega)] at B
 exact q b bx p0 p1 p2 p3 mv uv fv H5 B.s B.b (B.l.at (i := 1) (a := p1) rfl rfl) B.m (B.l.at (i := 2) (a := p2) rfl rfl) B.u (B.l.at (i := 3) (a := p3) rfl rfl) B.i
end
section
variable {i j : Nat} {s s' w w' : Str} {t : TS.Internal} {D : Zjm} {σ : St} {H : Hp} {u' : TS.Internal} {a b : Addr} {r r' : List V}
theorem Zp3 {Q : Bool -> Hp -> Prop} (hv : σ[i]? = some (some (.ref a))) (ha : H a = some (.tup (.str s :: r))) (h : s ≠ w) (q : Q false H) : cT (tOp (cEq false) (tOp Zm0 (cV i) (tC (.int 0))) (tC (.str w))) σ H Q := by
 show onV σ[i]? _
 rw [hv]
 refine ⟨_, ha, Zc3 (ZcZ (j := 0) rfl) ?_⟩
 show Q (false ^^ decide (s = w)) H
 rw [decide_eq_false h]
 exact q
theorem ZmV {Q : Bool -> Hp -> Prop} (hv : σ[i]? = some (some (.ref a))) (ha : H a = some (.tup (.str s :: r))) (h : s = w) (q : Q true H) : cT (tOp (cEq false) (tOp Zm0 (cV i) (tC (.int 0))) (tC (.str w))) σ H Q := by
 show onV σ[i]? _
 rw [hv]
 refine ⟨_, ha, Zc3 (ZcZ (j := 0) rfl) ?_⟩
 show Q (false ^^ decide (s = w)) H
 rw [decide_eq_true h]
 exact q
noncomputable abbrev ZoQ (i j : Nat) (w w' : Str) : TT := Zrf (cT (tOp (cEq false) (tOp Zm0 (cV i) (tC (.int 0))) (tC (.str w)))) (cT (tOp (cEq false) (tOp Zm0 (cV j) (tC (.int 0))) (tC (.str w'))))
theorem ZeS (hv : σ[i]? = some (some (.ref a))) (ha : H a = some (.tup (.str s :: r))) (h : s ≠ w) (q : u' D σ H) : Ziw (Zj6 (ZoQ i j w w') t Ze1) u' D σ H := Zp3 hv ha h (Zen (Zen q))
theorem ZjW (hv : σ[i]? = some (some (.ref a))) (ha : H a = some (.tup (.str s :: r))) (h : s = w) (hv' : σ[j]? = some (some (.ref b))) (hb : H b = some (.tup (.str s' :: r'))) (h' : s' ≠ w') (q : u' D σ H) : Ziw (Zj6 (ZoQ i j w w') t Ze1) u' D σ H := ZmV hv ha h (Zfh (Zp3 hv' hb h' (Zen q)))
theorem ZmW (hv : σ[i]? = some (some (.ref a))) (ha : H a = some (.tup (.str s :: r))) (h : s = w) (hv' : σ[j]? = some (some (.ref b))) (hb : H b = some (.tup (.str s' :: r'))) (h' : s' = w') (q : t { D with nx := u' D } σ H) : Ziw (Zj6 (ZoQ i j w w') t Ze1) u' D σ H := ZmV hv ha h (Zfh (ZmV hv' hb h' (Zfh q)))
end
section
variable {P : Program} {w : World} {K : PySem.W.Frag} {mg : Str -> Option Value} {base : Heap}
theorem Zq8 {H : Hp} {v : V} {s : Str} {d : Dt} {a p : Int} (h : Im H v (.tup [.flat (.str s), d, .flat (.int a), .flat (.int p)])) : ∃ t f, v = .ref t /\ H t = some (.tup [.str s, f, .int a, .int p]) /\ Im H f d := by
 obtain ⟨t, xs, rfl, e, hs⟩ := ZeM h
 cases hs with
 | cons h1 hs =>
  cases h1
  cases hs with
  | cons h2 hs =>
   obtain rfl := ZlG hs
   exact ⟨t, _, rfl, e, h2⟩
theorem ZmX : ∀ {l : List (Str × Int)} {w : Str} {k : Nat} {p : Str × Int}, l[k]? = some p -> lk (l.take k) w = none -> p.1 ≠ w -> lk (l.take (k + 1)) w = none
 | q :: t, w, 0, p, e, _, n => by
  cases e
  show (if q.1 = w then some q.2 else none) = none
  rw [if_neg n]
 | q :: t, w, k + 1, p, e, h, n => by
  rw [ZaU] at e
  rw [List.take_succ_cons, lk] at h ⊢
  by_cases z : q.1 = w
  ·rw [if_pos z] at h; cases h
  ·rw [if_neg z] at h ⊢
   exact ZmX e h n
theorem Zp4 : ∀ {l : List (Str × Int)} {w : Str} {k : Nat} {p : Str × Int}, l[k]? = some p -> lk (l.take k) w = none -> p.1 = w -> lk l w = some p.2
 | q :: t, w, 0, p, e, _, n => by
  cases e
  rw [lk, if_pos n]
 | q :: t, w, k + 1, p, e, h, n => by
  rw [ZaU] at e
  rw [List.take_succ_cons, lk] at h
  rw [lk]
  by_cases z : q.1 = w
  ·rw [if_pos z] at h; cases h
  ·rw [if_neg z] at h ⊢
   exact Zp4 e h n
theorem ZmY {l m : List (Str × Int)} (h : ∀ p ∈ l, lk m p.1 ≠ none) : ZjE l m = some (l.filterMap (fnd m)) := by
 have : ∀ l : List (Str × Int), (∀ p ∈ l, lk m p.1 ≠ none) -> (l.filterMap (fnd m)).length = l.length := by
  intro l
  induction l with
  | nil => intro _; rfl
  | cons a t ih =>
   intro h
   have h1 := h a (by simp)
   cases e : lk m a.1 with
   | none => exact absurd e h1
   | some x =>
    have : fnd m a = some (x, a.2) := by rw [fnd, e]; rfl
    rw [Zad, this]
    show (ZaX (fnd m) t).length + 1 = t.length + 1
    rw [ih fun p hp => h p (by simp [hp])]
 rw [ZjE, if_pos (this l h)]
noncomputable def MetV (H : Hp) (v : V) : Option (List (Int × Int)) -> Prop
 | none => v = .non
 | some l => ∃ a xs, v = .ref a /\ H a = some (.lst xs) /\ Ims H xs (l.map flD)
theorem ZkA {H : Hp} {t : Addr} {a b : Int} (h : H t = some (.tup [.int a, .int b])) : Im H (.ref t) (flD (a, b)) := .tup h (.cons (.flat rfl) (.cons (.flat rfl) .nil))
def ZkB : Sp := fun vs H Q _ => ∃ (mv uv : V) (u : Us) (m : Mf) (ma mp : Int), vs = [mv, uv] /\ Im H mv (Mkg.d (mkg m ma mp)) /\ Im H uv (Us.d u) /\ m.ok /\ u.ok /\ ∀ v H', Zdj H H' -> MetV H' v (ZhE u m) -> Q v H'
theorem ZkC (T : Txt K mg) : Ze0 P w K mg base CX0 1 T.a_met T.fd_met ["_law_make_here", "_law_use_here"] ZkB := by
 refine T.F_met.ok Zgs (fun vs H Q E h => ?_) (fun cdv A outer s H vs Q E hr h => ?_)
 ·obtain ⟨mv, uv, u, m, ma, mp, rfl, _⟩ := h
  rfl
 have hu := ZhA hr
 obtain ⟨mv, uv, u, m, ma, mp, rfl, hm, huv, mo, uo, q⟩ := h
 obtain ⟨tm, f, rfl, em, hf⟩ := Zq8 hm
 refine ⟨_, (Zc0 (Zdz (PW.pt (ZfV (Zdb Zd7 (Zc8 Zc7 (cv 1) ZcY (fun _ _ => rfl)) Zdm (Zdk _)) (Zfs (Zdb Zd7 (Zc8 Zc7 (cv 0) ZcY (fun _ _ => rfl)) Zdm (Zdk _)))))
   (Zc4 (Zdd (ZdJ Zc1)))
   Zdc)
  (Zc0 (Zdz (PW.pt (ZfV (Zdb Zd7 (Zc8 Zc7 (cv 1) ZcY (fun _ _ => rfl)) Zdm (Zdk _)) (Zfs (Zdb Zd7 (Zc8 Zc7 (cv 0) ZcY (fun _ _ => rfl)) Zdm (Zdk _)))))
   (Zc4 (Zdd (ZdJ (ZcW (ZdB (ZcW (Zc8 Zc7 (cv 1) ZcY (fun _ _ => rfl)) (ZcW (Zc8 Zc7 (Zc8 Zc7 (cv 0) ZcY (fun _ _ => rfl)) ZcY (fun _ _ => rfl)) Zc1))) (ZcW (ZdB (ZcW (Zc8 Zc7 (Zc8 Zc7 (cv 0) ZcY (fun _ _ => rfl)) ZcY (fun _ _ => rfl)) (ZcW (Zc8 Zc7 (cv 1) ZcY (fun _ _ => rfl)) Zc1))) Zc1)))))
   Zdc)
  (Zc0 (Zdz (PW.pt (ZfV (Zdb Zd7 (Zc8 Zc7 (cv 1) ZcY (fun _ _ => rfl)) Zdm (Zdk _)) (Zfs (Zdb Zd7 (Zc8 Zc7 (cv 0) ZcY (fun _ _ => rfl)) Zdm (Zdk _)))))
   (Zc4 (Zdd (ZdJ (ZcW (ZdB (ZcW (Zc8 Zc7 (Zc8 Zc7 (cv 0) ZcY (fun _ _ => rfl)) ZcY (fun _ _ => rfl)) (ZcW (Zc8 Zc7 (cv 1) ZcY (fun _ _ => rfl)) Zc1))) Zc1))))
   Zdc)
  (Zc0 (Zdz (PW.pt (ZfV (Zdb Zd7 (Zc8 Zc7 (cv 1) ZcY (fun _ _ => rfl)) Zdm (Zdk _)) (Zfs (Zdb Zd7 (Zc8 Zc7 (cv 0) ZcY (fun _ _ => rfl)) Zdm (Zdk _)))))
   (Zc4 (Zet PassesOwn.never rfl (ZkM (Zc8 Zc7 (cv 1) ZcY (fun _ _ => rfl))) (ZdG (i := 2) Zgs.nd rfl (.inl rfl))
    (Zc4 (Zdz (Zdb Zd7 (Zc8 Zc7 (cv 2) ZcY (fun _ _ => rfl)) (Zc8 Zc7 (Zc8 Zc7 (cv 0) ZcY (fun _ _ => rfl)) ZcY (fun _ _ => rfl)) (Zdk _))
     (Zc4 (Zdd (ZdJ (ZcW (ZdB (ZcW (Zc8 Zc7 (Zc8 Zc7 (cv 0) ZcY (fun _ _ => rfl)) ZcY (fun _ _ => rfl)) (ZcW (Zc8 Zc7 (cv 2) ZcY (fun _ _ => rfl)) Zc1))) Zc1))))
     Zdc))))
   Zdc)
  (Zc0 (Zdz (PW.pt (ZfV (Zdb Zd7 (Zc8 Zc7 (cv 1) ZcY (fun _ _ => rfl)) Zdm (Zdk _)) (Zfs (Zdb Zd7 (Zc8 Zc7 (cv 0) ZcY (fun _ _ => rfl)) Zdm (Zdk _)))))
   (Zc0 (Zdn (i := 3) Zgs.nd rfl (.inr rfl) (ZeP (Zg1 rfl) rfl T.z_dict Zkd (ZcW (Zc8 Zc7 (cv 0) ZcY (fun _ _ => rfl)) Zc1)))
   (Zc4 (Zdz (ZfB (Zdq (ZkT rfl) rfl T.z_all ZnL (ZcW (ZiD rfl (ZlO (x := "_law_field") ["_law_there"] [("_law_there", 3, s.heap.objs.size + 1)] rfl rfl (by decide +kernel) (by decide +kernel) rfl (by decide +kernel) rfl rfl (by intro p hp; simp only [Zag, ZaS, or_false] at hp; rcases hp with rfl <;> exact ⟨rfl, rfl, rfl, rfl⟩)) (ZkM (Zc8 Zc7 (cv 1) ZcY (fun _ _ => rfl))) (fun _ _ _ _ _ => Ze3) (fun _ _ _ _ _ => (ZlT (ZnH hu (Zc8 Zc7 (cv 0) ZcY (fun _ _ => rfl)) (cv 1)) rfl))) Zc1)))
    (Zc4 (Zdd (ZiD rfl (ZlO (x := "_law_field") ["_law_there"] [("_law_there", 3, s.heap.objs.size + 1)] rfl rfl (by decide +kernel) (by decide +kernel) rfl (by decide +kernel) rfl rfl (by intro p hp; simp only [Zag, ZaS, or_false] at hp; rcases hp with rfl <;> exact ⟨rfl, rfl, rfl, rfl⟩)) (ZkM (Zc8 Zc7 (cv 1) ZcY (fun _ _ => rfl))) (fun _ _ _ _ _ => Ze3) (fun _ _ _ _ _ => (ZdB (ZcW (Zgq hu (cv 1) (Zc8 Zc7 (cv 0) ZcY (fun _ _ => rfl)) (fun _ _ => rfl)) (ZcW (Zc8 Zc7 (cv 0) ZcY (fun _ _ => rfl)) Zc1)))))))
    Zdc)))
   Zdc)
  (Zc4 (Zdd ZfO))))))), ?_⟩
 have sl : sizeLine = 16777216 := sizeLine_eq
 have none_ : ∀ H2, Zdj H H2 -> ZhE u m = none -> Q .non H2 := fun H2 S e => q .non H2 S (by rw [e]; exact rfl)
 have some_ : ∀ a xs l H2, Zdj H H2 -> ZhE u m = some l -> H2 a = some (.lst xs) -> Ims H2 xs (l.map flD) -> Q (.ref a) H2 := fun a xs l H2 S e h1 h2 => q (.ref a) H2 S (by rw [e]; exact ⟨a, xs, rfl, h1, h2⟩)
 cases u with
 | num a p s1 =>
  obtain ⟨tu, xs, rfl, eu, hs⟩ := Zfw (r := []) (show Im H uv (.tup (hdD "num" a p s1 ++ [])) from huv)
  by_cases e : m.s = "num"
  ·obtain rfl := Mf.is_num e
   exact ZmW rfl eu rfl rfl em rfl ⟨(by show 0 <= sizeLine; decide), fun l hl => some_ _ _ [] _ (Zc2 hl _) rfl ZcX .nil⟩
  ·exact ZjW rfl eu rfl rfl em e (ZeS rfl eu (by decide +kernel) (ZeS rfl eu (by decide +kernel) (ZeS rfl eu (by decide +kernel) (ZeS rfl eu (by decide +kernel) (none_ _ (Zdj.refl _) (ZnY e))))))
 | call a p s1 y z =>
  obtain ⟨tu, xs, rfl, eu, hs⟩ := Zfw huv
  obtain rfl := ZlG hs
  refine ZeS rfl eu (by decide +kernel) ?_
  by_cases e : m.s = "fn"
  ·obtain ⟨x1, y1, rfl⟩ := Mf.is_fn e
   obtain ⟨t, xs, rfl, et, hs⟩ := ZeM hf
   obtain rfl := ZlG hs
   refine ZmW rfl eu rfl rfl em rfl ⟨_, eu, Zc3 (ZcZ (j := 4) rfl) ⟨_, em, Zc3 (ZcZ (j := 1) rfl) ⟨_, et, Zc3 (ZcZ (j := 0) rfl) ⟨(by show 2 <= sizeLine; decide), fun t1 h1 => ?_⟩⟩⟩⟩
   have S1 := Zc2 h1 (.tup [.int y, .int x1])
   refine ⟨_, S1 _ _ em, Zc3 (ZcZ (j := 1) rfl) ⟨_, S1 _ _ et, Zc3 (ZcZ (j := 1) rfl) ⟨_, S1 _ _ eu, Zc3 (ZcZ (j := 5) rfl) ⟨(by show 2 <= sizeLine; decide), fun t2 h2 => ⟨(by show 2 <= sizeLine; decide), fun l hl => ?_⟩⟩⟩⟩⟩
   exact some_ _ _ [(y, x1), (y1, z)] _ ((S1.trans (Zc2 h2 _)).trans (Zc2 hl _)) rfl ZcX (.cons (ZkA (Zc2 hl _ _ _ (Zc2 h2 _ _ _ ZcX))) (.cons (ZkA (Zc2 hl _ _ _ ZcX)) .nil))
  ·exact ZjW rfl eu rfl rfl em e (ZeS rfl eu (by decide +kernel) (ZeS rfl eu (by decide +kernel) (ZeS rfl eu (by decide +kernel) (none_ _ (Zdj.refl _) (ZpR e)))))
 | row a p s1 y =>
  obtain ⟨tu, xs, rfl, eu, hs⟩ := Zfw huv
  obtain rfl := ZpS hs
  refine ZeS rfl eu (by decide +kernel) (ZeS rfl eu (by decide +kernel) ?_)
  by_cases e : m.s = "row"
  ·obtain ⟨x1, rfl⟩ := Mf.is_row e
   obtain ⟨t, xs, rfl, et, hs⟩ := ZeM hf
   obtain rfl := ZpS hs
   refine ZmW rfl eu rfl rfl em rfl ⟨_, em, Zc3 (ZcZ (j := 1) rfl) ⟨_, et, Zc3 (ZcZ (j := 0) rfl) ⟨_, eu, Zc3 (ZcZ (j := 4) rfl) ⟨(by show 2 <= sizeLine; decide), fun t1 h1 => ⟨(by show 1 <= sizeLine; decide), fun l hl => ?_⟩⟩⟩⟩⟩
   exact some_ _ _ [(x1, y)] _ ((Zc2 h1 _).trans (Zc2 hl _)) rfl ZcX (.cons (ZkA (Zc2 hl _ _ _ ZcX)) .nil)
  ·exact ZjW rfl eu rfl rfl em e (ZeS rfl eu (by decide +kernel) (ZeS rfl eu (by decide +kernel) (none_ _ (Zdj.refl _) (Zn1 e))))
 | case a p s1 l =>
  obtain ⟨tu, xs, rfl, eu, hs⟩ := Zfw huv
  obtain ⟨g, rfl, hg⟩ : ∃ g, xs = [g] /\ Im H g (prD l) := by
   cases hs with | cons h1 hs => cases hs; exact ⟨_, rfl, h1⟩
  refine ZeS rfl eu (by decide +kernel) (ZeS rfl eu (by decide +kernel) (ZeS rfl eu (by decide +kernel) ?_))
  by_cases e : m.s = "tag"
  ·obtain ⟨w1, x1, rfl⟩ := Mf.is_tag e
   obtain ⟨t, xs, rfl, et, hs⟩ := ZeM hf
   obtain rfl := ZlG hs
   obtain ⟨tg, ys, rfl, eg, hys⟩ := ZeM hg
   have ly := hys.length
   rw [Zar] at ly
   refine ZmW rfl eu rfl rfl em rfl ⟨_, eu, Zc3 (ZcZ (j := 4) rfl) ⟨tg, rfl, ⟨_, SqT.of eg⟩, ZlW (xs := ys) (fun i σ H2 => ∃ (o : Option V), σ = [some (.ref tm), some (.ref tu), o, none] /\ H2 = H /\ lk (l.take i) w1 = none) ⟨none, rfl, rfl, rfl⟩ (fun i σ H2 _ ⟨_, _, e, _⟩ => by rw [e]; exact SqT.of eg) ?_ ?_⟩⟩
   ·rintro i v σ H2 hv ⟨o, rfl, rfl, hl⟩
    obtain ⟨pr, tt, e1, rfl, e2⟩ := ZjF hys hv
    refine ⟨_, e2, Zc3 (ZcZ (j := 0) rfl) ⟨_, em, Zc3 (ZcZ (j := 1) rfl) ⟨_, et, Zc3 (ZcZ (j := 0) rfl) ?_⟩⟩⟩
    dsimp only [cEq, onB]
    by_cases z : pr.1 = w1
    ·rw [decide_eq_true z]
     refine Zfh ⟨_, em, Zc3 (ZcZ (j := 1) rfl) ⟨_, et, Zc3 (ZcZ (j := 1) rfl) ⟨_, e2, Zc3 (ZcZ (j := 1) rfl) ⟨(by show 2 <= sizeLine; decide), fun t1 h1 => ⟨(by show 1 <= sizeLine; decide), fun l1 hl1 => ?_⟩⟩⟩⟩⟩
     refine some_ _ _ [(x1, pr.2)] _ ((Zc2 h1 _).trans (Zc2 hl1 _)) ?_ ZcX (.cons (ZkA (Zc2 hl1 _ _ _ ZcX)) .nil)
     show (lk l w1).map _ = _
     rw [Zp4 e1 hl z]
     rfl
    ·rw [decide_eq_false z]
     exact Zen ⟨_, rfl, rfl, ZmX e1 hl z⟩
   ·rintro σ H2 ⟨o, rfl, rfl, hl⟩
    rw [Zba (by omega)] at hl
    dsimp only [Ze1]
    refine ZeS rfl eu (by decide +kernel) ?_
    exact none_ _ (Zdj.refl _) (by show (lk l w1).map _ = none; rw [hl]; rfl)
  ·exact ZjW rfl eu rfl rfl em e (ZeS rfl eu (by decide +kernel) (none_ _ (Zdj.refl _) (Zn0 e)))
 | take a p s1 l =>
  obtain ⟨tu, xs, rfl, eu, hs⟩ := Zfw huv
  obtain ⟨g, rfl, hg⟩ : ∃ g, xs = [g] /\ Im H g (prD l) := by
   cases hs with | cons h1 hs => cases hs; exact ⟨_, rfl, h1⟩
  refine ZeS rfl eu (by decide +kernel) (ZeS rfl eu (by decide +kernel) (ZeS rfl eu (by decide +kernel) (ZeS rfl eu (by decide +kernel) ?_)))
  by_cases e : m.s = "rec"
  ·obtain ⟨m, rfl⟩ := Mf.is_rcd e
   obtain ⟨t, xs, rfl, et, hsm⟩ := ZeM hf
   obtain ⟨tg, ys, rfl, eg, hys⟩ := ZeM hg
   have ly := hys.length
   rw [Zar] at ly
   have hl10 : l.length <= 10 := uo
   refine ZmW rfl eu rfl rfl em rfl ⟨_, em, Zc3 (ZcZ (j := 1) rfl) ⟨t, xs, _, rfl, et, Znj hsm, by rw [Zar]; have := mo.1; omega, fun d hd => ?_⟩⟩
   have S1 := Zc2 hd (.dK (Zd5 [] ((m.map pI).map kf)))
   have ed : (upd H d (.dK (Zd5 [] ((m.map pI).map kf)))) d = some (.dK (Zd5 [] ((m.map pI).map kf))) := ZcX
   dsimp only [Zeq]
   generalize upd H d (.dK (Zd5 [] ((m.map pI).map kf))) = H1 at S1 ed ⊢
   have ev : ∀ w1, ZeO (Zd5 [] ((m.map pI).map kf)) (Sum.inr w1) = (lk m w1).map V.int := fun w1 => by
    rw [Zgd m [] w1 mo.2]
    cases lk m w1 <;> rfl
   have dg : ∀ {H5 : Hp} (w1 : Str), H5 d = some (.dK (Zd5 [] ((m.map pI).map kf))) -> ZgF H5 d (.str w1) ((lk m w1).map V.int) := fun w1 h5 => by rw [<- ev]; exact ZgF.k (k := (Sum.inr w1 : Key)) h5
   have eg1 := S1 _ _ eg
   have eu1 := S1 _ _ eu
   have i4 : atI ([V.str "take", .int a, .int p, .int s1] ++ [V.ref tg]) 4 = some (.ref tg) := ZcZ (j := 4) rfl
   refine ⟨_, eu1, Zc3 i4 ⟨tg, rfl, ⟨_, SqT.of eg1⟩, fun D hD => ?_⟩⟩
   refine ZfQ ys.length (by omega) (fun xs _ => xs = ((l.take xs.length).map fun p => (lk m p.1).isSome).map V.bl) (fun _ _ _ h _ => h) hD rfl (fun k H2 S hk => ZnR eg1 S hk) (fun H2 S => ZnS eg1 S) (by simp) ?_ ?_
   ·rintro k H2 v H3 xs Z S hk ⟨rfl, hv⟩ hxs hl z
    obtain ⟨pr, tt, e1, rfl, e2⟩ := ZjF (hys.mono (Zdj.tk S1)) (hv _ (SqT.of (S _ _ eg1)))
    refine ⟨_, S _ _ e2, Zc3 (ZcZ (j := 0) rfl) ⟨d, _, rfl, dg pr.1 (S _ _ ed), z _ _ (Zdj.refl _) ?_⟩⟩
    rw [ZaC, ZaL, hl, ZgV e1, ZaZ, ZaZ, <- hl, <- hxs, ZbU]
    rfl
   ·rintro H2 xs S hxs hl eD
    have hxs' : xs = (l.map fun p => (lk m p.1).isSome).map V.bl := by rw [hxs, hl, Zba (by omega)]
    refine ⟨D, l.map fun p => (lk m p.1).isSome, rfl, SqL.of (by rw [eD, hxs']), _, rfl, ?_⟩
    have S12 := S1.trans S
    by_cases hall : ∀ p ∈ l, lk m p.1 ≠ none
    ·have hb : ((l.map fun p => (lk m p.1).isSome).all id) = true := by
      rw [Zbu]
      intro b hb
      obtain ⟨p, hp, rfl⟩ := ZaT.mp hb
      cases h : lk m p.1 with
      | none => exact absurd h (hall p hp)
      | some x => rfl
     rw [hb]
     refine Zfh ⟨_, S _ _ eu1, Zc3 i4 ⟨tg, rfl, ⟨_, SqT.of (S _ _ eg1)⟩, fun D2 hD2 => ?_⟩⟩
     refine ZfQ ys.length (by omega) (fun xs H9 => Ims H9 xs (((l.take xs.length).filterMap (fnd m)).map flD)) (fun _ _ _ h s => h.mono s) hD2 rfl (fun k H3 S3 hk => ZnR (S _ _ eg1) S3 hk) (fun H3 S3 => ZnS (S _ _ eg1) S3) .nil ?_ ?_
     ·rintro k H3 v H4 xs Z S3 hk ⟨rfl, hv⟩ hin hl z
      obtain ⟨pr, tt, e1, rfl, e2⟩ := ZjF (hys.mono (Zdj.tk S12)) (hv _ (SqT.of (S3 _ _ (S _ _ eg1))))
      cases hx : lk m pr.1 with
      | none => exact absurd hx (hall pr (ZaB e1))
      | some x =>
       refine ⟨_, S3 _ _ e2, Zc3 (ZcZ (j := 0) rfl) ⟨d, .int x, rfl, (by have := dg pr.1 (S3 _ _ (S _ _ ed)); rw [hx] at this; exact this), _, S3 _ _ e2, Zc3 (ZcZ (j := 1) rfl) ⟨(by show 2 <= sizeLine; decide), fun t1 h1 => z _ _ (Zc2 h1 _) (by rw [ZaC, ZaL, hl, Zis e1 hx, ZaZ, <- hl]; exact (hin.mono (Zdj.tk (Zc2 h1 _))).app (.cons (ZkA ZcX) .nil))⟩⟩⟩
     ·rintro H3 xs S3 hin hl e3
      rw [hl, Zba (by omega)] at hin
      exact some_ _ _ _ _ (S12.trans S3) (ZmY hall) e3 hin
    ·obtain ⟨p, hp, hn⟩ : ∃ p ∈ l, lk m p.1 = none := by
      apply Classical.byContradiction
      intro h
      exact hall fun p hp hn => h ⟨p, hp, hn⟩
     have hb : ((l.map fun p => (lk m p.1).isSome).all id) = false := by
      rw [Bool.eq_false_iff]
      intro h
      rw [Zbu] at h
      have := h (lk m p.1).isSome (ZaT.mpr ⟨p, hp, rfl⟩)
      rw [hn] at this
      cases this
     rw [hb]
     exact Zen (none_ _ S12 (Zip hp hn))
  ·exact ZjW rfl eu rfl rfl em e (none_ _ (Zdj.refl _) (ZnZ e))
end
mutual
theorem ZoR {K : PySem.W.Frag} {H : Hp} : ∀ {v : V} {d : Dt}, Im H v d -> At K H v d
 | v, _, .flat h => .flat (by cases v <;> first | rfl | cases h)
 | _, _, .tup h hs => .tup (SqT.of h) (Zga hs)
theorem Zga {K : PySem.W.Frag} {H : Hp} : ∀ {v : List V} {d : List Dt}, Ims H v d -> Ats K H v d
 | _, _, .nil => .nil
 | _, _, .cons h hs => .cons (ZoR h) (Zga hs)
end
theorem Zp5 : ∀ l : List (Int × Int), Zha (l.map flD) (l.map flD) = true /\ ZfA (l.map flD) (l.map flD) = true
 | [] => ⟨by rw [ZaH, Zha], by rw [ZaH, ZfA]; all_goals simp⟩
 | p :: t => by
  obtain ⟨h1, h2⟩ := Zp5 t
  refine ⟨?_, ?_⟩
  ·rw [Zaq, Zha, h1]
   simp [flD, eqD, Zha, eqV]
  ·rw [Zaq, ZfA, h2]
   simp [flD, ZfU, ZfA]
theorem Zp6 (l : List (Int × Int)) : ZgI (.lst (l.map flD)) <= 100 := by
 have : ZfC (l.map flD) <= 1 := ZgK fun p _ => by simp [flD, ZgI, ZfC]
 show ZfC (l.map flD) + 1 <= 100
 omega
theorem ZoS : ∀ l : List Rw, Zha (l.map Rw.d) (l.map Rw.d) = true /\ ZfA (l.map Rw.d) (l.map Rw.d) = true
 | [] => ⟨by rw [ZaH, Zha], by rw [ZaH, ZfA]; all_goals simp⟩
 | ⟨w, a, b, y⟩ :: t => by
  obtain ⟨h1, h2⟩ := ZoS t
  refine ⟨?_, ?_⟩
  ·rw [Zaq, Zha, h1]
   cases y <;> simp [Rw.d, ZjH, flD, eqD, Zha, eqV]
  ·rw [Zaq, ZfA, h2]
   cases y <;> simp [Rw.d, ZjH, flD, ZfU, ZfA]
theorem Zp7 (l : List Rw) : ZgI (.lst (l.map Rw.d)) <= 100 := by
 have : ∀ p ∈ l, ZgI (Rw.d p) <= 2 := fun p _ => by
  obtain ⟨w, a, b, y⟩ := p
  cases y <;> simp [Rw.d, ZjH, flD, ZgI, ZfC]
 have : ZfC (l.map Rw.d) <= 2 := ZgK this
 show ZfC (l.map Rw.d) + 1 <= 100
 omega
noncomputable def _root_.BO.Internal.Rw.k2 (r : Rw) : List Key := [.inl r.a, .inl r.b]
section
variable {R : List Rw} {q : List Key} {v : V} {f : Rw -> List Key}
end
theorem ZhX {r : Rw} : ∀ {l R : List Rw}, r ∈ Zfn R l -> r ∈ R \/ r ∈ l
 | [], R, h => .inl h
 | ρ :: l, R, h => by
  rcases ZhX (l := l) (R := ZkZ R ρ) h with h | h
  ·unfold ZkZ at h
   split at h
   ·exact .inl h
   ·rcases Zah.mp h with h | h
    ·exact .inl h
    ·simp only [ZaM] at h
     exact .inr (by simp [h])
  ·exact .inr (by simp [h])
def Cau (us : List Us) (ms : List Mk3) (Rp : List Rw) (ρ : Rw) : Prop := ∃ (n1 n2 : Int) (i j : Nat) (m p : Int) (y : Option (Int × Int)), ρ.y = some (n1, n2) /\ n1 = i /\ n2 = j /\ Rp[i]? = some ⟨false, m, p, y⟩ /\ match ρ.w with
 | true => ∃ (u : Us) (mk : Mk3) (l : List (Int × Int)), us[j]? = some u /\ u.at = p /\ ms[m.toNat]? = some mk /\ ZhE u mk.f = some l /\ (ρ.a, ρ.b) ∈ l
 | false => m = ρ.a /\ ∃ y', Rp[j]? = some ⟨true, p, ρ.b, y'⟩
theorem ZhY {α : Type} {R S : List α} {i : Nat} {x : α} (h : R[i]? = some x) : (R ++ S)[i]? = some x := by
 rw [Zaz (Zaj.mp h).1]
 exact h
theorem Cau.app {us : List Us} {ms : List Mk3} {R : List Rw} {ρ : Rw} (h : Cau us ms R ρ) (S : List Rw) : Cau us ms (R ++ S) ρ := by
 obtain ⟨n1, n2, i, j, m, p, y, e1, e2, e3, e4, h⟩ := h
 refine ⟨n1, n2, i, j, m, p, y, e1, e2, e3, ZhY e4, ?_⟩
 cases hw : ρ.w with
 | true => rw [hw] at h; exact h
 | false =>
  rw [hw] at h
  obtain ⟨h1, y', h2⟩ := h
  exact ⟨h1, y', ZhY h2⟩
structure Cz (us : List Us) (ms : List Mk3) (R0 R : List Rw) : Prop where
 pre : ∃ more, R = R0 ++ more
 cau : ∀ (i : Nat) (ρ : Rw), R0.length <= i -> R[i]? = some ρ -> Cau us ms (R.take i) ρ
section
variable {us : List Us} {ms : List Mk3} {R0 R : List Rw}
theorem Cz.put (c : Cz us ms R0 R) {ρ : Rw} (h : Cau us ms R ρ) : Cz us ms R0 (ZkZ R ρ) := by
 unfold ZkZ
 split
 ·exact c
 ·obtain ⟨more, e⟩ := c.pre
  refine ⟨⟨more ++ [ρ], by rw [e, Za1]⟩, fun i r hi hr => ?_⟩
  by_cases hl : i < R.length
  ·rw [Zaz hl] at hr
   rw [Zbv (ZbB hl)]
   exact c.cau i r hi hr
  ·have := (Zaj.mp hr).1
   rw [ZaC, ZaL] at this
   have ei : i = R.length := by omega
   subst ei
   rw [Zbt] at hr
   cases hr
   rw [Zbv (ZbD _), Za9]
   exact h
theorem Cz.puts : ∀ {l R : List Rw}, Cz us ms R0 R -> (∀ ρ ∈ l, Cau us ms R ρ) -> Cz us ms R0 (Zfn R l)
 | [], R, c, _ => c
 | ρ :: l, R, c, h => by
  obtain ⟨more, e⟩ := Zk0 R ρ
  refine Cz.puts (l := l) (R := ZkZ R ρ) (c.put (h ρ (by simp))) fun r hr => ?_
  rw [e]
  exact (h r (by simp [hr])).app more
theorem Cz.uses {k : Nat} {m p : Int} {y : Option (Int × Int)} : ∀ {L : List Int} {R : List Rw}, Cz us ms R0 R -> R[k]? = some ⟨false, m, p, y⟩ -> (∀ x ∈ L, ∃ j : Nat, x = j /\ atU us j = some p) -> Cz us ms R0 (ZhV us ms m (k : Int) R L)
 | [], R, c, _, _ => c
 | x :: L, R, c, hk, h => by
  obtain ⟨j, rfl, ha⟩ := h x (by simp)
  obtain ⟨more, e⟩ := Zlc us ms m (k : Int) R (j : Int)
  refine Cz.uses (L := L) (R := Zm2 us ms m (k : Int) R (j : Int)) ?_ (by rw [e]; exact ZhY hk) fun x hx => h x (by simp [hx])
  unfold Zm2
  rw [ZcK]
  unfold atU at ha
  cases hu : us[j]? with
  | none => rw [hu] at ha; cases ha
  | some u =>
   rw [hu] at ha
   cases hm : ms[m.toNat]? with
   | none => exact c
   | some mk =>
    dsimp only
    cases hl : ZhE u mk.f with
    | none => exact c
    | some l =>
     refine c.puts fun ρ hρ => ?_
     obtain ⟨q, hq, rfl⟩ := ZaT.mp hρ
     exact ⟨_, _, k, j, m, p, y, rfl, rfl, rfl, hk, u, mk, l, hu, ZbR.inj ha, hm, hl, hq⟩
theorem Cz.step (c : Cz us ms R0 R) {k : Nat} {ρ : Rw} (hk : R[k]? = some ρ) : Cz us ms R0 (Zkv us ms R k ρ) := by
 obtain ⟨w, a, b, y⟩ := ρ
 unfold Zkv
 cases w with
 | true =>
  dsimp only
  refine c.puts fun r hr => ?_
  obtain ⟨h, hh, rfl⟩ := ZaT.mp hr
  obtain ⟨n, y1, e1, _, e2⟩ := Zms hh
  exact ⟨_, _, n, k, h.2, a, y1, rfl, e1, rfl, e2, rfl, y, hk⟩
 | false =>
  dsimp only
  have c1 := c.uses hk (L := ixn (atU us) b us.length) fun x hx => let ⟨j, e1, _, e2⟩ := Zkj hx; ⟨j, e1, e2⟩
  obtain ⟨more, e⟩ := Zf7 us ms a (k : Int) (ixn (atU us) b us.length) R
  refine c1.puts fun r hr => ?_
  obtain ⟨h, hh, rfl⟩ := ZaT.mp hr
  obtain ⟨n, y1, e1, _, e2⟩ := Zmr hh
  rw [e]
  exact ⟨_, _, k, n, a, b, y, rfl, rfl, e1, ZhY hk, rfl, y1, ZhY e2⟩
theorem ZnA {k : Nat} (h : Zkw us ms R0 k R) : Cz us ms R0 R := by
 induction h with
 | zero => exact ⟨⟨[], (Zas _).symm⟩, fun i ρ hi hr => absurd (Zaj.mp hr).1 (by omega)⟩
 | step _ hk ih => exact ih.step hk
end
theorem ZkD {H : Hp} : ∀ {xs : List V} {ds : List Dt} {j : Nat} {x : V}, Ims H xs ds -> xs[j]? = some x -> ∃ d, ds[j]? = some d /\ Im H x d
 | _, _, 0, _, .cons h _, e => ⟨_, rfl, by cases e; exact h⟩
 | _, _, j + 1, _, .cons _ t, e => by
  rw [ZaU] at e
  obtain ⟨d, e1, e2⟩ := ZkD t e
  exact ⟨d, by rw [ZaU]; exact e1, e2⟩
theorem Zp8 {H : Hp} {v : V} {u : Us} (h : Im H v u.d) : ∃ t s r, v = .ref t /\ H t = some (.tup (.str s :: .int u.at :: r)) := by
 cases u with
 | num a p s => obtain ⟨t, xs, rfl, e, _⟩ := Zfw (r := []) (show Im H v (.tup (hdD "num" a p s ++ [])) from h); exact ⟨t, _, _, rfl, e⟩
 | call a p s y z => obtain ⟨t, xs, rfl, e, _⟩ := Zfw h; exact ⟨t, _, _, rfl, e⟩
 | take a p s l => obtain ⟨t, xs, rfl, e, _⟩ := Zfw h; exact ⟨t, _, _, rfl, e⟩
 | case a p s l => obtain ⟨t, xs, rfl, e, _⟩ := Zfw h; exact ⟨t, _, _, rfl, e⟩
 | row a p s y => obtain ⟨t, xs, rfl, e, _⟩ := Zfw h; exact ⟨t, _, _, rfl, e⟩
section
variable {P : Program} {w : World} {K : PySem.W.Frag} {mg : Str -> Option Value} {base : Heap}
def Zjc : Sp := fun vs H Q _ => ∃ n : Int, vs = [.int n] /\ Q (.bl true) H
theorem ZgW (T : Txt K mg) : Ze0 P w K mg base CX0 1 T.a_whole T.fd_whole ["_law_x"] Zjc := by
 refine T.F_whole.ok ZiQ (fun vs H Q E h => ?_) (fun cdv A outer s H vs Q E hr h => ?_)
 ·obtain ⟨n, rfl, _⟩ := h
  rfl
 obtain ⟨n, rfl, q⟩ := h
 refine ⟨_, (Zc4 (Zdd (Zgh (Zdq ZfI rfl T.z_isinstance Zee (ZcW (cv 0) (ZcW (ZhB rfl T.z_int Zpx) Zc1))) (Zii (Zo8 (Zdq ZfI rfl T.z_isinstance Zee (ZcW (cv 0) (ZcW (ZhB rfl T.z_bool Zon) Zc1)))))))), ?_⟩
 exact ⟨_, _, _, _, true, rfl, fun _ r => r, .int n, rfl, _, rfl, Zfh ⟨_, _, _, _, false, rfl, fun _ r => r, .int n, rfl, _, rfl, q⟩⟩
def ZjX : Sp := fun vs H Q _ => ∃ (t : Addr) (a b : Int), vs = [.ref t] /\ H t = some (.tup [.int a, .int b]) /\ Q (.bl true) H
theorem ZjY (T : Txt K mg) : Ze0 P w K mg base CX0 2 T.a_pair T.fd_pair ["_law_x"] ZjX := by
 have G_whole := ZgW (P := P) (w := w) (base := base) T
 refine T.F_pair.ok ZjM (fun vs H Q E h => ?_) (fun cdv A outer s H vs Q E hr h => ?_)
 ·obtain ⟨t, a, b, rfl, _⟩ := h
  rfl
 obtain ⟨t, a, b, rfl, e, q⟩ := h
 refine ⟨_, (Zc4 (Zdd (Zgh (Zdq ZfI rfl T.z_isinstance Zee (ZcW (cv 0) (ZcW (ZhB rfl T.z_tuple ZiC) Zc1))) (Zgh (Zfz Zd7 (Zdq Zdw rfl T.z_len Zfo (ZcW (cv 0) Zc1)) ZcY (Zdk _)) (Zgh (Zdl G_whole (hr.mono (by decide)) rfl T.m_whole T.k_whole T.b_whole .nil Zdp (ZcW (Zc8 Zc7 (cv 0) ZcY (fun _ _ => rfl)) Zc1)) (Zii (Zdl G_whole (hr.mono (by decide)) rfl T.m_whole T.k_whole T.b_whole .nil Zdp (ZcW (Zc8 Zc7 (cv 0) ZcY (fun _ _ => rfl)) Zc1)))))))), ?_⟩
 refine ⟨_, _, _, _, true, rfl, fun _ r => r, .tup e, rfl, _, rfl, Zfh ⟨t, _, rfl, .inr (SqT.of e), _, rfl, ?_⟩⟩
 refine Zfh ⟨_, e, Zc3 (ZcZ (j := 0) rfl) ⟨a, rfl, _, rfl, Zfh ⟨_, e, Zc3 (ZcZ (j := 1) rfl) ⟨b, rfl, q⟩⟩⟩⟩
def Zia : Sp := fun vs H Q _ => ∃ (r : Addr) (rv : List V) (R : List Rw), vs = [.ref r] /\ H r = some (.lst rv) /\ Ims H rv (R.map Rw.d) /\ Q (.bl true) H
theorem Zgo (T : Txt K mg) : Ze0 P w K mg base CX0 3 T.a_shaped T.fd_shaped ["_law_rows"] Zia := by
 have G_whole := ZgW (P := P) (w := w) (base := base) T
 have G_pair := ZjY (P := P) (w := w) (base := base) T
 refine T.F_shaped.ok Zgl (fun vs H Q E h => ?_) (fun cdv A outer s H vs Q E hr h => ?_)
 ·obtain ⟨r, rv, R, rfl, _⟩ := h
  rfl
 obtain ⟨r, rv, R, rfl, er, hR, q⟩ := h
 refine ⟨_, (Zc0 (Zdz (Zff (ZfB (Zdq ZfI rfl T.z_isinstance Zee (ZcW (cv 0) (ZcW (ZhB rfl T.z_list Zgr) Zc1)))))
   (Zc4 (Zdd Zfl))
   Zdc)
  (Zc0 (Zet PassesOwn.never rfl (Zd0 (cv 0)) (ZdG (i := 1) Zgl.nd rfl (.inl rfl))
   (Zc0 (Zdz (PW.pt (Zhr (Zff (ZfB (Zdq ZfI rfl T.z_isinstance Zee (ZcW (cv 1) (ZcW (ZhB rfl T.z_tuple ZiC) Zc1))))) (Zhr (Zdb ZjG (Zdq Zdw rfl T.z_len Zfo (ZcW (cv 1) Zc1)) ZcY (Zdk _)) (Zg8 (Zff (ZfB (Zdq ZfI rfl T.z_isinstance Zee (ZcW (Zc8 Zc7 (cv 1) ZcY (fun _ _ => rfl)) (ZcW (ZhB rfl T.z_str Zpy) Zc1)))))))))
    (Zc4 (Zdd Zfl))
    Zdc)
   (Zc0 (Zdz (PW.pt (ZfV (Zdb ZjG (Zc8 Zc7 (cv 1) ZcY (fun _ _ => rfl)) Zdm (Zdk _)) (Zfs (Zdb ZjG (Zc8 Zc7 (cv 1) ZcY (fun _ _ => rfl)) Zdm (Zdk _)))))
    (Zc4 (Zdd Zfl))
    Zdc)
   (Zc0 (Zdz (PW.pt (Zhr (Zff (ZfB (Zdl G_whole (hr.mono (by decide)) rfl T.m_whole T.k_whole T.b_whole .nil Zdp (ZcW (Zc8 Zc7 (cv 1) ZcY (fun _ _ => rfl)) Zc1)))) (Zg8 (Zff (ZfB (Zdl G_whole (hr.mono (by decide)) rfl T.m_whole T.k_whole T.b_whole .nil Zdp (ZcW (Zc8 Zc7 (cv 1) ZcY (fun _ _ => rfl)) Zc1)))))))
    (Zc4 (Zdd Zfl))
    Zdc)
   (Zc4 (Zdz (PW.pt (ZfV (ZfP (Ziv (Zc8 Zc7 (cv 1) ZcY (fun _ _ => rfl)))) (Zfs (Zff (ZfB (Zdl G_pair (hr.mono (by decide)) rfl T.m_pair T.k_pair T.b_pair .nil Zdp (ZcW (Zc8 Zc7 (cv 1) ZcY (fun _ _ => rfl)) Zc1)))))))
    (Zc4 (Zdd Zfl))
    Zdc))))))
  (Zc4 (Zdd Zfl)))), ?_⟩
 refine ⟨_, _, _, _, true, rfl, fun _ r => r, .lst er, rfl, _, rfl, Zen ?_⟩
 refine ⟨r, rfl, ⟨_, SqL.of er⟩, Zea (xs := rv) (fun i σ H2 => ∃ (o : Option V), σ = [some (.ref r), o] /\ H2 = H) ⟨none, rfl, rfl⟩ (fun i σ H2 _ ⟨_, _, e⟩ => by rw [e]; exact SqL.of er) ?_ ?_⟩
 ·rintro i v σ H2 hv ⟨o, rfl, rfl⟩
  have hl := hR.length
  rw [Zar] at hl
  have hi := (Zaj.mp hv).1
  obtain ⟨ρ, hρ⟩ : ∃ ρ, R[i]? = some ρ := ⟨_, ZaQ (by omega)⟩
  obtain ⟨t, wv, h1, e, hw⟩ := ZfF hR hρ
  rw [hv] at h1
  cases h1
  refine ⟨_, _, _, _, true, rfl, fun _ r => r, .tup e, rfl, _, rfl, Zen ⟨t, _, rfl, .inr (SqT.of e), ?_⟩⟩
  dsimp only [tC, cEq, onB]
  rw [show (xor true (decide (((([V.str (wd ρ.w), V.int ρ.a, V.int ρ.b, wv] : List V).length : Nat) : Int) = 4))) = false from rfl]
  refine Zen ⟨_, e, Zc3 (ZcZ (j := 0) rfl) ⟨_, _, _, _, true, rfl, fun _ r => r, .str _, rfl, _, rfl, Zen ?_⟩⟩
  obtain ⟨w', a, b, y⟩ := ρ
  dsimp only at e hw
  refine ⟨_, e, Zc3 (ZcZ (j := 0) rfl) ?_⟩
  dsimp only [tC, cEq, onB]
  cases w' with
  | true =>
   rw [show (xor true (decide (wd true = ("goes" : Str)))) = false by decide +kernel]
   refine Zen (Zen ⟨_, e, Zc3 (ZcZ (j := 1) rfl) ⟨a, rfl, _, rfl, Zen ⟨_, e, Zc3 (ZcZ (j := 2) rfl) ⟨b, rfl, _, rfl, Zen ⟨_, e, Zc3 (ZcZ (j := 3) rfl) ?_⟩⟩⟩⟩⟩)
   cases y with
   | none => cases hw; exact ⟨false, by rw [decide_eq_true rfl]; rfl, Zen (Zen ⟨_, rfl, rfl⟩)⟩
   | some p =>
    obtain ⟨tw, xs, rfl, ew, hs⟩ := ZeM hw
    obtain rfl := ZlG hs
    exact ⟨true, by rw [decide_eq_false (fun h => nomatch h)]; rfl, Zfh ⟨_, e, Zc3 (ZcZ (j := 3) rfl) ⟨tw, _, _, rfl, ew, _, rfl, Zen ⟨_, rfl, rfl⟩⟩⟩⟩
  | false =>
   rw [show (xor true (decide (wd false = ("goes" : Str)))) = true by decide +kernel]
   refine Zfh ⟨_, e, Zc3 (ZcZ (j := 0) rfl) ?_⟩
   dsimp only [tC, cEq, onB]
   rw [show (xor true (decide (wd false = ("here" : Str)))) = false by decide +kernel]
   refine Zen ⟨_, e, Zc3 (ZcZ (j := 1) rfl) ⟨a, rfl, _, rfl, Zen ⟨_, e, Zc3 (ZcZ (j := 2) rfl) ⟨b, rfl, _, rfl, Zen ⟨_, e, Zc3 (ZcZ (j := 3) rfl) ?_⟩⟩⟩⟩⟩
   cases y with
   | none => cases hw; exact ⟨false, by rw [decide_eq_true rfl]; rfl, Zen (Zen ⟨_, rfl, rfl⟩)⟩
   | some p =>
    obtain ⟨tw, xs, rfl, ew, hs⟩ := ZeM hw
    obtain rfl := ZlG hs
    exact ⟨true, by rw [decide_eq_false (fun h => nomatch h)]; rfl, Zfh ⟨_, e, Zc3 (ZcZ (j := 3) rfl) ⟨tw, _, _, rfl, ew, _, rfl, Zen ⟨_, rfl, rfl⟩⟩⟩⟩
 ·rintro σ H2 ⟨o, rfl, rfl⟩
  exact q
end
theorem ZgX {α : Type} {R : List α} {k i : Nat} {x : α} (h : (R.take k)[i]? = some x) : i < k /\ R[i]? = some x := by
 rw [Zbf] at h
 split at h
 ·exact ⟨by assumption, h⟩
 ·cases h
theorem xn_f : (xor true (decide (wd false = ("here" : Str)))) = false := by decide +kernel
section
variable {P : Program} {w : World} {K : PySem.W.Frag} {mg : Str -> Option Value} {base : Heap}
def Zib : Sp := fun vs H Q _ => ∃ (th q0 q1 q2 q3 r : Addr) (pts : List Int) (ms : List Mk3) (us : List Us) (fs : List (Int × Int)) (rv : List V) (R : List Rw) (N : Int) (k : Nat) (ρ : Rw), vs = [.ref th, .ref r, .int (k : Int)] /\ Th H th q0 q1 q2 q3 pts ms us fs /\ H r = some (.lst rv) /\ Ims H rv (R.map Rw.d) /\ R[k]? = some ρ /\ Cau us ms (R.take k) ρ /\ (∀ r ∈ R, r.ok N ms.length) /\ (∀ m ∈ ms, m.f.ok) /\ (∀ u ∈ us, u.ok) /\
 ∀ H', Zdj H H' -> Q (.bl true) H'
theorem Zic (T : Txt K mg) : Ze0 P w K mg base CX0 5 T.a_caused T.fd_caused ["_law_things_here", "_law_rows", "_law_number"] Zib := by
 have G_met := ZkC (P := P) (w := w) (base := base) T
 refine T.F_caused.ok Zep (fun vs H Q E h => ?_) (fun cdv A outer s H vs Q E hr h => ?_)
 ·obtain ⟨th, q0, q1, q2, q3, r, pts, ms, us, fs, rv, R, N, k, ρ, rfl, _⟩ := h
  rfl
 have hu := ZhA hr
 obtain ⟨th, q0, q1, q2, q3, r, pts, ms, us, fs, rv, R, N, k, ⟨w', a, b, yy⟩, rfl, hT, er, hR, hk, hc, hok, mo, uo, q⟩ := h
 refine ⟨_, (Zc0 (Zdn (i := 3) Zep.nd rfl (.inl rfl) (Zc8 Zde (cv 1) (cv 2) (fun _ _ => rfl)))
  (Zc0 (Zdn (i := 4) Zep.nd rfl (.inl rfl) (Zc8 Zc7 (cv 3) ZcY (fun _ _ => rfl)))
  (Zc0 (Zdz (Zff (ZgE Zl1 Zln ZcY (Zc8 Zc7 (cv 4) ZcY (fun _ _ => rfl)) (cv 2)))
   (Zc4 (Zdd Zfl))
   Zdc)
  (Zc0 (Zdn (i := 5) Zep.nd rfl (.inl rfl) (Zc8 Zde (cv 1) (Zc8 Zc7 (cv 4) ZcY (fun _ _ => rfl)) (fun _ _ => rfl)))
  (Zc0 (Zdz (PW.pt (Zhr (Zdb ZjG (Zc8 Zc7 (cv 5) ZcY (fun _ _ => rfl)) Zdm (Zdk _)) (Zg8 (Zff (ZgE Zl1 Zln ZcY (Zc8 Zc7 (cv 5) ZcY (fun _ _ => rfl)) (Zdq Zdw rfl T.z_len Zfo (ZcW (Zc8 Zde (cv 0) ZcY (fun _ _ => rfl)) Zc1)))))))
   (Zc4 (Zdd Zfl))
   Zdc)
  (Zc0 (Zdz (Zdb Zd7 (Zc8 Zc7 (cv 3) ZcY (fun _ _ => rfl)) Zdm (Zdk _))
   (Zc0 (Zdz (PW.pt (Zhr (Zff (ZgE Zl1 Zln ZcY (Zc8 Zc7 (cv 4) ZcY (fun _ _ => rfl)) (Zdq Zdw rfl T.z_len Zfo (ZcW (Zc8 Zde (cv 0) ZcY (fun _ _ => rfl)) Zc1)))) (Zg8 (Zdb ZjG (Zc8 Zc7 (Zc8 Zde (Zc8 Zde (cv 0) ZcY (fun _ _ => rfl)) (Zc8 Zc7 (cv 4) ZcY (fun _ _ => rfl)) (fun _ _ => rfl)) ZcY (fun _ _ => rfl)) (Zc8 Zc7 (cv 5) ZcY (fun _ _ => rfl)) (Zdk _)))))
    (Zc4 (Zdd Zfl))
    Zdc)
   (Zc0 (Zdn (i := 6) Zep.nd rfl (.inl rfl) (Zdl G_met (hr.mono (by decide)) rfl T.m_met T.k_met T.b_met .nil Zdp (ZcW (Zc8 Zde (Zc8 Zde (cv 0) ZcY (fun _ _ => rfl)) (Zc8 Zc7 (cv 5) ZcY (fun _ _ => rfl)) (fun _ _ => rfl)) (ZcW (Zc8 Zde (Zc8 Zde (cv 0) ZcY (fun _ _ => rfl)) (Zc8 Zc7 (cv 4) ZcY (fun _ _ => rfl)) (fun _ _ => rfl)) Zc1))))
   (Zc4 (Zdd (Zgh (ZlT (Ziv (cv 6))) (Zii (Zfz (ZpI hr) (ZdB (ZcW (Zc8 Zc7 (cv 3) ZcY (fun _ _ => rfl)) (ZcW (Zc8 Zc7 (cv 3) ZcY (fun _ _ => rfl)) Zc1))) (cv 6) rfl)))))))
   Zdc)
  (Zc0 (Zdz (Zff (ZgE Zl1 Zln ZcY (Zc8 Zc7 (cv 4) ZcY (fun _ _ => rfl)) (cv 2)))
   (Zc4 (Zdd Zfl))
   Zdc)
  (Zc0 (Zdn (i := 7) Zep.nd rfl (.inl rfl) (Zc8 Zde (cv 1) (Zc8 Zc7 (cv 4) ZcY (fun _ _ => rfl)) (fun _ _ => rfl)))
  (Zc4 (Zdd (Zgh (Zfz Zd7 (Zc8 Zc7 (cv 7) ZcY (fun _ _ => rfl)) Zdm (Zdk _)) (Zgh (Zfz Zd7 (Zc8 Zc7 (cv 7) ZcY (fun _ _ => rfl)) (Zc8 Zc7 (cv 5) ZcY (fun _ _ => rfl)) (Zdk _)) (Zgh (Zfz Zd7 (Zc8 Zc7 (cv 7) ZcY (fun _ _ => rfl)) (Zc8 Zc7 (cv 3) ZcY (fun _ _ => rfl)) (Zdk _)) (Zii (Zfz Zd7 (Zc8 Zc7 (cv 5) ZcY (fun _ _ => rfl)) (Zc8 Zc7 (cv 3) ZcY (fun _ _ => rfl)) (Zdk _)))))))))))))))), ?_⟩
 have sl : sizeLine = 16777216 := sizeLine_eq
 obtain ⟨et, _, ⟨mv, em, im⟩, ⟨uv, eu, iu⟩, _⟩ := hT
 have lmv := im.length
 have luv := iu.length
 rw [Zar] at lmv luv
 obtain ⟨n1, n2, i, j, m, p, y, ey, rfl, rfl, hi, hc⟩ := hc
 dsimp only at ey hc
 subst ey
 obtain ⟨hik, hi⟩ := ZgX hi
 obtain ⟨t, wv, h1, h2, hw⟩ := ZfF hR hk
 dsimp only at h2 hw
 obtain ⟨tw, xs, rfl, ew, hs⟩ := ZeM hw
 obtain rfl := ZlG hs
 obtain ⟨t1, wv1, g1, g2, _⟩ := ZfF hR hi
 dsimp only at g2
 obtain ⟨o1, o2, _, _⟩ := hok _ (ZaB hi)
 dsimp only at o1 o2
 refine ⟨_, er, Zc3 (ZcZ h1) ⟨_, h2, Zc3 (ZcZ (j := 3) rfl) ⟨_, ew, Zc3 (ZcZ (j := 0) rfl) ⟨_, _, rfl, rfl, _, rfl, ?_⟩⟩⟩⟩
 rw [decide_eq_true (show (0 : Int) <= (i : Int) by omega)]
 refine Zfh ⟨_, _, rfl, rfl, _, rfl, ?_⟩
 rw [decide_eq_true (show (i : Int) < (k : Int) by omega)]
 refine Zen ⟨_, ew, Zc3 (ZcZ (j := 0) rfl) ⟨_, er, Zc3 (ZcZ g1) ⟨_, g2, Zc3 (ZcZ (j := 0) rfl) ?_⟩⟩⟩
 dsimp only [tC, cEq, onB]
 rw [xn_f]
 refine Zen ⟨_, g2, Zc3 (ZcZ (j := 1) rfl) ⟨_, _, rfl, rfl, _, rfl, ?_⟩⟩
 rw [decide_eq_true o1]
 refine Zfh ⟨_, et, Zc3 (ZcZ (j := 1) rfl) ⟨q1, _, rfl, .inl (SqL.of em), _, _, rfl, rfl, _, rfl, ?_⟩⟩
 rw [decide_eq_true (show m < ((mv.length : Nat) : Int) by omega)]
 refine Zen ⟨_, h2, Zc3 (ZcZ (j := 0) rfl) ?_⟩
 dsimp only [tC, cEq, onB]
 cases w' with
 | true =>
  rw [Zq2]
  obtain ⟨u, mk, l, hu1, hat, hmk, hme, hab⟩ := hc
  have hjl := (Zaj.mp hu1).1
  obtain ⟨uvv, huv⟩ : ∃ v, uv[j]? = some v := ⟨_, ZaQ (by omega)⟩
  obtain ⟨u', hu2, hvu⟩ := ZmU iu huv
  rw [hu1] at hu2
  cases hu2
  obtain ⟨tu, su, ru, rfl, etu⟩ := Zp8 hvu
  have hml := (Zaj.mp hmk).1
  obtain ⟨vm, hvm⟩ : ∃ v, mv[m.toNat]? = some v := ⟨_, ZaQ (by omega)⟩
  have hmkI : Im H vm mk.d := by
   obtain ⟨d, e1, e2⟩ := ZkD im hvm
   rw [ZaA, hmk] at e1
   cases e1
   exact e2
  have ea : m = (m.toNat : Int) := by omega
  have hatm : atI mv m = some vm := by rw [ea]; exact ZcZ hvm
  refine Zfh ⟨_, ew, Zc3 (ZcZ (j := 1) rfl) ⟨_, _, rfl, rfl, _, rfl, ?_⟩⟩
  rw [decide_eq_true (show (0 : Int) <= (j : Int) by omega)]
  refine Zfh ⟨_, et, Zc3 (ZcZ (j := 2) rfl) ⟨q2, _, rfl, .inl (SqL.of eu), _, _, rfl, rfl, _, rfl, ?_⟩⟩
  rw [decide_eq_true (show (j : Int) < ((uv.length : Nat) : Int) by omega)]
  refine Zen ⟨_, et, Zc3 (ZcZ (j := 2) rfl) ⟨_, ew, Zc3 (ZcZ (j := 1) rfl) ⟨_, eu, Zc3 (ZcZ huv) ⟨_, etu, Zc3 (ZcZ (j := 1) rfl) ⟨_, g2, Zc3 (ZcZ (j := 2) rfl) ?_⟩⟩⟩⟩⟩
  dsimp only [tC, cEq, onB]
  rw [decide_eq_true hat]
  refine Zen ⟨_, et, Zc3 (ZcZ (j := 1) rfl) ⟨_, g2, Zc3 (ZcZ (j := 1) rfl) ⟨_, em, Zc3 hatm ⟨_, et, Zc3 (ZcZ (j := 2) rfl) ⟨_, ew, Zc3 (ZcZ (j := 1) rfl) ⟨_, eu, Zc3 (ZcZ huv) ⟨_, _, u, mk.f, mk.a, mk.p, rfl, hmkI, hvu, mo mk (ZaB hmk), uo u (ZaB hu1), fun v H9 S9 hnn => ?_⟩⟩⟩⟩⟩⟩⟩
  rw [hme] at hnn
  obtain ⟨fa, fxs, rfl, efa, hfl⟩ := hnn
  dsimp only [Zeq]
  have h29 := S9 _ _ h2
  refine ⟨true, (by rw [decide_eq_false (fun h => nomatch h)]; rfl), Zfh ⟨_, h29, Zc3 (ZcZ (j := 1) rfl) ⟨_, h29, Zc3 (ZcZ (j := 2) rfl) ⟨(by show 2 <= sizeLine; decide), fun t3 h3 => ?_⟩⟩⟩⟩
  have s3 := Zc2 h3 (.tup [.int a, .int b])
  refine ⟨fa, fxs, l.map flD, flD (a, b), rfl, SqL.of (s3 _ _ efa), Zga (hfl.mono (Zdj.tk s3)), ZoR (ZkA ZcX), fun e he => ?_, ?_, q _ (S9.trans s3)⟩
  ·obtain ⟨x, _, rfl⟩ := ZaT.mp he
   exact ⟨by simp [flD, ZfU, ZfA], by simp [flD, ZgI, ZfC]⟩
  ·obtain ⟨n, hn⟩ := Zbe.mp hab
   exact ⟨n, flD (a, b), by rw [ZaA, hn]; rfl, by simp [flD, eqD, Zha, eqV]⟩
 | false =>
  rw [Zry]
  obtain ⟨rfl, y', hj⟩ := hc
  obtain ⟨hjk, hj⟩ := ZgX hj
  obtain ⟨t2, wv2, g3, g4, _⟩ := ZfF hR hj
  dsimp only at g4
  refine Zen ⟨_, ew, Zc3 (ZcZ (j := 1) rfl) ⟨_, _, rfl, rfl, _, rfl, ?_⟩⟩
  rw [decide_eq_true (show (0 : Int) <= (j : Int) by omega)]
  refine Zfh ⟨_, _, rfl, rfl, _, rfl, ?_⟩
  rw [decide_eq_true (show (j : Int) < (k : Int) by omega)]
  refine Zen ⟨_, ew, Zc3 (ZcZ (j := 1) rfl) ⟨_, er, Zc3 (ZcZ g3) ⟨_, g4, Zc3 (ZcZ (j := 0) rfl) ?_⟩⟩⟩
  dsimp only [tC, cEq, onB]
  rw [Zq2]
  have tt : ∀ x : Int, V.bl (xor false (decide (x = x))) = V.bl true := fun x => by rw [decide_eq_true rfl]; rfl
  refine ⟨true, rfl, Zfh ⟨_, g4, Zc3 (ZcZ (j := 1) rfl) ⟨_, g2, Zc3 (ZcZ (j := 2) rfl) ⟨true, tt p, Zfh ⟨_, g4, Zc3 (ZcZ (j := 2) rfl) ⟨_, h2, Zc3 (ZcZ (j := 2) rfl) ⟨true, tt b, Zfh ⟨_, g2, Zc3 (ZcZ (j := 1) rfl) ⟨_, h2, Zc3 (ZcZ (j := 1) rfl) ?_⟩⟩⟩⟩⟩⟩⟩⟩⟩
  show Q (V.bl (xor false (decide (m = m)))) H
  rw [tt m]
  exact q H (Zdj.refl _)
end
noncomputable def nmR (ρ : Rw) : List Int := match ρ.y with
 | none => []
 | some x => if ρ.w = true then [x.1] else [x.1, x.2]
def Ahd (R : List Rw) : Prop := ∀ (n : Nat) (ρ : Rw) (x : Int), R[n]? = some ρ -> x ∈ nmR ρ -> ∃ i : Nat, x = (i : Int) /\ i < n
structure Zid (R : List Rw) (k : Nat) (ns : List Nat) : Prop where
 mem : k ∈ ns
 le : ∀ n ∈ ns, n <= k
 srt : ns.Pairwise (· < ·)
 cl : ∀ n ∈ ns, ∀ ρ, R[n]? = some ρ -> ∀ x ∈ nmR ρ, ∃ i ∈ ns, x = ((i : Nat) : Int)
 nam : ∀ n ∈ ns, n ≠ k -> ∃ m ∈ ns, ∃ ρ, R[m]? = some ρ /\ ((n : Nat) : Int) ∈ nmR ρ
structure Nj (R : List Rw) (k : Nat) (D A : List Nat) (ex : Nat -> Prop) : Prop where
 nd : D.Nodup
 na : A.Nodup
 mem : k ∈ D
 le : ∀ n ∈ D, n <= k
 sub : ∀ a ∈ A, a ∈ D
 cl : ∀ n ∈ D, n ∉ A -> ¬ ex n -> ∀ ρ, R[n]? = some ρ -> ∀ x ∈ nmR ρ, ∃ i ∈ D, x = ((i : Nat) : Int)
 nam : ∀ n ∈ D, n ≠ k -> ∃ m ∈ D, ∃ ρ, R[m]? = some ρ /\ ((n : Nat) : Int) ∈ nmR ρ
theorem Nj.start (R : List Rw) (k : Nat) : Nj R k [k] [k] (fun _ => False) :=
 ⟨by simp, by simp, by simp, fun n h => by simp at h; omega, fun a h => h, fun n h1 h2 => absurd h1 h2, fun n h1 h2 => absurd (ZaM.mp h1) h2⟩
theorem ZlL {k : Nat} {D : List Nat} (nd : D.Nodup) (le : ∀ n ∈ D, n <= k) : D.length <= k + 1 := ZgM (k + 1) D nd fun n h => by have := le n h; omega
section
variable {R : List Rw} {k : Nat} {D A : List Nat}
theorem Nj.pop {a : Nat} (j : Nj R k D (A ++ [a]) (fun _ => False)) : Nj R k D A (fun n => n = a) /\ a ∈ D /\ a ∉ A := by
 have na := j.na
 rw [Zbr] at na
 have h : a ∉ A := fun z => na.2.2 a z a (by simp) rfl
 refine ⟨⟨j.nd, na.1, j.mem, j.le, fun x hx => j.sub x (Zai _ hx), fun n h1 h2 h3 => j.cl n h1 (fun z => ?_) (fun z => z), j.nam⟩, j.sub a (by simp), h⟩
 rcases Zah.mp z with z | z
 ·exact h2 z
 ·exact h3 (ZaM.mp z)
theorem Nj.add {a i : Nat} {ρ : Rw} (j : Nj R k D A (fun n => n = a)) (ha : a ∈ D) (hna : a ∉ A) (hR : R[a]? = some ρ) (hi : ((i : Nat) : Int) ∈ nmR ρ) (hlt : i < a) (hn : i ∉ D) : Nj R k (D ++ [i]) (A ++ [i]) (fun n => n = a) := by
 have hiA : i ∉ A := fun z => hn (j.sub i z)
 have ale := j.le a ha
 refine ⟨Zkc j.nd hn, Zkc j.na hiA, Zai _ j.mem, fun n hn' => ?_, fun x hx => ?_, fun n h1 h2 h3 ρ' hρ' x hx => ?_, fun n h1 h2 => ?_⟩
 ·rcases Zah.mp hn' with h | h
  ·exact j.le n h
  ·rw [ZaM.mp h]; omega
 ·rcases Zah.mp hx with h | h
  ·exact Zai _ (j.sub x h)
  ·exact Zan _ h
 ·rcases Zah.mp h1 with h | h
  ·obtain ⟨q, q1, q2⟩ := j.cl n h (fun z => h2 (Zai _ z)) h3 ρ' hρ' x hx
   exact ⟨q, Zai _ q1, q2⟩
  ·exact absurd (Zan _ h) h2
 ·rcases Zah.mp h1 with h | h
  ·obtain ⟨m, m1, m2⟩ := j.nam n h h2
   exact ⟨m, Zai _ m1, m2⟩
  ·rw [ZaM.mp h]
   exact ⟨a, Zai _ ha, ρ, hR, hi⟩
theorem Nj.done {a : Nat} {ρ : Rw} (j : Nj R k D A (fun n => n = a)) (hR : R[a]? = some ρ) (h : ∀ x ∈ nmR ρ, ∃ i ∈ D, x = ((i : Nat) : Int)) : Nj R k D A (fun _ => False) := by
 refine ⟨j.nd, j.na, j.mem, j.le, j.sub, fun n h1 h2 _ ρ' hρ' x hx => ?_, j.nam⟩
 by_cases e : n = a
 ·subst e
  rw [hR] at hρ'
  cases hρ'
  exact h x hx
 ·exact j.cl n h1 h2 e ρ' hρ' x hx
theorem Nj.need {ns : List Nat} (j : Nj R k D [] (fun _ => False)) (p : ns.Perm D) (s : ns.Pairwise (· <= ·)) : Zid R k ns := by
 have nd : ns.Nodup := p.nodup_iff.mpr j.nd
 refine ⟨p.mem_iff.mpr j.mem, fun n h => j.le n (p.mem_iff.mp h), ?_, fun n h ρ hρ x hx => ?_, fun n h h2 => ?_⟩
 ·refine List.Pairwise.imp (R := fun a b => a <= b /\ a ≠ b) (fun h => Nat.lt_of_le_of_ne h.1 h.2) ?_
  exact s.and nd
 ·obtain ⟨i, h1, h2⟩ := j.cl n (p.mem_iff.mp h) (fun z => nomatch z) (fun z => z) ρ hρ x hx
  exact ⟨i, p.mem_iff.mpr h1, h2⟩
 ·obtain ⟨m, h3, h4⟩ := j.nam n (p.mem_iff.mp h) h2
  exact ⟨m, p.mem_iff.mpr h3, h4⟩
end
noncomputable def pos : List Nat -> Nat -> Nat
 | [], _ => 0
 | a :: l, x => if a = x then 0 else pos l x + 1
theorem ZgB : ∀ {l : List Nat} {t x : Nat}, l.Nodup -> l[t]? = some x -> pos l x = t
 | a :: l, 0, x, _, h => by cases h; unfold pos; rw [if_pos rfl]
 | a :: l, t + 1, x, n, h => by
  rw [ZaU] at h
  rw [Zat] at n
  unfold pos
  rw [if_neg (show ¬ a = x from fun z => n.1 (by rw [z]; exact ZaB h)), ZgB n.2 h]
theorem ZkE {l : List Nat} {x : Nat} (n : l.Nodup) (h : x ∈ l) : l[pos l x]? = some x := by
 obtain ⟨t, ht⟩ := Zbe.mp h
 rw [ZgB n ht]
 exact ht
noncomputable def pl (ns : List Nat) (x : Int) : Int := ((pos ns x.toNat : Nat) : Int)
noncomputable def ren (ns : List Nat) (ρ : Rw) : Rw := ⟨ρ.w, ρ.a, ρ.b, ρ.y.map fun x => (pl ns x.1, if ρ.w = true then x.2 else pl ns x.2)⟩
noncomputable def Zjd (R : List Rw) (n : Nat) : Rw := (R[n]?).getD ⟨true, 0, 0, none⟩
theorem Zje {R : List Rw} {n : Nat} {ρ : Rw} (h : R[n]? = some ρ) : Zjd R n = ρ := by unfold Zjd; rw [h]; rfl
noncomputable def ZjZ (R : List Rw) (ns : List Nat) : List Rw := ns.map fun n => ren ns (Zjd R n)
theorem ZoT (ns : List Nat) (ρ : Rw) : nmR (ren ns ρ) = (nmR ρ).map (pl ns) := by
 obtain ⟨w, a, b, y⟩ := ρ
 cases y with
 | none => rfl
 | some x => cases w <;> rfl
section
variable {R : List Rw} {k : Nat} {ns : List Nat}
theorem Zid.nd (h : Zid R k ns) : ns.Nodup := h.srt.imp fun z => Zbz z
theorem Zid.lt (h : Zid R k ns) {i j x y : Nat} (hi : ns[i]? = some x) (hj : ns[j]? = some y) (hxy : x < y) : i < j := by
 by_cases z : i < j
 ·exact z
 ·exfalso
  obtain ⟨i1, i2⟩ := Zaj.mp hi
  obtain ⟨j1, j2⟩ := Zaj.mp hj
  by_cases e : j = i
  ·subst e
   rw [hi] at hj
   cases hj
   omega
  ·have := Zbl.mp h.srt j i j1 i1 (by omega)
   omega
theorem Zid.row (h : Zid R k ns) (hk : k < R.length) {t n : Nat} (ht : ns[t]? = some n) : ∃ ρ, R[n]? = some ρ /\ (ZjZ R ns)[t]? = some (ren ns ρ) := by
 have hn := h.le n (ZaB ht)
 refine ⟨_, ZaQ (show n < R.length by omega), ?_⟩
 unfold ZjZ
 rw [ZaA, ht]
 show some (ren ns (Zjd R n)) = _
 rw [Zje (ZaQ (show n < R.length by omega))]
theorem Zid.last (h : Zid R k ns) : ns[ns.length - 1]? = some k := by
 obtain ⟨t, ht⟩ := Zbe.mp h.mem
 have tl := (Zaj.mp ht).1
 obtain ⟨x, hx⟩ : ∃ x, ns[ns.length - 1]? = some x := ⟨_, ZaQ (by omega)⟩
 by_cases e : t = ns.length - 1
 ·rw [<- e]; exact ht
 ·have := h.le x (ZaB hx)
  obtain ⟨t1, t2⟩ := Zaj.mp ht
  obtain ⟨x1, x2⟩ := Zaj.mp hx
  have := Zbl.mp h.srt t (ns.length - 1) t1 x1 (by omega)
  omega
theorem Zid.len (h : Zid R k ns) : ns.length <= k + 1 /\ 1 <= ns.length := by
 refine ⟨ZlL h.nd h.le, ?_⟩
 obtain ⟨t, ht⟩ := Zbe.mp h.mem
 have := (Zaj.mp ht).1
 omega
theorem Zid.named (h : Zid R k ns) (hk : k < R.length) {t : Nat} (ht : t + 1 < ns.length) : ∃ (t2 : Nat) (ρ : Rw), (ZjZ R ns)[t2]? = some ρ /\ (t : Int) ∈ nmR ρ := by
 obtain ⟨n, hn⟩ : ∃ n, ns[t]? = some n := ⟨_, ZaQ (by omega)⟩
 have nk : n ≠ k := fun z => by
  have l := h.last
  rw [z] at hn
  have := ZgB h.nd hn
  rw [ZgB h.nd l] at this
  omega
 obtain ⟨m, m1, ρ, m2, m3⟩ := h.nam n (ZaB hn) nk
 obtain ⟨t2, ht2⟩ := Zbe.mp m1
 obtain ⟨ρ', e1, e2⟩ := h.row hk ht2
 rw [m2] at e1
 cases e1
 refine ⟨t2, _, e2, ?_⟩
 rw [ZoT]
 refine ZaT.mpr ⟨_, m3, ?_⟩
 unfold pl
 rw [ZcK, ZgB h.nd hn]
end
section
variable {us : List Us} {ms : List Mk3} {fs : List (Int × Int)} {R : List Rw} {k : Nat} {ns : List Nat}
theorem ZmZ {fs : List (Int × Int)} {ms : List Mk3} {ρ : Rw} (h : ρ ∈ ZlI fs ms) : (∃ p ∈ fs, ρ = ⟨true, p.1, p.2, none⟩) \/ ∃ (i : Nat) (mk : Mk3), ms[i]? = some mk /\ ρ = ⟨false, (i : Int), mk.a, none⟩ := by
 unfold ZlI at h
 rcases ZhX h with h | h
 ·rcases ZhX h with h | h
  ·cases h
  ·obtain ⟨p, hp, rfl⟩ := ZaT.mp h
   exact .inl ⟨p, hp, rfl⟩
 ·refine .inr ?_
  have : ∀ n, ρ ∈ heR ms n -> ∃ (i : Nat) (mk : Mk3), ms[i]? = some mk /\ ρ = ⟨false, (i : Int), mk.a, none⟩ := by
   intro n
   induction n with
   | zero => intro h; cases h
   | succ n ih =>
    intro h
    rw [heR] at h
    rcases Zah.mp h with h | h
    ·exact ih h
    ·cases e : ms[n]? with
     | none => rw [e] at h; cases h
     | some mk =>
      rw [e] at h
      simp only [ZaM] at h
      exact ⟨n, mk, e, h⟩
  exact this _ h
theorem Zn4 (cz : Cz us ms (ZlI fs ms) R) {n : Nat} {ρ : Rw} (h : R[n]? = some ρ) : (ρ.y = none /\ ρ ∈ ZlI fs ms) \/ Cau us ms (R.take n) ρ := by
 by_cases hl : n < (ZlI fs ms).length
 ·obtain ⟨more, e⟩ := cz.pre
  rw [e, Zaz hl] at h
  have hm := ZaB h
  refine .inl ⟨?_, hm⟩
  rcases ZmZ hm with ⟨p, _, rfl⟩ | ⟨i, mk, _, rfl⟩ <;> rfl
 ·exact .inr (cz.cau n ρ (by omega) h)
theorem Zp9 (cz : Cz us ms (ZlI fs ms) R) : Ahd R := fun n ρ x h hx => by
 rcases Zn4 cz h with ⟨hy, _⟩ | ⟨n1, n2, i, j, m, p, y, ey, rfl, rfl, hi, hc⟩
 ·unfold nmR at hx
  rw [hy] at hx
  cases hx
 ·have hi := (ZgX hi).1
  obtain ⟨w, a, b, y'⟩ := ρ
  dsimp only at ey hc
  subst ey
  cases w with
  | true =>
   have : x = (i : Int) := by simpa [nmR] using hx
   exact ⟨i, this, hi⟩
  | false =>
   obtain ⟨_, y2, hj⟩ := hc
   have hj := (ZgX hj).1
   have : x = (i : Int) \/ x = (j : Int) := by simpa [nmR] using hx
   rcases this with e | e
   ·exact ⟨i, e, hi⟩
   ·exact ⟨j, e, hj⟩
theorem ZoU (cz : Cz us ms (ZlI fs ms) R) (h : Zid R k ns) (hk : k < R.length) {t : Nat} {ρ' : Rw} (ht : (ZjZ R ns)[t]? = some ρ') : (ρ'.y = none /\ ρ' ∈ ZlI fs ms) \/ Cau us ms ((ZjZ R ns).take t) ρ' := by
 have tl := (Zaj.mp ht).1
 have wl : (ZjZ R ns).length = ns.length := by unfold ZjZ; rw [Zar]
 obtain ⟨n, hn⟩ : ∃ n, ns[t]? = some n := ⟨_, ZaQ (by omega)⟩
 obtain ⟨ρ, hρ, hw⟩ := h.row hk hn
 rw [ht] at hw
 cases hw
 have put : ∀ {i : Nat} {σ : Rw}, (R.take n)[i]? = some σ -> i ∈ ns -> ((ZjZ R ns).take t)[pos ns i]? = some (ren ns σ) := fun {i σ} hi hm => by
  obtain ⟨hlt, hi⟩ := ZgX hi
  have g := ZkE h.nd hm
  obtain ⟨σ', e1, e2⟩ := h.row hk g
  rw [hi] at e1
  cases e1
  rw [Zbf, if_pos (h.lt g hn hlt)]
  exact e2
 rcases Zn4 cz hρ with ⟨hy, hm⟩ | hc
 ·refine .inl ⟨?_, ?_⟩
  ·show ρ.y.map _ = none
   rw [hy]
   rfl
  ·have : ren ns ρ = ρ := by
    obtain ⟨w, a, b, y⟩ := ρ
    cases (show y = none from hy)
    rfl
   rw [this]
   exact hm
 ·have hcl := h.cl n (ZaB hn) ρ hρ
  obtain ⟨n1, n2, i, j, m, p, y, ey, rfl, rfl, hi, hc⟩ := hc
  obtain ⟨w, a, b, y0⟩ := ρ
  dsimp only at ey hc
  subst ey
  refine .inr ?_
  cases w with
  | true =>
   obtain ⟨i', m1, e1⟩ := hcl (i : Int) (by simp [nmR])
   have : i = i' := by omega
   subst this
   exact ⟨_, _, pos ns i, j, m, p, _, rfl, rfl, rfl, put hi m1, hc⟩
  | false =>
   obtain ⟨i', m1, e1⟩ := hcl (i : Int) (by simp [nmR])
   have : i = i' := by omega
   subst this
   obtain ⟨j', m2, e2⟩ := hcl (j : Int) (by simp [nmR])
   have : j = j' := by omega
   subst this
   obtain ⟨h1, y2, hj⟩ := hc
   exact ⟨_, _, pos ns i, pos ns j, m, p, _, rfl, rfl, rfl, put hi m1, h1, _, put hj m2⟩
end
theorem ZnB {N M : Int} {l : List Rw} (hN : N <= 40) (hM : M <= 61) (d : (l.map Rw.k).Nodup) (h : ∀ r ∈ l, r.ok N M) : l.length <= 4040 := by
 have z : ∀ r ∈ l, 0 <= r.a /\ (r.w = true -> r.a < 40) /\ (r.w = false -> r.a < 61) /\ 0 <= r.b /\ r.b < 40 := fun r hr => by
  obtain ⟨h1, h2, h3, h4⟩ := h r hr
  refine ⟨h1, fun e => ?_, fun e => ?_, h3, by omega⟩ <;> rw [e] at h2 <;> dsimp only at h2 <;> omega
 have := ZgM 4040 (l.map fun r => (match r.w with | true => 0 | false => 1600) + r.a.toNat * 40 + r.b.toNat) (ZhG d fun x hx y hy e => ?_) fun c hc => ?_
 ·rw [Zar] at this; exact this
 ·obtain ⟨a1, a2, a3, a4, a5⟩ := z x hx
  obtain ⟨b1, b2, b3, b4, b5⟩ := z y hy
  have w : x.w = y.w := by
   cases e1 : x.w <;> cases e2 : y.w <;> rw [e1, e2] at e <;> dsimp only at e <;> first | rfl | (have := a2 e1; omega) | (have := b2 e2; omega)
  rw [w] at e
  have : x.a = y.a /\ x.b = y.b := by
   cases e2 : y.w <;> rw [e2] at e <;> dsimp only at e <;> omega
  rw [Rw.k, Rw.k, w, this.1, this.2]
 ·obtain ⟨r, hr, rfl⟩ := ZaT.mp hc
  obtain ⟨a1, a2, a3, a4, a5⟩ := z r hr
  cases e : r.w with
  | true => have := a2 e; dsimp only; omega
  | false => have := a3 e; dsimp only; omega
theorem Zqp : (xor false (decide (wd true = ("goes" : Str)))) = true := by decide +kernel
theorem Zqq : (xor false (decide (wd false = ("goes" : Str)))) = false := by decide +kernel
noncomputable def dkv (D : List Nat) : List (Key × V) := D.map fun n : Nat => ((Sum.inl (n : Int) : Key), V.bl true)
theorem ZnC {D : List Nat} {n : Nat} (h : n ∈ D) : ZeO (dkv D) (.inl (n : Int)) = some (.bl true) := by
 unfold dkv
 induction D with
 | nil => cases h
 | cons a D ih =>
  rw [Zaq]
  by_cases e : a = n
  ·subst e
   exact ZeI rfl
  ·rw [Zed (fun z => e (by
    have z : (Sum.inl (a : Int) : Key) = Sum.inl (n : Int) := z
    injection z with z
    omega))]
   rcases Zag.mp h with h | h
   ·exact absurd h.symm e
   ·exact ih h
theorem Zle {D : List Nat} {n : Nat} (h : n ∉ D) : ZeO (dkv D) (.inl (n : Int)) = none := by
 unfold dkv
 induction D with
 | nil => rfl
 | cons a D ih =>
  rw [Zaq]
  rw [Zag, not_or] at h
  rw [Zed (fun z => h.1 (by
    have z : (Sum.inl (a : Int) : Key) = Sum.inl (n : Int) := z
    injection z with z
    omega))]
  exact ih h.2
theorem ZoV {D : List Nat} {n : Nat} (h : n ∉ D) : Zfa (dkv D) (.inl (n : Int)) (.bl true) = dkv (D ++ [n]) := by
 unfold Zfa
 rw [if_neg (by rw [Zgc, Zle h]; exact Zcy)]
 unfold dkv
 rw [ZaZ]
 rfl
theorem Zjf {H : Hp} {v : V} (h : Im H v (ZjH none)) : v = .non := by
 unfold ZjH at h
 cases h
 rfl
theorem Zhq {H : Hp} {v : V} {x : Int × Int} (h : Im H v (ZjH (some x))) : ∃ t, v = .ref t /\ H t = some (.tup [.int x.1, .int x.2]) := by
 obtain ⟨t, xs, rfl, e, hs⟩ := ZeM h
 obtain rfl := ZlG hs
 exact ⟨t, rfl, e⟩
section
variable {P : Program} {w : World} {K : PySem.W.Frag} {mg : Str -> Option Value} {base : Heap}
def Zjg : Sp := fun vs H Q _ => ∃ (t : Addr) (wv : V) (ρ : Rw), vs = [.ref t] /\ H t = some (.tup [.str (wd ρ.w), .int ρ.a, .int ρ.b, wv]) /\ Im H wv (ZjH ρ.y) /\ ∀ l, H l = none -> Q (.ref l) (upd H l (.lst ((nmR ρ).map V.int)))
theorem Zjh (T : Txt K mg) : Ze0 P w K mg base CX0 1 T.a_named_rows T.fd_named_rows ["row"] Zjg := by
 refine T.F_named_rows.ok ZgO (fun vs H Q E h => ?_) (fun cdv A outer s H vs Q E hr h => ?_)
 ·obtain ⟨t, wv, ρ, rfl, _⟩ := h
  rfl
 obtain ⟨t, wv, ⟨w', a, b, y⟩, rfl, et, hw, q⟩ := h
 refine ⟨_, (Zc0 (Zdn (i := 1) ZgO.nd rfl (.inl rfl) (Zc8 Zc7 (cv 0) ZcY (fun _ _ => rfl)))
  (Zc0 (Zdz (ZfP (ZkJ (cv 1)))
   (Zc4 (Zdd (ZdJ Zc1)))
   Zdc)
  (Zc0 (Zdz (Zdb Zd7 (Zc8 Zc7 (cv 0) ZcY (fun _ _ => rfl)) Zdm (Zdk _))
   (Zc4 (Zdd (ZdJ (ZcW (Zc8 Zc7 (cv 1) ZcY (fun _ _ => rfl)) Zc1))))
   Zdc)
  (Zc4 (Zdd (ZdJ (ZcW (Zc8 Zc7 (cv 1) ZcY (fun _ _ => rfl)) (ZcW (Zc8 Zc7 (cv 1) ZcY (fun _ _ => rfl)) Zc1)))))))), ?_⟩
 dsimp only at et hw
 refine ⟨_, et, Zc3 (ZcZ (j := 3) rfl) ⟨_, rfl, ?_⟩⟩
 cases y with
 | none =>
  rw [Zjf hw, decide_eq_true rfl]
  exact Zfh ⟨(by show 0 <= sizeLine; decide), fun l hl => q l hl⟩
 | some x =>
  obtain ⟨tw, rfl, ew⟩ := Zhq hw
  rw [decide_eq_false (fun z => nomatch z)]
  refine Zen ?_
  dsimp only [Ze1]
  refine ⟨_, et, Zc3 (ZcZ (j := 0) rfl) ?_⟩
  dsimp only [tC, cEq, onB]
  cases w' with
  | true =>
   rw [Zqp]
   exact Zfh ⟨_, ew, Zc3 (ZcZ (j := 0) rfl) ⟨(by show 1 <= sizeLine; decide), fun l hl => q l hl⟩⟩
  | false =>
   rw [Zqq]
   refine Zen ?_
   dsimp only [Ze1]
   exact ⟨_, ew, Zc3 (ZcZ (j := 0) rfl) ⟨_, ew, Zc3 (ZcZ (j := 1) rfl) ⟨(by show 2 <= sizeLine; decide), fun l hl => q l hl⟩⟩⟩
def Zie (L : Addr) : Sp := fun vs H Q _ => ∃ (lg dl r bd : Addr) (rv : List V) (R : List Rw) (k : Nat), vs = [.ref lg, .int (k : Int)] /\ H lg = some (.ins L dl (fL r bd)) /\ H r = some (.lst rv) /\ Ims H rv (R.map Rw.d) /\ k < R.length /\ R.length <= 8192 /\ Ahd R /\
 ∀ (t : Addr) (ns : List Nat) (H' : Hp), Zdj H H' -> H t = none -> H' t = some (.lst (ns.map fun n : Nat => V.int (n : Int))) -> Zid R k ns -> Q (.ref t) H'
def NW (H : Hp) (lg d l : Addr) (R : List Rw) (k m : Nat) (σ : St) (H2 : Hp) : Prop := ∃ (D A : List Nat) (o4 o5 : Option V), σ = [some (.ref lg), some (.int (k : Int)), some (.ref d), some (.ref l), o4, o5] /\ Zdj H H2 /\ H2 d = some (.dK (dkv D)) /\ H2 l = some (.lst (A.map fun n : Nat => V.int (n : Int))) /\ Nj R k D A (fun _ => False) /\ m = 2 * (k + 1 - D.length) + A.length
theorem Zif (T : Txt K mg) : Ze0 P w K mg base CX0 3 T.a_needed_rows T.fd_needed_rows ["log", "k"] (Zie T.a_Log) := by
 have G_named_rows := Zjh (P := P) (w := w) (base := base) T
 refine T.F_needed_rows.ok ZeR (fun vs H Q E h => ?_) (fun cdv A outer s H vs Q E hr h => ?_)
 ·obtain ⟨lg, dl, r, bd, rv, R, k, rfl, _⟩ := h
  rfl
 have hu := ZhA hr
 obtain ⟨lg, dl, r, bd, rv, R, k, rfl, el, er, hR, hk, hRl, ah, q⟩ := h
 refine ⟨_, (Zc0 (Zdn (i := 2) ZeR.nd rfl (.inl rfl) (Zoi (Znc (cv 1) Zfl Zoh) rfl rfl (fun z => nomatch z) (by decide)))
  (Zc0 (Zdn (i := 3) ZeR.nd rfl (.inl rfl) (ZdJ (ZcW (cv 1) Zc1)))
  (Zc0 (ZkK PassesOwn.never (Zdb ZpF (Zdq Zdw rfl T.z_len Zfo (ZcW (cv 3) Zc1)) ZcY (Zdk _))
   (Zc0 (Zdn (i := 4) ZeR.nd rfl (.inl rfl) (Zc8 Zde (Zdi T.cl_Log T.n_Log_rows (cv 0)) (Zpv Zcv PySem.F.slot_list_pop PySem.F.type_list_pop Zpw (cv 3)) (fun _ _ => rfl)))
   (Zc4 (Zet PassesOwn.never rfl (Zd0 (Zdl G_named_rows (hr.mono (by decide)) rfl T.m_named_rows T.k_named_rows T.b_named_rows .nil Zdp (ZcW (cv 4) Zc1))) (ZdG (i := 5) ZeR.nd rfl (.inl rfl))
    (Zc4 (Zdz (ZfP (ZfX hu (cv 5) (cv 2)) rfl)
     (Zc0 (ZgZ hu (cv 2) (cv 5) Zfl rfl)
     (Zc4 (Zdr (Ze4 (ZfT Zcv Zcw Zcx ZdA (PE.mono (cv 3)) (ZcW (PE.mono (cv 5)) Zc1))))))
     Zdc))))))
  (Zc4 (Zdd (Zdq (ZiN rfl) rfl T.z_sorted ZjI (ZcW (cv 2) Zc1))))))), ?_⟩
 have sl : sizeLine = 16777216 := sizeLine_eq
 intro d hd
 refine ⟨ZcX, [((Sum.inl (k : Int) : Key), .bl true)], rfl, (by show 1 <= 15; decide), ?_⟩
 rw [ZdZ]
 have s1 := Zc2 hd (.dK (dkv [k]))
 have e1 : (upd H d (.dK (dkv [k]))) d = some (.dK (dkv [k])) := ZcX
 dsimp only [Zeq]
 show Ziw _ _ _ _ (upd H d (.dK (dkv [k])))
 generalize upd H d (.dK (dkv [k])) = H1 at s1 e1 ⊢
 refine ⟨(by show 1 <= sizeLine; decide), fun l hl => ?_⟩
 have s2 := Zc2 hl (.lst [.int (k : Int)])
 have e2 : (upd H1 l (.lst [.int (k : Int)])) l = some (.lst (([k] : List Nat).map fun n : Nat => V.int (n : Int))) := ZcX
 dsimp only [Zeq]
 generalize upd H1 l (.lst [.int (k : Int)]) = H2 at s2 e2 ⊢
 have ndl : d ≠ l := Zc9 e1 hl
 have hl0 : H l = none := s1.free hl
 refine ⟨NW H lg d l R k, ⟨_, [k], [k], none, none, rfl, s1.trans s2, s2 _ _ e1, e2, Nj.start R k, rfl⟩, ?_⟩
 rintro m σ H3 ⟨D, A, o4, o5, rfl, S3, ed, eA, nj, rfl⟩
 have lD := ZlL nj.nd nj.le
 refine ⟨l, _, rfl, .inl (SqL.of eA), ?_⟩
 show if decide ((0 : Int) < (((A.map fun n : Nat => V.int (n : Int)).length : Nat) : Int)) = true then _ else _
 rw [Zar]
 rcases List.eq_nil_or_concat A with rfl | ⟨A0, a, rfl⟩
 ·rw [decide_eq_false (by simp)]
  refine Zen ?_
  dsimp only
  refine ⟨d, _, D.map fun n : Nat => (n : Int), rfl, ed, by unfold dkv; rw [Zbw, Zbw]; rfl, fun t ns' ht hp hs => ?_⟩
  obtain ⟨ns, rfl, pn⟩ := ZhK hp D rfl
  have hs' : ns.Pairwise (· <= ·) := by
   rw [Zbp] at hs
   exact hs.imp fun h => by omega
  refine q t ns _ (S3.trans (Zc2 ht _)) (S3.free ht) ?_ (nj.need pn hs')
  rw [ZcX, Zbw]
  rfl
 ·rw [List.concat_eq_append] at eA nj ⊢
  rw [decide_eq_true (by rw [ZaC]; simp)]
  obtain ⟨nj1, haD, haA⟩ := nj.pop
  have hak := nj.le a haD
  obtain ⟨ρ, hρ⟩ : ∃ ρ, R[a]? = some ρ := ⟨_, ZaQ (by omega)⟩
  have lA : A0.length <= k + 1 := ZlL nj1.na fun n h => nj.le n (nj1.sub n h)
  refine Zfh ⟨fun σ' H' => ∃ m', m' < 2 * (k + 1 - D.length) + (A0 ++ [a]).length /\ NW H lg d l R k m' σ' H', fun _ _ h => h, ?_⟩
  rw [ZaZ] at eA
  refine ⟨_, ⟨_, _, S3 _ _ el, ZfN⟩, .inl ⟨rfl, _, SqL.of eA⟩, l, _, .int (a : Int), rfl, rfl, eA, by rw [ZaC]; simp, ?_⟩
  rw [show (A0.map (fun n : Nat => V.int (n : Int)) ++ [a].map fun n : Nat => V.int (n : Int)).dropLast = A0.map fun n : Nat => V.int (n : Int) from List.dropLast_concat]
  have S4 : Zdj H (upd H3 l (.lst (A0.map fun n : Nat => V.int (n : Int)))) := ZdX S3 hl0 _
  have ed4 : (upd H3 l (.lst (A0.map fun n : Nat => V.int (n : Int)))) d = some (.dK (dkv D)) := by rw [Zc6 ndl]; exact ed
  have eA4 : (upd H3 l (.lst (A0.map fun n : Nat => V.int (n : Int)))) l = some (.lst (A0.map fun n : Nat => V.int (n : Int))) := ZcX
  generalize upd H3 l (.lst (A0.map fun n : Nat => V.int (n : Int))) = H4 at S4 ed4 eA4 ⊢
  obtain ⟨tr, wv, g1, g2, g3⟩ := ZfF (hR.mono (Zdj.tk S4)) hρ
  refine ⟨_, S4 _ _ er, Zc3 (ZcZ g1) ?_⟩
  dsimp only [Zeq]
  refine ⟨tr, wv, ρ, rfl, g2, g3, fun ln hln => ?_⟩
  have s5 := Zc2 hln (.lst ((nmR ρ).map V.int))
  have e5 : (upd H4 ln (.lst ((nmR ρ).map V.int))) ln = some (.lst ((nmR ρ).map V.int)) := ZcX
  have ed5 := s5 _ _ ed4
  have eA5 := s5 _ _ eA4
  have nld : ln ≠ d := fun z => by rw [z, ed4] at hln; cases hln
  have nll : ln ≠ l := fun z => by rw [z, eA4] at hln; cases hln
  have S5 := S4.trans s5
  generalize upd H4 ln (.lst ((nmR ρ).map V.int)) = H5 at s5 e5 ed5 eA5 S5 ⊢
  refine ⟨ln, rfl, ⟨_, SqL.of e5⟩, Zea (xs := (nmR ρ).map V.int) (fun i σ H6 => ∃ (D' A' : List Nat) (o5 : Option V), σ = [some (.ref lg), some (.int (k : Int)), some (.ref d), some (.ref l), some (.ref tr), o5] /\ Zdj H H6 /\ H6 ln = some (.lst ((nmR ρ).map V.int)) /\ H6 d = some (.dK (dkv D')) /\ H6 l = some (.lst (A'.map fun n : Nat => V.int (n : Int))) /\ Nj R k D' A' (fun n => n = a) /\ a ∈ D' /\ a ∉ A' /\ (∀ (j : Nat) (x : Int), j < i -> (nmR ρ)[j]? = some x -> ∃ n ∈ D', x = ((n : Nat) : Int)) /\ 2 * (k + 1 - D'.length) + A'.length <= 2 * (k + 1 - D.length) + A0.length)
   ⟨D, A0, o5, rfl, S5, e5, ed5, eA5, nj1, haD, haA, fun j x h => absurd h (ZbK _), ZbD _⟩ (fun i σ H6 _ ⟨_, _, _, _, _, e, _⟩ => SqL.of e) ?_ ?_⟩
  ·rintro i v σ H6 hv ⟨D', A', o5', rfl, S6, e6, ed6, eA6, nj6, haD6, haA6, hdone, hm⟩
   rw [ZaA] at hv
   obtain ⟨x, hx, rfl⟩ := ZbV.mp hv
   obtain ⟨n, rfl, hlt⟩ := ah a ρ x hρ (ZaB hx)
   have g := ZgF.k (k := (Sum.inl (n : Int) : Key)) ed6
   have lD6 := ZlL nj6.nd nj6.le
   by_cases hn : n ∈ D'
   ·rw [ZnC hn] at g
    refine ⟨d, _, rfl, g, _, rfl, Zen ⟨D', A', _, rfl, S6, e6, ed6, eA6, nj6, haD6, haA6, fun j y hj hy => ?_, hm⟩⟩
    by_cases z : j = i
    ·subst z
     rw [hx] at hy
     cases hy
     exact ⟨n, hn, rfl⟩
    ·exact hdone j y (by omega) hy
   ·rw [Zle hn] at g
    have nj7 := nj6.add haD6 haA6 hρ (ZaB hx) hlt hn
    have lD7 := ZlL nj7.nd nj7.le
    have lA7 : (A' ++ [n]).length <= k + 1 := ZlL nj7.na fun y h => nj7.le y (nj7.sub y h)
    rw [ZaC, ZaL] at lD7 lA7
    refine ⟨d, _, rfl, g, _, rfl, Zfh ⟨d, _, rfl, ZlN.k (k := Sum.inl (n : Int)) ed6 (by unfold dkv; rw [Zar]; omega), ?_⟩⟩
    rw [ZoV hn]
    have S7 : Zdj H (upd H6 d (.dK (dkv (D' ++ [n])))) := ZdX S6 hd _
    have ed7 : (upd H6 d (.dK (dkv (D' ++ [n])))) d = some (.dK (dkv (D' ++ [n]))) := ZcX
    have eA7 : (upd H6 d (.dK (dkv (D' ++ [n])))) l = some (.lst (A'.map fun n : Nat => V.int (n : Int))) := by rw [Zc6 ndl.symm]; exact eA6
    have e7 : (upd H6 d (.dK (dkv (D' ++ [n])))) ln = some (.lst ((nmR ρ).map V.int)) := by rw [Zc6 nld]; exact e6
    generalize upd H6 d (.dK (dkv (D' ++ [n]))) = H7 at S7 ed7 eA7 e7 ⊢
    refine ⟨⟨_, eA7⟩, _, eA7, by rw [Zar]; omega, D' ++ [n], A' ++ [n], _, rfl, ZdX S7 hl0 _, by rw [Zc6 nll]; exact e7, by rw [Zc6 ndl]; exact ed7, by rw [ZcX, ZaZ]; rfl, nj7, Zai _ haD6, fun z => ?_, fun j y hj hy => ?_, by rw [ZaC, ZaC, ZaL]; omega⟩
    ·rcases Zah.mp z with z | z
     ·exact haA6 z
     ·exact hn (ZaM.mp z ▸ haD6)
    ·by_cases z : j = i
     ·subst z
      rw [hx] at hy
      cases hy
      exact ⟨n, Zan _ (List.mem_singleton_self _), rfl⟩
     ·obtain ⟨q, q1, q2⟩ := hdone j y (by omega) hy
      exact ⟨q, Zai _ q1, q2⟩
  ·rintro σ H6 ⟨D', A', o5', rfl, S6, e6, ed6, eA6, nj6, haD6, haA6, hdone, hm⟩
   refine ⟨_, ?_, D', A', _, _, rfl, S6, ed6, eA6, nj6.done hρ fun x hx => ?_, rfl⟩
   ·rw [ZaC, ZaL]
    omega
   ·obtain ⟨j, hj⟩ := Zbe.mp hx
    exact hdone j x (by rw [Zar]; exact (Zaj.mp hj).1) hj
end
def Pls (H : Hp) (d : Addr) (ns : List Nat) : Prop := ∃ kvs : List (Key × V), H d = some (.dK kvs) /\ kvs.length <= ns.length /\ ∀ (t n : Nat), ns[t]? = some n -> ZeO kvs (.inl (n : Int)) = some (.int (t : Int))
theorem Pls.same {H H' : Hp} {d : Addr} {ns : List Nat} (h : Pls H d ns) (s : Zdj H H') : Pls H' d ns := by
 obtain ⟨kvs, h1, h2, h3⟩ := h
 exact ⟨kvs, s _ _ h1, h2, h3⟩
theorem Pls.get {H : Hp} {d : Addr} {ns : List Nat} (h : Pls H d ns) (nd : ns.Nodup) {i : Nat} (hi : i ∈ ns) : ∃ kvs, H d = some (.dK kvs) /\ ZeO kvs (.inl (i : Int)) = some (.int (pl ns (i : Int))) := by
 obtain ⟨kvs, h1, _, h3⟩ := h
 refine ⟨kvs, h1, ?_⟩
 unfold pl
 rw [ZcK]
 exact h3 _ _ (ZkE nd hi)
section
variable {P : Program} {w : World} {K : PySem.W.Frag} {mg : Str -> Option Value} {base : Heap}
def Zig : Sp := fun vs H Q _ => ∃ (t d : Addr) (wv : V) (ρ : Rw) (ns : List Nat), vs = [.ref t, .ref d] /\ H t = some (.tup [.str (wd ρ.w), .int ρ.a, .int ρ.b, wv]) /\ Im H wv (ZjH ρ.y) /\ Pls H d ns /\ ns.Nodup /\ (∀ x ∈ nmR ρ, ∃ i ∈ ns, x = ((i : Nat) : Int)) /\ ∀ (v : V) (H' : Hp), Zdj H H' -> Im H' v (ren ns ρ).d -> Q v H'
theorem Zih (T : Txt K mg) : Ze0 P w K mg base CX0 1 T.a_with_places T.fd_with_places ["row", "places"] Zig := by
 refine T.F_with_places.ok Zgk (fun vs H Q E h => ?_) (fun cdv A outer s H vs Q E hr h => ?_)
 ·obtain ⟨t, d, wv, ρ, ns, rfl, _⟩ := h
  rfl
 have hu := ZhA hr
 obtain ⟨t, d, wv, ⟨w', a, b, y⟩, ns, rfl, et, hw, hp, nd, hcl, q⟩ := h
 refine ⟨_, (Zc0 (Zdn (i := 2) Zgk.nd rfl (.inl rfl) (Zc8 Zc7 (cv 0) ZcY (fun _ _ => rfl)))
  (Zc0 (Zdz (ZfP (ZkJ (cv 2)))
   (Zc4 (Zdd (cv 0)))
   Zdc)
  (Zc0 (Zdz (Zdb Zd7 (Zc8 Zc7 (cv 0) ZcY (fun _ _ => rfl)) Zdm (Zdk _))
   (Zc4 (Zdd (ZdB (ZcW (Zc8 Zc7 (cv 0) ZcY (fun _ _ => rfl)) (ZcW (Zc8 Zc7 (cv 0) ZcY (fun _ _ => rfl)) (ZcW (Zc8 Zc7 (cv 0) ZcY (fun _ _ => rfl)) (ZcW (ZdB (ZcW (Zgq hu (cv 1) (Zc8 Zc7 (cv 2) ZcY (fun _ _ => rfl)) (fun _ _ => rfl)) (ZcW (Zc8 Zc7 (cv 2) ZcY (fun _ _ => rfl)) Zc1))) Zc1)))))))
   Zdc)
  (Zc4 (Zdd (ZdB (ZcW (Zc8 Zc7 (cv 0) ZcY (fun _ _ => rfl)) (ZcW (Zc8 Zc7 (cv 0) ZcY (fun _ _ => rfl)) (ZcW (Zc8 Zc7 (cv 0) ZcY (fun _ _ => rfl)) (ZcW (ZdB (ZcW (Zgq hu (cv 1) (Zc8 Zc7 (cv 2) ZcY (fun _ _ => rfl)) (fun _ _ => rfl)) (ZcW (Zgq hu (cv 1) (Zc8 Zc7 (cv 2) ZcY (fun _ _ => rfl)) (fun _ _ => rfl)) Zc1))) Zc1)))))))))), ?_⟩
 dsimp only at et hw
 refine ⟨_, et, Zc3 (ZcZ (j := 3) rfl) ⟨_, rfl, ?_⟩⟩
 cases y with
 | none =>
  have hw0 := Zjf hw
  subst hw0
  rw [decide_eq_true rfl]
  exact Zfh (q _ H (Zdj.refl _) (.tup et (.cons (.flat rfl) (.cons (.flat rfl) (.cons (.flat rfl) (.cons (.flat rfl) .nil))))))
 | some x =>
  obtain ⟨x1, x2⟩ := x
  obtain ⟨tw, rfl, ew⟩ := Zhq hw
  rw [decide_eq_false (fun z => nomatch z)]
  refine Zen ?_
  dsimp only [Ze1] at ew ⊢
  refine ⟨_, et, Zc3 (ZcZ (j := 0) rfl) ?_⟩
  dsimp only [tC, cEq, onB]
  obtain ⟨i, hi, rfl⟩ := hcl x1 (by cases w' <;> simp [nmR])
  obtain ⟨kvs, ek, hv1⟩ := hp.get nd hi
  have g1 := ZgF.k (k := (Sum.inl (i : Int) : Key)) ek
  rw [hv1] at g1
  cases w' with
  | true =>
   rw [Zqp]
   refine Zfh ⟨_, et, Zc3 (ZcZ (j := 0) rfl) ⟨_, et, Zc3 (ZcZ (j := 1) rfl) ⟨_, et, Zc3 (ZcZ (j := 2) rfl) ⟨_, ew, Zc3 (ZcZ (j := 0) rfl) ⟨d, _, rfl, g1, _, ew, Zc3 (ZcZ (j := 1) rfl) ⟨(by show 2 <= sizeLine; decide), fun t2 h2 => ⟨(by show 4 <= sizeLine; decide), fun t3 h3 => ?_⟩⟩⟩⟩⟩⟩⟩
   have s2 := Zc2 h2 (.tup [.int (pl ns (i : Int)), .int x2])
   have s3 := Zc2 h3 (.tup [.str (wd true), .int a, .int b, .ref t2])
   exact q _ _ (s2.trans s3) (.tup ZcX (.cons (.flat rfl) (.cons (.flat rfl) (.cons (.flat rfl) (.cons (.tup (s3 _ _ ZcX) (.cons (.flat rfl) (.cons (.flat rfl) .nil))) .nil)))))
  | false =>
   obtain ⟨j, hj, rfl⟩ := hcl x2 (by simp [nmR])
   obtain ⟨kvs', ek', hv2⟩ := hp.get nd hj
   rw [ek] at ek'
   cases ek'
   have g2 := ZgF.k (k := (Sum.inl (j : Int) : Key)) ek
   rw [hv2] at g2
   rw [Zqq]
   refine Zen ?_
   dsimp only [Ze1]
   refine ⟨_, et, Zc3 (ZcZ (j := 0) rfl) ⟨_, et, Zc3 (ZcZ (j := 1) rfl) ⟨_, et, Zc3 (ZcZ (j := 2) rfl) ⟨_, ew, Zc3 (ZcZ (j := 0) rfl) ⟨d, _, rfl, g1, _, ew, Zc3 (ZcZ (j := 1) rfl) ⟨d, _, rfl, g2, (by show 2 <= sizeLine; decide), fun t2 h2 => ⟨(by show 4 <= sizeLine; decide), fun t3 h3 => ?_⟩⟩⟩⟩⟩⟩⟩
   have s2 := Zc2 h2 (.tup [.int (pl ns (i : Int)), .int (pl ns (j : Int))])
   have s3 := Zc2 h3 (.tup [.str (wd false), .int a, .int b, .ref t2])
   exact q _ _ (s2.trans s3) (.tup ZcX (.cons (.flat rfl) (.cons (.flat rfl) (.cons (.flat rfl) (.cons (.tup (s3 _ _ ZcX) (.cons (.flat rfl) (.cons (.flat rfl) .nil))) .nil)))))
def Zqa (L : Addr) : Sp := fun vs H Q _ => ∃ (lg dl r bd : Addr) (rv : List V) (R : List Rw) (k : Nat), vs = [.ref lg, .int (k : Int)] /\ H lg = some (.ins L dl (fL r bd)) /\ H r = some (.lst rv) /\ Ims H rv (R.map Rw.d) /\ k < R.length /\ R.length <= 8192 /\ Ahd R /\
 ∀ (t : Addr) (ns : List Nat) (xs : List V) (H' : Hp), Zdj H H' -> H t = none -> H' t = some (.lst xs) -> Ims H' xs ((ZjZ R ns).map Rw.d) -> Zid R k ns -> Q (.ref t) H'
theorem Zqb (T : Txt K mg) : Ze0 P w K mg base CX0 5 T.a_way T.fd_way ["log", "k"] (Zqa T.a_Log) := by
 have G_needed_rows := Zif (P := P) (w := w) (base := base) T
 have G_with_places := Zih (P := P) (w := w) (base := base) T
 refine T.F_way.ok ZjL (fun vs H Q E h => ?_) (fun cdv A outer s H vs Q E hr h => ?_)
 ·obtain ⟨lg, dl, r, bd, rv, R, k, rfl, _⟩ := h
  rfl
 have hu := ZhA hr
 obtain ⟨lg, dl, r, bd, rv, R, k, rfl, el, er, hR, hk, hRl, ah, q⟩ := h
 refine ⟨_, (Zc0 (Zdn (i := 2) ZjL.nd rfl (.inl rfl) (Zdl G_needed_rows (hr.mono (by decide)) rfl T.m_needed_rows T.k_needed_rows T.b_needed_rows .nil Zdp (ZcW (cv 0) (ZcW (cv 1) Zc1))))
  (Zc0 (Zdn (i := 3) ZjL.nd rfl (.inr rfl) ZgG)
  (Zc0 (Zet PassesOwn.never rfl (ZhC rfl T.z_enumerate (ZcW (cv 2) Zc1)) (Zjo rfl (Ze9 (ZdG (i := 4) ZjL.nd rfl (.inl rfl)) (Ze9 (ZdG (i := 5) ZjL.nd rfl (.inl rfl)) Zhs)))
   (Zc4 (ZgZ hu (cv 3) (cv 5) (cv 4) rfl)))
  (Zc4 (Zdd (ZiD rfl (ZlO (x := "number") ["places", "log"] [("places", 3, s.heap.objs.size + 2), ("log", 0, s.heap.objs.size + 1)] rfl rfl (by decide +kernel) (by decide +kernel) rfl (by decide +kernel) rfl rfl (by intro p hp; simp only [Zag, ZaS, or_false] at hp; rcases hp with rfl | rfl <;> exact ⟨rfl, rfl, rfl, rfl⟩)) (Zd0 (cv 2)) (fun _ _ _ _ _ => Ze3) (fun _ _ _ _ _ => (Zdl G_with_places (hr.mono (by decide)) rfl T.m_with_places T.k_with_places T.b_with_places .nil Zdp (ZcW (Zc8 Zde (Zdi T.cl_Log T.n_Log_rows (cv 2)) (cv 0) (fun _ _ => rfl)) (ZcW (cv 1) Zc1)))))))))), ?_⟩
 have sl : sizeLine = 16777216 := sizeLine_eq
 refine ⟨lg, dl, r, bd, rv, R, k, rfl, el, er, hR, hk, hRl, ah, fun tn ns H1 S1 htn etn hN => ?_⟩
 dsimp only [Zeq]
 have nlen := hN.len
 have nd := hN.nd
 intro d hd
 have s2 := Zc2 hd (.dK [])
 have e2 : (upd H1 d (.dK [])) d = some (.dK []) := ZcX
 dsimp only [Zeq]
 generalize upd H1 d (.dK []) = H2 at s2 e2 ⊢
 have etn2 := s2 _ _ etn
 have hd0 : H d = none := S1.free hd
 refine ⟨tn, rfl, ⟨_, SqL.of etn2⟩, ZgT (xs := ns.map fun n : Nat => V.int (n : Int)) (fun i σ H3 => ∃ (o4 o5 : Option V) (kvs : List (Key × V)), σ = [some (.ref lg), some (.int (k : Int)), some (.ref tn), some (.ref d), o4, o5] /\ Zdj H1 H3 /\ H3 d = some (.dK kvs) /\ kvs.length <= i /\ ∀ (t n : Nat), t < i -> ns[t]? = some n -> ZeO kvs (.inl (n : Int)) = some (.int (t : Int)))
  ⟨none, none, [], rfl, s2, e2, ZbE _, fun t n h => absurd h (ZbK _)⟩ (fun i σ H3 _ ⟨_, _, _, _, S, _⟩ => SqL.of (S _ _ etn)) ?_ ?_⟩
 ·rintro i v σ H3 t hv ⟨o4, o5, kvs, rfl, S3, ek, lk, hk3⟩ ht
  have hi := (Zaj.mp hv).1
  rw [Zar] at hi
  rw [ZaA] at hv
  obtain ⟨n, hn, rfl⟩ := ZbV.mp hv
  have st := Zc2 ht (.tup [.int (i : Int), .int (n : Int)])
  refine ⟨t, _, rfl, SqT.of ZcX, rfl, _, _, rfl, _, _, rfl, rfl, ?_⟩
  refine ⟨d, _, rfl, ZlN.k (k := Sum.inl (n : Int)) (st _ _ ek) (by omega), _, _, _, rfl, ZdX (S3.trans st) hd _, ZcX, ZbA (ZdP _ _ _) (by omega), fun t' n' ht' hn' => ?_⟩
  rw [Zfp]
  by_cases z : t' = i
  ·subst z
   rw [hn] at hn'
   cases hn'
   rw [if_pos rfl]
  ·have : n' ≠ n := fun e => by
    rw [e] at hn'
    have h1 := ZgB nd hn
    rw [ZgB nd hn'] at h1
    exact z h1
   rw [if_neg (fun e => this (by injection e with e; omega))]
   exact hk3 t' n' (by omega) hn'
 ·rintro σ H3 ⟨o4, o5, kvs, rfl, S3, ek, lk, hk3⟩
  rw [Zar] at lk hk3
  have pls : Pls H3 d ns := ⟨kvs, ek, lk, fun t n h => hk3 t n (Zaj.mp h).1 h⟩
  have etn3 := S3 _ _ etn
  have S13 := S1.trans S3
  refine ⟨tn, rfl, ⟨_, SqL.of etn3⟩, fun D hD => ?_⟩
  refine ZfQ (ns.map fun n : Nat => V.int (n : Int)).length (by rw [Zar]; omega) (fun xs Hc => Ims Hc xs ((ZjZ R (ns)).take xs.length |>.map Rw.d)) (fun xs H H' h tk => h.mono tk) hD rfl (fun j H2 S2 hj => ZjC etn3 S2 hj) (fun H2 S2 => ZjD etn3 S2) .nil ?_ ?_
  ·rintro j H4 v H5 xs Z S4 hj ⟨rfl, hv⟩ hxs hl z
   have hv2 := hv _ (SqL.of (S4 _ _ etn3))
   rw [Zar] at hj
   rw [ZaA] at hv2
   obtain ⟨n, hn, rfl⟩ := ZbV.mp hv2
   obtain ⟨ρ, hρ, hw⟩ := hN.row hk hn
   have S04 := S13.trans S4
   obtain ⟨tr, wv, g1, g2, g3⟩ := ZfF (hR.mono (Zdj.tk S04)) hρ
   refine ⟨_, ⟨_, _, S04 _ _ el, ZfN⟩, _, S04 _ _ er, Zc3 (ZcZ g1) ⟨tr, d, wv, ρ, ns, rfl, g2, g3, pls.same S4, nd, hN.cl n (ZaB hn) ρ hρ, fun v' H6 S6 hv' => z _ _ S6 ?_⟩⟩
   rw [ZaC, ZaL, hl, Za2, hw, ZaZ]
   rw [hl] at hxs
   exact (hxs.mono (Zdj.tk S6)).app (.cons hv' .nil)
  ·rintro H4 xs S4 hxs hl eD
   rw [Zar] at hl
   rw [hl, Zba (by unfold ZjZ; rw [Zar]; exact ZbD _)] at hxs
   exact q D ns xs H4 (S13.trans S4) (S13.free hD) eD hxs hN
end
theorem Zq9 : (xor false (decide (wd true = ("here" : Str)))) = false := by decide +kernel
theorem Zra : (xor false (decide (wd false = ("here" : Str)))) = true := by decide +kernel
def Nmd (kvs : List (Key × V)) (W : List Rw) (i : Nat) : Prop := ∀ (t : Nat) (ρ : Rw) (x : Int), t < i -> W[t]? = some ρ -> x ∈ nmR ρ -> ∃ v, ZeO kvs (.inl x) = some v
theorem Nmd.put {kvs : List (Key × V)} {W : List Rw} {i : Nat} (h : Nmd kvs W i) (y : Int) : Nmd (Zfa kvs (.inl y) (.bl true)) W i := fun t ρ x h1 h2 h3 => by
 rw [Zfp]
 by_cases e : (Sum.inl x : Key) = Sum.inl y
 ·rw [if_pos e]; exact ⟨_, rfl⟩
 ·rw [if_neg e]; exact h t ρ x h1 h2 h3
theorem Zji (kvs : List (Key × V)) (y : Int) : ∃ v, ZeO (Zfa kvs (.inl y) (.bl true)) (.inl y) = some v := by
 rw [Zfp, if_pos rfl]
 exact ⟨_, rfl⟩
theorem ZnD {kvs : List (Key × V)} {x : Int} (h : ∃ v, ZeO kvs (.inl x) = some v) (y : Int) : ∃ v, ZeO (Zfa kvs (.inl y) (.bl true)) (.inl x) = some v := by
 rw [Zfp]
 by_cases e : (Sum.inl x : Key) = Sum.inl y
 ·rw [if_pos e]; exact ⟨_, rfl⟩
 ·rw [if_neg e]; exact h
theorem Nmd.succ {kvs : List (Key × V)} {W : List Rw} {i : Nat} {ρ : Rw} (h : Nmd kvs W i) (hρ : W[i]? = some ρ) (hn : ∀ x ∈ nmR ρ, ∃ v, ZeO kvs (.inl x) = some v) : Nmd kvs W (i + 1) := fun t ρ' x h1 h2 h3 => by
 by_cases e : t = i
 ·subst e
  rw [hρ] at h2
  cases h2
  exact hn x h3
 ·exact h t ρ' x (by omega) h2 h3
section
variable {P : Program} {w : World} {K : PySem.W.Frag} {mg : Str -> Option Value} {base : Heap}
def Zg6 : Sp := fun vs H Q _ => ∃ (th q0 q1 q2 q3 r : Addr) (pts : List Int) (ms : List Mk3) (us : List Us) (fs : List (Int × Int)) (rv : List V) (W : List Rw) (N : Int), vs = [.ref th, .ref r] /\ Th H th q0 q1 q2 q3 pts ms us fs /\ H r = some (.lst rv) /\ Ims H rv (W.map Rw.d) /\ W.length <= 8192 /\
 (∀ (t : Nat) (ρ : Rw), W[t]? = some ρ -> (ρ.y = none /\ ρ ∈ ZlI fs ms) \/ Cau us ms (W.take t) ρ) /\ (∀ t : Nat, t + 1 < W.length -> ∃ (t2 : Nat) (ρ : Rw), W[t2]? = some ρ /\ (t : Int) ∈ nmR ρ) /\ (∀ r ∈ W, r.ok N ms.length) /\ (∀ m ∈ ms, m.f.ok) /\ (∀ u ∈ us, u.ok) /\ fs.length <= 64 /\
 ∀ H', Zdj H H' -> Q (.bl true) H'
theorem Zg7 (T : Txt K mg) : Ze0 P w K mg base CX0 7 T.a_by_itself T.fd_by_itself ["_law_things_here", "_law_rows"] Zg6 := by
 have G_caused := Zic (P := P) (w := w) (base := base) T
 refine T.F_by_itself.ok ZeL (fun vs H Q E h => ?_) (fun cdv A outer s H vs Q E hr h => ?_)
 ·obtain ⟨th, q0, q1, q2, q3, r, pts, ms, us, fs, rv, W, N, rfl, _⟩ := h
  rfl
 have hu := ZhA hr
 obtain ⟨th, q0, q1, q2, q3, r, pts, ms, us, fs, rv, W, N, rfl, hT, er, hW, hWl, hwhy, hnam, hok, mo, uo, lfs, q⟩ := h
 refine ⟨_, (Zc0 (Zdn (i := 2) ZeL.nd rfl (.inr rfl) ZgG)
  (Zc0 (Zet PassesOwn.never rfl (ZhC rfl T.z_enumerate (ZcW (cv 1) Zc1)) (Zjo rfl (Ze9 (ZdG (i := 3) ZeL.nd rfl (.inl rfl)) (Ze9 (ZdG (i := 4) ZeL.nd rfl (.inl rfl)) Zhs)))
   (Zc4 (Zdz (ZfP (ZkJ (Zc8 Zc7 (cv 4) ZcY (fun _ _ => rfl))))
    (Zc0 (Zdz (PW.pt (ZfV (Zdb Zd7 (Zc8 Zc7 (cv 4) ZcY (fun _ _ => rfl)) Zdm (Zdk _)) (Zfs (Zdb (ZoA hr) (ZdB (ZcW (Zc8 Zc7 (cv 4) ZcY (fun _ _ => rfl)) (ZcW (Zc8 Zc7 (cv 4) ZcY (fun _ _ => rfl)) Zc1))) (Zc8 Zde (cv 0) ZcY (fun _ _ => rfl)) rfl))))
     (Zc4 (Zdd Zfl))
     Zdc)
    (Zc0 (Zdz (PW.pt (ZfV (Zdb Zd7 (Zc8 Zc7 (cv 4) ZcY (fun _ _ => rfl)) Zdm (Zdk _)) (Zfs (Zff (ZgE Zl1 Zln ZcY (Zc8 Zc7 (cv 4) ZcY (fun _ _ => rfl)) (Zdq Zdw rfl T.z_len Zfo (ZcW (Zc8 Zde (cv 0) ZcY (fun _ _ => rfl)) Zc1)))))))
     (Zc4 (Zdd Zfl))
     Zdc)
    (Zc4 (Zdz (PW.pt (ZfV (Zdb Zd7 (Zc8 Zc7 (cv 4) ZcY (fun _ _ => rfl)) Zdm (Zdk _)) (Zfs (Zdb ZjG (Zc8 Zc7 (Zc8 Zde (Zc8 Zde (cv 0) ZcY (fun _ _ => rfl)) (Zc8 Zc7 (cv 4) ZcY (fun _ _ => rfl)) (fun _ _ => rfl)) ZcY (fun _ _ => rfl)) (Zc8 Zc7 (cv 4) ZcY (fun _ _ => rfl)) (Zdk _)))))
     (Zc4 (Zdd Zfl))
     Zdc))))
    (Zc4 (Zdz (Zff (ZfB (Zdl G_caused (hr.mono (by decide)) rfl T.m_caused T.k_caused T.b_caused .nil Zdp (ZcW (cv 0) (ZcW (cv 1) (ZcW (cv 3) Zc1))))))
     (Zc4 (Zdd Zfl))
     (Zc0 (ZgZ hu (cv 2) (Zc8 Zc7 (Zc8 Zc7 (cv 4) ZcY (fun _ _ => rfl)) ZcY (fun _ _ => rfl)) Zfl rfl)
     (Zc4 (Zdz (Zdb Zd7 (Zc8 Zc7 (cv 4) ZcY (fun _ _ => rfl)) Zdm (Zdk _))
      (Zc4 (ZgZ hu (cv 2) (Zc8 Zc7 (Zc8 Zc7 (cv 4) ZcY (fun _ _ => rfl)) ZcY (fun _ _ => rfl)) Zfl rfl))
      Zdc))))))))
  (Zc4 (Zdd (Zdq (ZkT rfl) rfl T.z_all ZnL (ZcW (ZiD rfl (ZlO (x := "_law_number") ["_law_named_here"] [("_law_named_here", 2, s.heap.objs.size + 1)] rfl rfl (by decide +kernel) (by decide +kernel) rfl (by decide +kernel) rfl rfl (by intro p hp; simp only [Zag, ZaS, or_false] at hp; rcases hp with rfl <;> exact ⟨rfl, rfl, rfl, rfl⟩)) (ZfW rfl T.z_range (ZcW (Zeb ZnT (Zdq Zdw rfl T.z_len Zfo (ZcW (cv 1) Zc1)) ZcY) Zc1)) (fun _ _ _ _ _ => Ze3) (fun _ _ _ _ _ => (ZlT (ZnH hu (cv 0) (cv 1)) rfl))) Zc1)))))), ?_⟩
 have sl : sizeLine = 16777216 := sizeLine_eq
 have lW := hW.length
 rw [Zar] at lW
 intro d hd
 have s1 := Zc2 hd (.dK [])
 have e1 : (upd H d (.dK [])) d = some (.dK []) := ZcX
 dsimp only [Zeq]
 generalize upd H d (.dK []) = H1 at s1 e1 ⊢
 refine ⟨r, rfl, ⟨_, SqL.of (s1 _ _ er)⟩, ZgT (xs := rv) (fun i σ H2 => ∃ (o3 o4 : Option V) (kvs : List (Key × V)), σ = [some (.ref th), some (.ref r), some (.ref d), o3, o4] /\ Zdj H H2 /\ H2 d = some (.dK kvs) /\ kvs.length <= 2 * i /\ Nmd kvs W i)
  ⟨none, none, [], rfl, s1, e1, ZbE _, fun t ρ x h => absurd h (ZbK _)⟩ (fun i σ H2 _ ⟨_, _, _, _, S, _⟩ => SqL.of (S _ _ er)) ?_ ?_⟩
 ·rintro i v σ H2 t hv ⟨o3, o4, kvs, rfl, S2, ek, lk, hn⟩ ht
  have hi := (Zaj.mp hv).1
  obtain ⟨ρ, hρ⟩ : ∃ ρ, W[i]? = some ρ := ⟨_, ZaQ (by omega)⟩
  have st := Zc2 ht (.tup [.int (i : Int), v])
  refine ⟨t, _, rfl, SqT.of ZcX, rfl, _, _, rfl, _, _, rfl, rfl, ?_⟩
  have S3 := S2.trans st
  have ek3 := st _ _ ek
  generalize upd H2 t (.tup [.int (i : Int), v]) = H3 at S3 ek3 ⊢
  obtain ⟨tr, wv, g1, g2, g3⟩ := ZfF (hW.mono (Zdj.tk S3)) hρ
  rw [hv] at g1
  cases g1
  have hT3 := hT.same S3
  have hT3' := hT3
  obtain ⟨et, _, ⟨mv, em, im⟩, ⟨uv, eu, iu⟩, ⟨fv, ef, iF⟩⟩ := hT3'
  have lmv := im.length
  rw [Zar] at lmv
  dsimp only
  refine ⟨_, g2, Zc3 (ZcZ (j := 3) rfl) ⟨_, rfl, ?_⟩⟩
  rcases hwhy i ρ hρ with ⟨hy, hf⟩ | hc
  ·have nn : nmR ρ = [] := by unfold nmR; rw [hy]
   have fin : ∀ Hz : Hp, Zdj H Hz -> Hz d = some (.dK kvs) -> ∃ (o3 o4 : Option V) (kvs : List (Key × V)), [some (V.ref th), some (V.ref r), some (V.ref d), some (V.int (i : Int)), some (V.ref tr)] = [some (.ref th), some (.ref r), some (.ref d), o3, o4] /\ Zdj H Hz /\ Hz d = some (.dK kvs) /\ kvs.length <= 2 * (i + 1) /\ Nmd kvs W (i + 1) := fun Hz Sz ez => ⟨_, _, kvs, rfl, Sz, ez, by omega, hn.succ hρ (by rw [nn]; exact fun x hx => nomatch hx)⟩
   rw [hy] at g3
   rw [Zjf g3] at g2 ⊢
   rw [decide_eq_true rfl]
   refine Zfh ?_
   rcases ZmZ hf with ⟨p, hp, rfl⟩ | ⟨n, mk, hmk, rfl⟩
   ·dsimp only at g2
    refine ⟨_, g2, Zc3 (ZcZ (j := 0) rfl) ?_⟩
    dsimp only [tC, cEq, onB]
    rw [Zqp]
    refine Zfh ⟨_, g2, Zc3 (ZcZ (j := 1) rfl) ⟨_, g2, Zc3 (ZcZ (j := 2) rfl) ⟨(by show 2 <= sizeLine; decide), fun t2 h2 => ?_⟩⟩⟩
    have s4 := Zc2 h2 (.tup [.int p.1, .int p.2])
    refine ⟨_, s4 _ _ et, Zc3 (ZcZ (j := 3) rfl) ⟨q3, fv, fs.map flD, flD p, rfl, SqL.of (s4 _ _ ef), Zga (iF.mono (Zdj.tk s4)), ZoR (ZkA ZcX), fun e he => ?_, ?_, ?_⟩⟩
    ·obtain ⟨x, _, rfl⟩ := ZaT.mp he
     exact ⟨by simp [flD, ZfU, ZfA], by simp [flD, ZgI, ZfC]⟩
    ·obtain ⟨n, hn⟩ := Zbe.mp hp
     exact ⟨n, flD p, by rw [ZaA, hn]; rfl, by simp [flD, eqD, Zha, eqV]⟩
    ·dsimp only [onB]
     refine Zen ?_
     dsimp only [Ze1]
     refine ⟨_, s4 _ _ g2, Zc3 (ZcZ (j := 0) rfl) ?_⟩
     dsimp only [tC, cEq, onB]
     rw [Zq9]
     refine Zen (Zen ?_)
     dsimp only [Ze1]
     refine ⟨_, s4 _ _ g2, Zc3 (ZcZ (j := 0) rfl) ?_⟩
     dsimp only [tC, cEq, onB]
     rw [Zq9]
     exact Zen (Zen (fin _ (S3.trans s4) (s4 _ _ ek3)))
   ·dsimp only at g2
    have nl := (Zaj.mp hmk).1
    obtain ⟨mk', tm, f, hmk', hv', etm, _⟩ := ZmT im (ZaQ (show n < mv.length by omega))
    rw [hmk] at hmk'
    cases hmk'
    have ham : atI mv (n : Int) = some (.ref tm) := by
     have := ZcZ (ZaQ (show n < mv.length by omega))
     rw [hv'] at this
     exact this
    refine ⟨_, g2, Zc3 (ZcZ (j := 0) rfl) ?_⟩
    dsimp only [tC, cEq, onB]
    rw [Zqq]
    refine Zen (Zen ?_)
    dsimp only [Ze1]
    refine ⟨_, g2, Zc3 (ZcZ (j := 0) rfl) ?_⟩
    dsimp only [tC, cEq, onB]
    rw [Zra]
    refine Zfh ⟨_, g2, Zc3 (ZcZ (j := 1) rfl) ⟨_, _, rfl, rfl, _, rfl, ?_⟩⟩
    rw [decide_eq_true (show (0 : Int) <= (n : Int) by omega)]
    refine Zfh ⟨_, et, Zc3 (ZcZ (j := 1) rfl) ⟨q1, _, rfl, .inl (SqL.of em), _, _, rfl, rfl, _, rfl, ?_⟩⟩
    rw [decide_eq_true (show (n : Int) < ((mv.length : Nat) : Int) by omega)]
    refine Zen ?_
    dsimp only [Ze1]
    refine ⟨_, g2, Zc3 (ZcZ (j := 0) rfl) ?_⟩
    dsimp only [tC, cEq, onB]
    rw [Zra]
    refine Zfh ⟨_, et, Zc3 (ZcZ (j := 1) rfl) ⟨_, g2, Zc3 (ZcZ (j := 1) rfl) ⟨_, em, Zc3 ham ⟨_, etm, Zc3 (ZcZ (j := 2) rfl) ⟨_, g2, Zc3 (ZcZ (j := 2) rfl) ?_⟩⟩⟩⟩⟩
    dsimp only [tC, cEq, onB]
    rw [show (xor true (decide (mk.a = mk.a))) = false from by rw [decide_eq_true rfl]; rfl]
    exact Zen (fin _ S3 ek3)
  ·have hc' := hc
   obtain ⟨n1, n2, _, _, _, _, _, ey, _⟩ := hc'
   rw [ey] at g3
   obtain ⟨tw, rfl, ew⟩ := Zhq g3
   rw [decide_eq_false (fun z => nomatch z)]
   refine Zen ⟨th, q0, q1, q2, q3, r, pts, ms, us, fs, rv, W, N, i, ρ, rfl, hT3, S3 _ _ er, hW.mono (Zdj.tk S3), hρ, hc, hok, mo, uo, fun H4 S4 => ⟨_, rfl, Zen ?_⟩⟩
   have g24 := S4 _ _ g2
   have ew4 := S4 _ _ ew
   have ek4 := S4 _ _ ek3
   have S04 := S3.trans S4
   refine ⟨_, g24, Zc3 (ZcZ (j := 3) rfl) ⟨_, ew4, Zc3 (ZcZ (j := 0) rfl) ⟨d, _, rfl, ZlN.k (k := Sum.inl n1) ek4 (by omega), ?_⟩⟩⟩
   have l1 := ZdP kvs (Sum.inl n1 : Key) (.bl true)
   have tk : ∀ {y : Addr} {zs : List V}, H4 y = some (.tup zs) -> (upd H4 d (.dK (Zfa kvs (Sum.inl n1) (.bl true)))) y = some (.tup zs) := fun {y zs} ey => by rw [Zc6 (Zdx ey ek4 (fun h => nomatch h))]; exact ey
   have g25 := tk g24
   have ew5 := tk ew4
   have ek5 : (upd H4 d (.dK (Zfa kvs (Sum.inl n1) (.bl true)))) d = some (.dK (Zfa kvs (Sum.inl n1) (.bl true))) := ZcX
   have S05 : Zdj H (upd H4 d (.dK (Zfa kvs (Sum.inl n1) (.bl true)))) := ZdX S04 hd _
   dsimp only
   generalize upd H4 d (.dK (Zfa kvs (Sum.inl n1) (.bl true))) = H5 at g25 ew5 ek5 S05 ⊢
   refine ⟨_, g25, Zc3 (ZcZ (j := 0) rfl) ?_⟩
   obtain ⟨w', a, b, y⟩ := ρ
   dsimp only at ey
   subst ey
   dsimp only [tC, cEq, onB] at g25 ⊢
   cases w' with
   | true =>
    rw [Zq9]
    refine Zen ⟨_, _, _, rfl, S05, ek5, by omega, (hn.put n1).succ hρ fun x hx => ?_⟩
    have : x = n1 := by simpa [nmR] using hx
    rw [this]
    exact Zji _ _
   | false =>
    rw [Zra]
    have l2 := ZdP (Zfa kvs (Sum.inl n1 : Key) (.bl true)) (Sum.inl n2 : Key) (.bl true)
    refine Zfh ⟨_, g25, Zc3 (ZcZ (j := 3) rfl) ⟨_, ew5, Zc3 (ZcZ (j := 1) rfl) ⟨d, _, rfl, ZlN.k (k := Sum.inl n2) ek5 (by omega), _, _, _, rfl, ZdX S05 hd _, ZcX, by omega, ((hn.put n1).put n2).succ hρ fun x hx => ?_⟩⟩⟩
    have : x = n1 \/ x = n2 := by simpa [nmR] using hx
    rcases this with e | e
    ·rw [e]; exact ZnD (Zji _ _) _
    ·rw [e]; exact Zji _ _
 ·rintro σ H2 ⟨o3, o4, kvs, rfl, S2, ek, lk, hn⟩
  have er2 := S2 _ _ er
  refine ⟨r, _, rfl, .inl (SqL.of er2), _, rfl, by omega, by omega, fun D hD => ?_⟩
  refine ZfQ (((rv.length : Nat) : Int) - 1).toNat (by omega) (fun xs _ => xs = (Zav xs.length true).map V.bl) (fun xs _ _ h _ => h) hD rfl (fun k H _ h => ZpE h) (fun H _ => ZbD _) rfl ?_ ?_
  ·rintro j H4 v H5 xs Z S4 hj ⟨rfl, rfl⟩ hxs hl z
   rw [Int.zero_add]
   obtain ⟨t2, ρ, h1, h2⟩ := hnam j (by omega)
   obtain ⟨v, hv⟩ := hn t2 ρ (j : Int) (by have := (Zaj.mp h1).1; omega) h1 h2
   have g := ZgF.k (k := (Sum.inl (j : Int) : Key)) (S4 _ _ ek)
   rw [hv] at g
   refine ⟨d, _, rfl, g, z _ _ (Zdj.refl _) ?_⟩
   rw [ZaC, ZaL, List.replicate_succ', ZaZ, <- hxs]
   rfl
  ·rintro H4 xs S4 hxs hl eD
   refine ⟨D, Zav xs.length true, rfl, SqL.of (by rw [eD, <- hxs]), ?_⟩
   rw [show ((Zav xs.length true).all id) = true from by rw [Zbu]; intro b hb; exact (List.mem_replicate.mp hb).2]
   exact q H4 (S2.trans S4)
end
theorem Zrz {t u : TS.Internal} {D : Zjm} {σ : St} {H : Hp} (N : St -> Hp -> Prop) (k : ∀ σ' H', N σ' H' -> u D σ' H') (w : ∀ Nx : St -> Hp -> Prop, (∀ σ' H', N σ' H' -> Nx σ' H') -> t { D with nx := Nx } σ H) : Ziw t u D σ H := w _ k
theorem ZoW {ns : List Nat} (nd : ns.Nodup) {i : Nat} (h : i ∈ ns) : atI (ns.map fun n : Nat => V.int (n : Int)) (pl ns (i : Int)) = some (.int (i : Int)) := by
 unfold pl
 rw [ZcK]
 exact ZcZ (by rw [ZaA, ZkE nd h]; rfl)
section
variable {P : Program} {w : World} {K : PySem.W.Frag} {mg : Str -> Option Value} {base : Heap}
def Zj0 : Sp := fun vs H Q _ => ∃ (f nl : Addr) (xs : List V) (R : List Rw) (k : Nat) (ns : List Nat), vs = [.ref f, .ref nl] /\ H f = some (.lst xs) /\ Ims H xs ((ZjZ R ns).map Rw.d) /\ H nl = some (.lst (ns.map fun n : Nat => V.int (n : Int))) /\ Zid R k ns /\ k < R.length /\ R.length <= 8192 /\
 ∀ (l : Addr) (ys : List V) (H' : Hp), Zdj H H' -> H' l = some (.lst ys) -> Ims H' ys ((ns.map (Zjd R)).map Rw.d) -> Q (.ref l) H'
theorem Zj1 (T : Txt K mg) : Ze0 P w K mg base CX0 1 T.a_back T.fd_back ["_law_found", "_law_numbers"] Zj0 := by
 refine T.F_back.ok ZeZ (fun vs H Q E h => ?_) (fun cdv A outer s H vs Q E hr h => ?_)
 ·obtain ⟨f, nl, xs, R, k, ns, rfl, _⟩ := h
  rfl
 obtain ⟨f, nl, xs, R, k, ns, rfl, ef, hW, en, hN, hk, hRl, q⟩ := h
 refine ⟨_, (Zc0 (Zdn (i := 2) ZeZ.nd rfl (.inl rfl) (ZdJ Zc1))
  (Zc0 (Zet PassesOwn.never rfl (Zd0 (cv 0)) (ZdG (i := 3) ZeZ.nd rfl (.inl rfl))
   (Zc0 (Zdn (i := 4) ZeZ.nd rfl (.inl rfl) (Zc8 Zc7 (cv 3) ZcY (fun _ _ => rfl)))
   (Zc0 (Zdz (PW.pt (ZfV (ZfP (Ziv (cv 4))) (Zfs (Zdb Zd7 (Zc8 Zc7 (cv 3) ZcY (fun _ _ => rfl)) Zdm (Zdk _)))))
    (Zc4 (Zdn (i := 4) ZeZ.nd rfl (.inl rfl) (ZdB (ZcW (Zc8 Zde (cv 1) (Zc8 Zc7 (cv 4) ZcY (fun _ _ => rfl)) (fun _ _ => rfl)) (ZcW (Zc8 Zc7 (cv 4) ZcY (fun _ _ => rfl)) Zc1)))))
    (Zc4 (Zdz (ZfP (Ziv (cv 4)))
     (Zc4 (Zdn (i := 4) ZeZ.nd rfl (.inl rfl) (ZdB (ZcW (Zc8 Zde (cv 1) (Zc8 Zc7 (cv 4) ZcY (fun _ _ => rfl)) (fun _ _ => rfl)) (ZcW (Zc8 Zde (cv 1) (Zc8 Zc7 (cv 4) ZcY (fun _ _ => rfl)) (fun _ _ => rfl)) Zc1)))))
     Zdc)))
   (Zc4 (Zdr (Ze4 (ZfT Zcv Zcw Zcx ZdA (PE.mono (cv 2)) (ZcW (PE.mono (ZdB (ZcW (Zc8 Zc7 (cv 3) ZcY (fun _ _ => rfl)) (ZcW (Zc8 Zc7 (cv 3) ZcY (fun _ _ => rfl)) (ZcW (Zc8 Zc7 (cv 3) ZcY (fun _ _ => rfl)) (ZcW (cv 4) Zc1)))))) Zc1))))))))
  (Zc4 (Zdd (cv 2))))), ?_⟩
 have sl : sizeLine = 16777216 := sizeLine_eq
 have nlen := hN.len
 have lW := hW.length
 unfold ZjZ at lW
 rw [Zar, Zar] at lW
 refine ⟨(by show 0 <= sizeLine; decide), fun bl hbl => ?_⟩
 have s1 := Zc2 hbl (.lst [])
 have e1 : (upd H bl (.lst [])) bl = some (.lst []) := ZcX
 dsimp only [Zeq]
 generalize upd H bl (.lst []) = H1 at s1 e1 ⊢
 refine ⟨f, rfl, ⟨_, SqL.of (s1 _ _ ef)⟩, Zea (xs := xs) (fun i σ H2 => ∃ (o3 o4 : Option V) (ys : List V), σ = [some (.ref f), some (.ref nl), some (.ref bl), o3, o4] /\ Zdj H H2 /\ H2 bl = some (.lst ys) /\ Ims H2 ys (((ns.take i).map (Zjd R)).map Rw.d))
  ⟨none, none, [], rfl, s1, e1, .nil⟩ (fun i σ H2 _ ⟨_, _, _, _, S, _⟩ => SqL.of (S _ _ ef)) ?_ ?_⟩
 ·rintro i v σ H2 hv ⟨o3, o4, ys, rfl, S2, eb, hy⟩
  have hi := (Zaj.mp hv).1
  obtain ⟨n, hn⟩ : ∃ n, ns[i]? = some n := ⟨_, ZaQ (by omega)⟩
  obtain ⟨ρ, hρ, hw⟩ := hN.row hk hn
  obtain ⟨tr, wv, g1, g2, g3⟩ := ZfF (hW.mono (Zdj.tk S2)) hw
  rw [hv] at g1
  cases g1
  have hcl := hN.cl n (ZaB hn) ρ hρ
  have ly := hy.length
  rw [Zar, Zar, Zax] at ly
  have en2 := S2 _ _ en
  dsimp only [Zeq]
  refine ⟨_, g2, Zc3 (ZcZ (j := 3) rfl) ?_⟩
  dsimp only
  refine Zrz (fun σ' H' => ∃ wz : V, σ' = [some (.ref f), some (.ref nl), some (.ref bl), some (.ref tr), some wz] /\ Zdj H2 H' /\ Im H' wz (ZjH ρ.y)) ?_ ?_
  ·rintro σ' H3 ⟨wz, rfl, S3, hz⟩
   have eb3 := S3 _ _ eb
   have g23 := S3 _ _ g2
   refine ⟨⟨_, eb3⟩, _, g23, Zc3 (ZcZ (j := 0) rfl) ⟨_, g23, Zc3 (ZcZ (j := 1) rfl) ⟨_, g23, Zc3 (ZcZ (j := 2) rfl) ⟨(by show 4 <= sizeLine; decide), fun t2 h2 => ?_⟩⟩⟩⟩
   have s4 := Zc2 h2 (.tup [.str (wd ρ.w), .int ρ.a, .int ρ.b, wz])
   have eb4 := s4 _ _ eb3
   have k5 := ZgL (o := .lst (ys ++ [.ref t2])) eb4
   refine ⟨_, eb4, by omega, _, _, ys ++ [.ref t2], rfl, ZdX (S2.trans (S3.trans s4)) hbl _, ZcX, ?_⟩
   rw [Za2, hn, ZaZ, ZaZ]
   refine (((hy.mono (Zdj.tk S3)).mono (Zdj.tk s4)).mono k5.tk).app (.cons ?_ .nil)
   show Im _ (.ref t2) (Rw.d (Zjd R n))
   rw [Zje hρ]
   exact .tup (k5.tk _ _ ZcX) (.cons (.flat rfl) (.cons (.flat rfl) (.cons (.flat rfl) (.cons ((hz.mono (Zdj.tk s4)).mono k5.tk) .nil))))
  ·intro Nx hNx
   obtain ⟨w', a, b, y⟩ := ρ
   cases y with
   | none =>
    have g3 : Im H2 wv (ZjH none) := g3
    have hwv := Zjf g3
    subst hwv
    refine ⟨_, rfl, ?_⟩
    rw [decide_eq_true rfl]
    refine Zen (Zen ⟨_, rfl, ?_⟩)
    rw [decide_eq_true rfl]
    exact Zen (hNx _ _ ⟨.non, rfl, Zdj.refl _, g3⟩)
   | some x =>
    obtain ⟨x1, x2⟩ := x
    have g3 : Im H2 wv (ZjH (some (pl ns x1, if w' = true then x2 else pl ns x2))) := g3
    obtain ⟨tw, rfl, ew⟩ := Zhq g3
    refine ⟨_, rfl, ?_⟩
    rw [decide_eq_false (fun z => nomatch z)]
    refine Zfh ⟨_, g2, Zc3 (ZcZ (j := 0) rfl) ?_⟩
    obtain ⟨i1, hi1, rfl⟩ := hcl x1 (by cases w' <;> simp [nmR])
    dsimp only [tC, cEq, onB] at ew ⊢
    cases w' with
    | true =>
     rw [show wd (ren ns ⟨true, a, b, some ((i1 : Int), x2)⟩).w = wd true from rfl, Zqp]
     refine Zfh ⟨_, ew, Zc3 (ZcZ (j := 0) rfl) ⟨_, en2, Zc3 (ZoW hN.nd hi1) ⟨_, ew, Zc3 (ZcZ (j := 1) rfl) ⟨(by show 2 <= sizeLine; decide), fun t2 h2 => hNx _ _ ⟨_, rfl, Zc2 h2 _, .tup ZcX (.cons (.flat rfl) (.cons (.flat rfl) .nil))⟩⟩⟩⟩⟩
    | false =>
     obtain ⟨i2, hi2, rfl⟩ := hcl x2 (by simp [nmR])
     rw [show wd (ren ns ⟨false, a, b, some ((i1 : Int), ((i2 : Nat) : Int))⟩).w = wd false from rfl, Zqq]
     refine Zen ⟨_, rfl, ?_⟩
     rw [decide_eq_false (fun z => nomatch z)]
     refine Zfh ⟨_, ew, Zc3 (ZcZ (j := 0) rfl) ⟨_, en2, Zc3 (ZoW hN.nd hi1) ⟨_, ew, Zc3 (ZcZ (j := 1) rfl) ⟨_, en2, Zc3 (ZoW hN.nd hi2) ⟨(by show 2 <= sizeLine; decide), fun t2 h2 => hNx _ _ ⟨_, rfl, Zc2 h2 _, .tup ZcX (.cons (.flat rfl) (.cons (.flat rfl) .nil))⟩⟩⟩⟩⟩⟩
 ·rintro σ H2 ⟨o3, o4, ys, rfl, S2, eb, hy⟩
  rw [lW, Za9] at hy
  exact q bl ys H2 S2 eb hy
end
theorem ZoX {α : Type} (xs : List α) (x : α) : atI (xs ++ [x]) (-1) = some x := by
 unfold atI ixN
 rw [if_neg (by decide), if_pos (by rw [ZaC, ZaL]; omega)]
 have e : (-1 + ((xs ++ [x]).length : Int)).toNat = xs.length := by rw [ZaC, ZaL]; omega
 rw [e]
 show (xs ++ [x])[xs.length]? = some x
 simp
noncomputable def iD (n : Int) : Dt := .flat (.int n)
theorem Zqc {H : Hp} : ∀ l : List Int, Ims H (l.map V.int) (l.map iD)
 | [] => .nil
 | n :: t => .cons (.flat rfl) (Zqc t)
theorem Zrb : ∀ l : List Int, Zha (l.map iD) (l.map iD) = true /\ ZfA (l.map iD) (l.map iD) = true
 | [] => ⟨by rw [ZaH, Zha], by rw [ZaH, ZfA]; all_goals simp⟩
 | n :: t => by
  obtain ⟨h1, h2⟩ := Zrb t
  refine ⟨?_, ?_⟩
  ·rw [Zaq, Zha, h1]
   simp [iD, eqD, eqV]
  ·rw [Zaq, ZfA, h2]
   simp [iD, ZfU]
theorem Zqd {K : PySem.W.Frag} {H : Hp} {a : Addr} {l : List Int} (e : H a = some (.lst (l.map V.int))) : At K H (.ref a) (.lst (l.map iD)) := .lst (SqL.of e) (Zga (Zqc l))
theorem Zqe (l : List Int) : ZfU (.lst (l.map iD)) (.lst (l.map iD)) = true := by
 rw [ZfU, if_pos rfl]
 exact (Zrb l).2
theorem Zqf (l : List Int) : ZgI (.lst (l.map iD)) <= 100 := by
 have : ZfC (l.map iD) <= 0 := ZgK fun p _ => by simp [iD, ZgI]
 show ZfC (l.map iD) + 1 <= 100
 omega
theorem Zqg {d : Dt} (h : eqD d d = true) : (if true = true then !eqD d d else eqD d d) = false := by
 rw [if_pos rfl, h]
 rfl
theorem Zlf {d : Dt} (h : eqD d d = true) : (if false = true then !eqD d d else eqD d d) = true := by
 rw [if_neg Zcy, h]
theorem Zrc (l : List Int) : eqD (.lst (l.map iD)) (.lst (l.map iD)) = true := by
 rw [eqD]
 exact (Zrb l).1
noncomputable def rL (W : List Rw) : Dt := .lst (W.map Rw.d)
theorem Zj2 {K : PySem.W.Frag} {H : Hp} {a : Addr} {xs : List V} {W : List Rw} (e : H a = some (.lst xs)) (h : Ims H xs (W.map Rw.d)) : At K H (.ref a) (rL W) := .lst (SqL.of e) (Zga h)
theorem ZnE (W : List Rw) : eqD (rL W) (rL W) = true := by
 unfold rL
 rw [eqD]
 exact (ZoS W).1
theorem Zlg (W : List Rw) : ZfU (rL W) (rL W) = true := by
 unfold rL
 rw [ZfU, if_pos rfl]
 exact (ZoS W).2
theorem Zlh (W : List Rw) : ZgI (rL W) <= 100 := Zp7 W
theorem Zjj : ∀ {a b : List Nat}, a.Pairwise (· < ·) -> b.Pairwise (· < ·) -> (∀ x, x ∈ a ↔ x ∈ b) -> a = b
 | [], [], _, _, _ => rfl
 | [], y :: b, _, _, h => by have := (h y).mpr Zae; cases this
 | x :: a, [], _, _, h => by have := (h x).mp Zae; cases this
 | x :: a, y :: b, ha, hb, h => by
  rw [List.pairwise_cons] at ha hb
  have e : x = y := by
   have h1 := (h x).mp Zae
   have h2 := (h y).mpr Zae
   rcases Zag.mp h1 with e | h1
   ·exact e
   ·rcases Zag.mp h2 with e | h2
    ·exact e.symm
    ·have := ha.1 y h2
     have := hb.1 x h1
     omega
  subst e
  rw [Zjj ha.2 hb.2 fun z => ?_]
  constructor
  ·intro hz
   rcases Zag.mp ((h z).mp (Zaf _ hz)) with e | hz'
   ·subst e; have := ha.1 z hz; omega
   ·exact hz'
  ·intro hz
   rcases Zag.mp ((h z).mpr (Zaf _ hz)) with e | hz'
   ·subst e; have := hb.1 z hz; omega
   ·exact hz'
theorem Zli {R : List Rw} {k : Nat} {ns ms : List Nat} (ah : Ahd R) (h : Zid R k ns) (g : Zid R k ms) : ∀ d n, k - n <= d -> n ∈ ns -> n ∈ ms := by
 intro d
 induction d with
 | zero =>
  intro n hd hn
  have := h.le n hn
  have e : n = k := by omega
  rw [e]
  exact g.mem
 | succ d ih =>
  intro n hd hn
  by_cases e : n = k
  ·rw [e]; exact g.mem
  ·obtain ⟨m, m1, ρ, m2, m3⟩ := h.nam n hn e
   obtain ⟨i, e1, e2⟩ := ah m ρ _ m2 m3
   have : n = i := by omega
   subst this
   have := h.le m m1
   obtain ⟨j, j1, j2⟩ := g.cl m (ih m (by omega) m1) ρ m2 _ m3
   have : n = j := by omega
   rw [this]
   exact j1
theorem Zj3 {R : List Rw} {k : Nat} {ns ms : List Nat} (ah : Ahd R) (h : Zid R k ns) (g : Zid R k ms) : ns = ms := Zjj h.srt g.srt fun x => ⟨Zli ah h g (k - x) x (ZbD _), Zli ah g h (k - x) x (ZbD _)⟩
theorem Zrd (a b c d : V) : Zhl [a, b, c, d] none (some 3) = [a, b, c] := rfl
theorem Zjk : ¬ (HT.Internal.sIx 4 0 none = 0 /\ HT.Internal.sIx 4 4 (some 3) = 4) := fun z => absurd z.2 (by decide)
section
variable {P : Program} {w : World} {K : PySem.W.Frag} {mg : Str -> Option Value} {base : Heap}
def ZkF (L : Addr) : Sp := fun vs H Q _ => ∃ (th q0 q1 q2 q3 lg dl r bd : Addr) (pts : List Int) (ms : List Mk3) (us : List Us) (fs : List (Int × Int)) (rv bv : List V) (R : List Rw) (N : Int) (k : Nat), vs = [.ref th, .ref lg, .int (k : Int)] /\ Th H th q0 q1 q2 q3 pts ms us fs /\ H lg = some (.ins L dl (fL r bd)) /\ H r = some (.lst rv) /\ Ims H rv (R.map Rw.d) /\ H bd = some (.lst bv) /\
 Cz us ms (ZlI fs ms) R /\ (R.map Rw.k).Nodup /\ (∀ r ∈ R, r.ok N ms.length) /\ (∀ m ∈ ms, m.f.ok) /\ (∀ u ∈ us, u.ok) /\ fs.length <= 64 /\ k < R.length /\ R.length <= 4040 /\ ∀ H', Zdj H H' -> Q (.bl true) H'
theorem ZkG (T : Txt K mg) : Ze0 P w K mg base CX0 9 T.a_one T.fd_one ["_law_things_here", "_law_log", "_law_k"] (ZkF T.a_Log) := by
 have G_way := Zqb (P := P) (w := w) (base := base) T
 have G_shaped := Zgo (P := P) (w := w) (base := base) T
 have G_by_itself := Zg7 (P := P) (w := w) (base := base) T
 have G_back := Zj1 (P := P) (w := w) (base := base) T
 have G_Log___init__ := Zf3 (P := P) (w := w) (base := base) T
 refine T.F_one.ok ZeE (fun vs H Q E h => ?_) (fun cdv A outer s H vs Q E hr h => ?_)
 ·obtain ⟨th, q0, q1, q2, q3, lg, dl, r, bd, pts, ms, us, fs, rv, bv, R, N, k, rfl, _⟩ := h
  rfl
 have hu := ZhA hr
 obtain ⟨th, q0, q1, q2, q3, lg, dl, r, bd, pts, ms, us, fs, rv, bv, R, N, k, rfl, hT, el, er, hR, eb, cz, hnd, hok, mo, uo, lfs, hk, hRl, q⟩ := h
 refine ⟨_, (Zc0 (Zdn (i := 3) ZeE.nd rfl (.inl rfl) (Zdl G_way (hr.mono (by decide)) rfl T.m_way T.k_way T.b_way .nil Zdp (ZcW (cv 1) (ZcW (cv 2) Zc1))))
  (Zc0 (Zdz (PW.pt (Zhr (Zff (ZfB (Zdl G_shaped (hr.mono (by decide)) rfl T.m_shaped T.k_shaped T.b_shaped .nil Zdp (ZcW (cv 3) Zc1)))) (Zhr (Zdb Zd7 (Zdq Zdw rfl T.z_len Zfo (ZcW (cv 3) Zc1)) ZcY (Zdk _)) (Zg8 (Zff (ZfB (Zdl G_by_itself (hr.mono (by decide)) rfl T.m_by_itself T.k_by_itself T.b_by_itself .nil Zdp (ZcW (cv 0) (ZcW (cv 3) Zc1)))))))))
   (Zc4 (Zdd Zfl))
   Zdc)
  (Zc0 (Zdn (i := 4) ZeE.nd rfl (.inr rfl) ZkR)
  (Zc0 (Zet PassesOwn.never rfl (ZhC rfl T.z_enumerate (ZcW (Zdi T.cl_Log T.n_Log_rows (cv 1)) Zc1)) (Zjo rfl (Ze9 (ZdG (i := 5) ZeE.nd rfl (.inl rfl)) (Ze9 (ZdG (i := 6) ZeE.nd rfl (.inl rfl)) Zhs)))
   (Zc4 (ZgZ hu (cv 4) (Zfb Zmc (cv 6) ZfY (Zfm ZcY)) (cv 5) rfl)))
  (Zc0 (Zet PassesOwn.never rfl (Zd0 (cv 3)) (ZdG (i := 6) ZeE.nd rfl (.inl rfl))
   (Zc4 (Zdz (ZfP (ZfX hu (Zfb Zmc (cv 6) ZfY (Zfm ZcY)) (cv 4)) rfl)
    (Zc4 (Zdd Zfl))
    Zdc)))
  (Zc0 (Zhm (j := 7) rfl (ZlO (x := "_law_row") ["_law_spots"] [("_law_spots", 4, s.heap.objs.size + 2)] rfl rfl (by decide +kernel) (by decide +kernel) rfl (by decide +kernel) rfl rfl (by intro p hp; simp only [Zag, ZaS, or_false] at hp; rcases hp with rfl <;> exact ⟨rfl, rfl, rfl, rfl⟩)) (Zd0 (cv 3)) (fun _ _ _ _ _ => Ze3) (fun _ _ _ _ _ => (Zgq hu (cv 1) (Zfb (r := Zrp K) Zmc (cv 0) ZfY (Zfm ZcY)) (fun _ _ => rfl))) ZeE.nd rfl (.inl rfl))
  (Zc0 (Zdz (PW.pt (Zhr (Zdb ZjG (Zc8 Zde (cv 7) (ZqA Zpi ZcY) (fun _ _ => rfl)) (cv 2) (Zdk _)) (Zhr (Zdb (ZnP hr) (cv 7) (Zdq ZjK rfl T.z_sorted ZjI (ZcW (cv 7) Zc1)) (Zdk _)) (Zg8 (Zdb ZjG (Zdq Zkp rfl T.z_len Zfo (ZcW (ZeP (ZmF rfl) rfl T.z_set ZpO (ZcW (cv 7) Zc1)) Zc1)) (Zdq Zdw rfl T.z_len Zfo (ZcW (cv 7) Zc1)) (Zdk _))))))
   (Zc4 (Zdd Zfl))
   Zdc)
  (Zc0 (Zdz (Zdb (ZnP hr) (Zdl G_back (hr.mono (by decide)) rfl T.m_back T.k_back T.b_back .nil Zdp (ZcW (cv 3) (ZcW (cv 7) Zc1))) (ZiD rfl (ZlO (x := "_law_number") ["_law_log"] [("_law_log", 1, s.heap.objs.size + 1)] rfl rfl (by decide +kernel) (by decide +kernel) rfl (by decide +kernel) rfl rfl (by intro p hp; simp only [Zag, ZaS, or_false] at hp; rcases hp with rfl <;> exact ⟨rfl, rfl, rfl, rfl⟩)) (Zd0 (cv 7)) (fun _ _ _ _ _ => Ze3) (fun _ _ _ _ _ => (Zc8 Zde (Zdi T.cl_Log T.n_Log_rows (cv 1)) (cv 0) (fun _ _ => rfl)))) (Zdk _))
   (Zc4 (Zdd Zfl))
   Zdc)
  (Zc0 (Zdn (i := 8) ZeE.nd rfl (.inl rfl) (ZeP Zfg rfl T.z_list Zgr (ZcW (cv 3) Zc1)))
  (Zc0 (Zpa ZfO (Zo9 (cv 3) ZcY Zne))
  (Zc0 (Zdr (Ze4 (ZfT Zcv Zcw Zcx ZdA (PE.mono (cv 3)) (ZcW (PE.mono ZfO) Zc1))))
  (Zc4 (Zdd (Zgh (Zfz (ZkV hr) (Zdl G_way (hr.mono (by decide)) rfl T.m_way T.k_way T.b_way .nil Zdp (ZcW (cv 1) (ZcW (cv 2) Zc1))) (cv 8) (Zdk _)) (Zii (Zfz (ZkV hr) (Zdl G_way (hr.mono (by decide)) rfl T.m_way T.k_way T.b_way .nil Zdp (ZcW (ZfH T.mk_Log G_Log___init__ (hr.mono (by decide)) rfl T.m_Log T.b_Log___init__ .nil Zdp (ZcW (ZeP Zfg rfl T.z_list Zgr (ZcW (Zdi T.cl_Log T.n_Log_rows (cv 1)) Zc1)) (ZcW (ZeP Zfg rfl T.z_list Zgr (ZcW (Zdi T.cl_Log T.n_Log_bads (cv 1)) Zc1)) Zc1))) (ZcW (cv 2) Zc1))) (cv 8) (Zdk _))))))))))))))))), ?_⟩
 have sl : sizeLine = 16777216 := sizeLine_eq
 have ah := Zp9 cz
 have lrv := hR.length
 rw [Zar] at lrv
 refine ⟨lg, dl, r, bd, rv, R, k, rfl, el, er, hR, hk, by omega, ah, fun t ns xs H1 S1 ht et hW hN => ?_⟩
 dsimp only [Zeq]
 have nd := hN.nd
 have nlen := hN.len
 have lx := hW.length
 have wl : (ZjZ R ns).length = ns.length := by unfold ZjZ; rw [Zar]
 rw [Zar, wl] at lx
 refine ⟨t, xs, ZjZ R ns, rfl, et, hW, _, rfl, Zen ⟨t, _, rfl, .inl (SqL.of et), ?_⟩⟩
 dsimp only [tC, cEq, onB]
 rw [show (xor false (decide (((xs.length : Nat) : Int) = 0))) = false from by rw [decide_eq_false (by omega)]; rfl]
 refine Zen ⟨th, q0, q1, q2, q3, t, pts, ms, us, fs, xs, ZjZ R ns, N, rfl, hT.same S1, et, hW, by omega, fun u ρ hu' => ZoU cz hN hk hu', fun u hu' => hN.named hk (by omega), fun ρ hρ => ?_, mo, uo, lfs, fun H2 S2 => ⟨_, rfl, Zen ?_⟩⟩
 ·obtain ⟨u, hu'⟩ := Zbe.mp hρ
  have ul := (Zaj.mp hu').1
  obtain ⟨n, hn⟩ : ∃ n, ns[u]? = some n := ⟨_, ZaQ (by omega)⟩
  obtain ⟨ρ0, h1, h2⟩ := hN.row hk hn
  rw [hu'] at h2
  cases h2
  exact hok ρ0 (ZaB h1)
 dsimp only [Ze1]
 intro d hd
 have s3 := Zc2 hd (.dT [])
 have e3 : (upd H2 d (.dT [])) d = some (.dT []) := ZcX
 dsimp only [Zeq]
 generalize upd H2 d (.dT []) = H3 at s3 e3 ⊢
 have S12 := S1.trans S2
 have S13 := S12.trans s3
 have hd0 : H d = none := S12.free hd
 refine ⟨_, ⟨_, _, S13 _ _ el, ZfN⟩, r, rfl, ⟨_, SqL.of (S13 _ _ er)⟩, ZgT (xs := rv) (fun i σ H4 => ∃ (o5 o6 : Option V) (kvs : List (List Key × V)), σ = [some (.ref th), some (.ref lg), some (.int (k : Int)), some (.ref t), some (.ref d), o5, o6, none, none] /\ Zdj H2 H4 /\ H4 d = some (.dT kvs) /\ kvs.length <= i /\ ∀ (n : Nat) (ρ : Rw), n < i -> R[n]? = some ρ -> ZeO kvs ρ.k = some (.int (n : Int)))
  ⟨none, none, [], rfl, s3, e3, ZbE _, fun n ρ h => absurd h (ZbK _)⟩ (fun i σ H4 _ ⟨_, _, _, _, S, _⟩ => SqL.of ((S12.trans S) _ _ er)) ?_ ?_⟩
 ·rintro i v σ H4 t1 hv ⟨o5, o6, kvs, rfl, S4, ek, lk, hin⟩ ht1
  have hi := (Zaj.mp hv).1
  obtain ⟨ρ, hρ⟩ : ∃ ρ, R[i]? = some ρ := ⟨_, ZaQ (by omega)⟩
  have st := Zc2 ht1 (.tup [.int (i : Int), v])
  refine ⟨t1, _, rfl, SqT.of ZcX, rfl, _, _, rfl, _, _, rfl, rfl, ?_⟩
  have S5 := S4.trans st
  have ek5 := st _ _ ek
  generalize upd H4 t1 (.tup [.int (i : Int), v]) = H5 at S5 ek5 ⊢
  obtain ⟨tr, wv, g1, g2, _⟩ := ZfF (hR.mono (Zdj.tk (S12.trans S5))) hρ
  rw [hv] at g1
  cases g1
  refine ⟨_, rfl, tr, _, rfl, SqT.of g2, Zjk, fun p hp => ?_⟩
  rw [Zrd]
  have s6 := Zc2 hp (.tup (ρ.k.map kV))
  have e6 : (upd H5 p (.tup (ρ.k.map kV))) p = some (.tup (ρ.k.map kV)) := ZcX
  refine ⟨d, upd (upd H5 p (.tup (ρ.k.map kV))) d (.dT (Zfa kvs ρ.k (.int (i : Int)))), rfl, ZlN.t (k := ρ.k) (s6 _ _ ek5) e6 (by omega), _, _, _, rfl, ZdX (S5.trans s6) hd _, ZcX, ZbA (ZdP _ _ _) (by omega), fun n ρ' hn hρ' => ?_⟩
  rw [Zfp]
  by_cases z : n = i
  ·subst z
   rw [hρ] at hρ'
   cases hρ'
   rw [if_pos rfl]
  ·have hne : ρ'.k ≠ ρ.k := fun e => by
    have a1 : (R.map Rw.k)[n]? = some ρ.k := by rw [ZaA, hρ', <- e]; rfl
    have a2 : (R.map Rw.k)[i]? = some ρ.k := by rw [ZaA, hρ]; rfl
    obtain ⟨b1, b2⟩ := Zaj.mp a1
    obtain ⟨c1, c2⟩ := Zaj.mp a2
    exact (Zbl.mp hnd n i b1 c1 (by omega)) (b2.trans c2.symm)
   rw [if_neg hne]
   exact hin n ρ' (by omega) hρ'
 rintro σ H4 ⟨o5, o6, kvs, rfl, S4, ek, lk, hin⟩
 have S14 := S12.trans S4
 have et4 := (S2.trans S4) _ _ et
 have hW4 := (hW.mono (Zdj.tk S2)).mono (Zdj.tk S4)
 have look : ∀ {i n : Nat} {ρ : Rw}, ns[i]? = some n -> R[n]? = some ρ -> ZeO kvs ρ.k = some (.int (n : Int)) := fun {i n ρ} hn hρ => hin n ρ (by have := hN.le n (ZaB hn); omega) hρ
 dsimp only [Ze1]
 refine ⟨t, rfl, ⟨_, SqL.of et4⟩, Zea (xs := xs) (fun i σ H5 => ∃ (o6 : Option V), σ = [some (.ref th), some (.ref lg), some (.int (k : Int)), some (.ref t), some (.ref d), o5, o6, none, none] /\ Zdj H4 H5) ⟨o6, rfl, Zdj.refl _⟩ (fun i σ H5 _ ⟨_, _, S⟩ => SqL.of (S _ _ et4)) ?_ ?_⟩
 ·rintro i v σ H5 hv ⟨o6, rfl, S5⟩
  have hi := (Zaj.mp hv).1
  obtain ⟨n, hn⟩ : ∃ n, ns[i]? = some n := ⟨_, ZaQ (by omega)⟩
  obtain ⟨ρ, hρ, hw⟩ := hN.row hk hn
  obtain ⟨tr, wv, g1, g2, _⟩ := ZfF (hW4.mono (Zdj.tk S5)) hw
  rw [hv] at g1
  cases g1
  refine ⟨_, rfl, tr, _, rfl, SqT.of g2, Zjk, fun p hp => ?_⟩
  rw [Zrd]
  have s6 := Zc2 hp (.tup (ρ.k.map kV))
  have g := ZgF.t (k := ρ.k) (s6 _ _ (S5 _ _ ek)) ZcX
  rw [look hn hρ] at g
  exact ⟨d, _, rfl, g, _, rfl, Zen ⟨_, rfl, S5.trans s6⟩⟩
 rintro σ H5 ⟨o6, rfl, S5⟩
 have et5 := S5 _ _ et4
 have hW5 := hW4.mono (Zdj.tk S5)
 have ek5 := S5 _ _ ek
 have S15 := S14.trans S5
 dsimp only [Ze1]
 refine ⟨t, rfl, ⟨_, SqL.of et5⟩, fun D hD => ?_⟩
 refine ZfQ xs.length (by omega) (fun zs _ => zs = (ns.take zs.length).map fun n : Nat => V.int (n : Int)) (fun _ _ _ h _ => h) hD rfl (fun j H2 S2 hj => ZjC et5 S2 hj) (fun H2 S2 => ZjD et5 S2) rfl ?_ ?_
 ·rintro j H6 v H7 zs Z S6 hj ⟨rfl, hv⟩ hxs hl z
  have hv2 := hv _ (SqL.of (S6 _ _ et5))
  obtain ⟨n, hn⟩ : ∃ n, ns[j]? = some n := ⟨_, ZaQ (by omega)⟩
  obtain ⟨ρ, hρ, hw⟩ := hN.row hk hn
  obtain ⟨tr, wv, g1, g2, _⟩ := ZfF (hW5.mono (Zdj.tk S6)) hw
  rw [hv2] at g1
  cases g1
  refine ⟨_, rfl, tr, _, rfl, SqT.of g2, Zjk, fun p hp => ?_⟩
  rw [Zrd]
  have s6 := Zc2 hp (.tup (ρ.k.map kV))
  have g := ZgF.t (k := ρ.k) (s6 _ _ (S6 _ _ ek5)) ZcX
  rw [look hn hρ] at g
  refine ⟨d, _, rfl, g, z _ _ s6 ?_⟩
  rw [ZaC, ZaL, hl, Za2, hn, ZaZ]
  rw [hl] at hxs
  rw [<- hxs]
  rfl
 rintro H6 zs S6 hzs hl eD
 rw [hl, lx, Za9] at hzs
 subst hzs
 have S16 := S15.trans S6
 dsimp only [Zeq]
 obtain ⟨ns0, hns0⟩ : ∃ ns0, ns = ns0 ++ [k] := by
  have h1 := hN.last
  refine ⟨ns.take (ns.length - 1), ?_⟩
  have h2 : ns.take (ns.length - 1 + 1) = ns.take (ns.length - 1) ++ (ns[ns.length - 1]?).toList := Za2
  rw [h1, show ns.length - 1 + 1 = ns.length by omega, Za9] at h2
  exact h2
 have eDi : H6 D = some (.lst ((ns.map fun n : Nat => (n : Int)).map V.int)) := by rw [eD, Zbw]; rfl
 refine ⟨_, rfl, _, eD, Zc3 (v := V.int (k : Int)) (by rw [hns0, ZaZ]; exact ZoX _ _) ?_⟩
 show if (true ^^ decide ((k : Int) = (k : Int))) = true then _ else _
 rw [show (true ^^ decide ((k : Int) = (k : Int))) = false from by rw [decide_eq_true rfl]; rfl]
 refine Zen ⟨D, _, rfl, SqL.of eDi, fun ls ns' hls hp' hs' => ?_⟩
 obtain ⟨ns2, rfl, pn⟩ := ZhK hp' ns rfl
 have e2 : ns2 = ns := by
  refine Zjj ?_ hN.srt fun x => pn.mem_iff
  have nd2 : ns2.Nodup := pn.nodup_iff.mpr nd
  rw [Zbp] at hs'
  refine List.Pairwise.imp (R := fun a b : Nat => ((a : Nat) : Int) <= ((b : Nat) : Int) /\ a ≠ b) (fun h => by omega) (hs'.and nd2)
 subst e2
 have s7 := Zc2 hls (.lst ((ns2.map fun n : Nat => (n : Int)).map V.int))
 have els : (upd H6 ls (.lst ((ns2.map fun n : Nat => (n : Int)).map V.int))) ls = some (.lst ((ns2.map fun n : Nat => (n : Int)).map V.int)) := ZcX
 have eD7 := s7 _ _ eDi
 generalize upd H6 ls (.lst ((ns2.map fun n : Nat => (n : Int)).map V.int)) = H7 at s7 els eD7 ⊢
 refine ⟨D, ls, _, _, rfl, rfl, Zqd eD7, Zqd els, Zqe _, Zqf _, ?_⟩
 rw [Zqg (Zrc _)]
 dsimp only [onB]
 refine Zen ⟨D, _, rfl, SqL.of eD7, ?_, by rw [Zar]; omega, fun rs hrs => ?_⟩
 ·rw [List.Nodup, Zbp]
  exact nd.imp fun h e => h (by omega)
 refine ⟨rs, _, rfl, ZcX, by rw [Zar]; omega, D, _, rfl, .inl (SqL.of (Zc2 hrs _ _ _ eD7)), ?_⟩
 dsimp only [tC, cEq, onB]
 rw [Zar, Zar, Zar, show (xor true (decide (((ns2.length : Nat) : Int) = ((ns2.length : Nat) : Int)))) = false from by rw [decide_eq_true rfl]; rfl]
 refine Zen ?_
 dsimp only [Ze1]
 generalize hH8 : upd H7 rs _ = H8
 have s8 : Zdj H7 H8 := by rw [<- hH8]; exact Zc2 hrs _
 have S68 := s7.trans s8
 have S58 := S6.trans S68
 have S18 := S15.trans S58
 have eD8 := S68 _ _ eD
 have et8 := S58 _ _ et5
 have hW8 := hW5.mono (Zdj.tk S58)
 refine ⟨t, D, xs, R, k, ns2, rfl, et8, hW8, eD8, hN, hk, by omega, fun lb ys H9 S9 elb hys => ?_⟩
 have eD9 := S9 _ _ eD8
 have S19 := S18.trans S9
 refine ⟨D, rfl, ⟨_, SqL.of eD9⟩, fun D2 hD2 => ?_⟩
 refine ZfQ (ns2.map fun n : Nat => V.int (n : Int)).length (by rw [Zar]; omega) (fun zs Hc => Ims Hc zs (((ns2.take zs.length).map (Zjd R)).map Rw.d)) (fun _ _ _ h tk => h.mono tk) hD2 rfl (fun j H2 S2 hj => ZjC eD9 S2 hj) (fun H2 S2 => ZjD eD9 S2) .nil ?_ ?_
 ·rintro j H10 v H11 zs Z S10 hj ⟨rfl, hv⟩ hxs hl z
  have hv2 := hv _ (SqL.of (S10 _ _ eD9))
  rw [ZaA] at hv2
  obtain ⟨n, hn, rfl⟩ := ZbV.mp hv2
  obtain ⟨ρ, hρ, hw⟩ := hN.row hk hn
  obtain ⟨d1, h1, h2⟩ := ZkD (hR.mono (Zdj.tk (S19.trans S10))) (ZaQ (show n < rv.length by have := (Zaj.mp hρ).1; omega))
  rw [ZaA, hρ] at h1
  cases h1
  refine ⟨_, ⟨_, _, (S19.trans S10) _ _ el, ZfN⟩, _, (S19.trans S10) _ _ er, Zc3 (ZcZ (ZaQ (show n < rv.length by have := (Zaj.mp hρ).1; omega))) (z _ _ (Zdj.refl _) ?_)⟩
  rw [ZaC, ZaL, hl, Za2, hn, ZaZ, ZaZ]
  rw [hl] at hxs
  refine hxs.app (.cons ?_ .nil)
  show Im _ _ (Rw.d (Zjd R n))
  rw [Zje hρ]
  exact h2
 rintro H10 zs S10 hzs hl eD2
 rw [Zar] at hl
 rw [hl, Za9] at hzs
 refine ⟨lb, D2, _, _, rfl, rfl, Zj2 (S10 _ _ elb) (hys.mono (Zdj.tk S10)), Zj2 eD2 hzs, Zlg _, Zlh _, ?_⟩
 rw [Zqg (ZnE _)]
 dsimp only [onB]
 refine Zen ?_
 dsimp only [Ze1]
 have S8a := S9.trans S10
 have S1a := S18.trans S8a
 have et10 := S8a _ _ et8
 have hW10 := hW8.mono (Zdj.tk S8a)
 refine ⟨t, _, rfl, .inl (SqL.of et10), fun kp hkp => ?_⟩
 have s11 := Zc2 hkp (.lst xs)
 have ekp : (upd H10 kp (.lst xs)) kp = some (.lst xs) := ZcX
 have et11 := s11 _ _ et10
 have hW11 := hW10.mono (Zdj.tk s11)
 have nkt : kp ≠ t := Ne.symm (Zc9 et10 hkp)
 have S1b := S1a.trans s11
 dsimp only [Zeq]
 generalize upd H10 kp (.lst xs) = H11 at s11 ekp et11 hW11 S1b ⊢
 refine ⟨t, _, _, 0, rfl, rfl, et11, ?_, ?_⟩
 ·unfold ixN
  rw [if_pos (by decide), if_pos (by omega)]
  rfl
 have k12 := ZgL (o := .lst (xs.set 0 .non)) et11
 have S12' : Zdj H (upd H11 t (.lst (xs.set 0 .non))) := ZdX S1b ht _
 have et12 : (upd H11 t (.lst (xs.set 0 .non))) t = some (.lst (xs.set 0 .non)) := ZcX
 have ekp12 : (upd H11 t (.lst (xs.set 0 .non))) kp = some (.lst xs) := by rw [Zc6 nkt]; exact ekp
 have hW12 := hW11.mono k12.tk
 dsimp only
 generalize upd H11 t (.lst (xs.set 0 .non)) = H12 at S12' et12 ekp12 hW12 ⊢
 refine ⟨⟨_, et12⟩, _, et12, by rw [List.length_set]; omega, ?_⟩
 have k13 := ZgL (o := .lst (xs.set 0 .non ++ [.non])) et12
 have S13' : Zdj H (upd H12 t (.lst (xs.set 0 .non ++ [.non]))) := ZdX S12' ht _
 have ekp13 : (upd H12 t (.lst (xs.set 0 .non ++ [.non]))) kp = some (.lst xs) := by rw [Zc6 nkt]; exact ekp12
 have hW13 := hW12.mono k13.tk
 generalize upd H12 t (.lst (xs.set 0 .non ++ [.non])) = H13 at S13' ekp13 hW13 ⊢
 refine ⟨lg, dl, r, bd, rv, R, k, rfl, S13' _ _ el, S13' _ _ er, hR.mono (Zdj.tk S13'), hk, by omega, ah, fun ta na xa H14 S14 hta eta hWa hNa => ?_⟩
 have ena := Zj3 ah hNa hN
 subst ena
 refine ⟨ta, kp, _, _, rfl, rfl, Zj2 eta hWa, Zj2 (S14 _ _ ekp13) (hW13.mono (Zdj.tk S14)), Zlg _, Zlh _, _, rfl, ?_⟩
 rw [Zlf (ZnE _)]
 have S14' := S13'.trans S14
 refine Zfh ⟨_, ⟨_, _, S14' _ _ el, ZfN⟩, r, _, rfl, .inl (SqL.of (S14' _ _ er)), fun rc hrc => ?_⟩
 have s15 := Zc2 hrc (.lst rv)
 refine ⟨_, ⟨_, _, (S14'.trans s15) _ _ el, (Zer (by decide +kernel)).trans ZfN⟩, bd, _, rfl, .inl (SqL.of ((S14'.trans s15) _ _ eb)), fun bc hbc => ?_⟩
 have S15' := s15.trans (Zc2 hbc (.lst bv))
 have erc : (upd (upd H14 rc (.lst rv)) bc (.lst bv)) rc = some (.lst rv) := Zc2 hbc _ _ _ ZcX
 generalize upd (upd H14 rc (.lst rv)) bc (.lst bv) = H15 at S15' erc ⊢
 refine fun lo dlo hlo hdlo _ => ⟨lo, dlo, rc, bc, rfl, ZcX, rfl, ?_⟩
 rw [ZdZ]
 have S16' : Zdj H15 (upd (upd H15 dlo (.own lo)) lo (.ins T.a_Log dlo (fL rc bc))) := Zd6 hlo hdlo
 have elo : (upd (upd H15 dlo (.own lo)) lo (.ins T.a_Log dlo (fL rc bc))) lo = some (.ins T.a_Log dlo (fL rc bc)) := ZcX
 generalize upd (upd H15 dlo (.own lo)) lo (.ins T.a_Log dlo (fL rc bc)) = H16 at S16' elo ⊢
 have Sz := S15'.trans S16'
 have Sy := S14'.trans Sz
 refine ⟨lo, dlo, rc, bc, rv, R, k, rfl, elo, S16' _ _ erc, hR.mono (Zdj.tk Sy), hk, by omega, ah, fun tb nb xb H17 S17 htb etb hWb hNb => ?_⟩
 have enb := Zj3 ah hNb hN
 subst enb
 have Sf := (S14.trans Sz).trans S17
 refine ⟨tb, kp, _, _, rfl, rfl, Zj2 etb hWb, Zj2 (Sf _ _ ekp13) (hW13.mono (Zdj.tk Sf)), Zlg _, Zlh _, ?_⟩
 rw [Zlf (ZnE _)]
 exact q H17 (Sy.trans S17)
end
theorem Zqh {A : Nat -> Option Int} {q : Int -> Bool} {p k : Int} {n : Nat} {x : Int × Int} (h : x ∈ bdn A q p k n) : ∃ j : Nat, j < n /\ A j = some p /\ q j = true /\ x = (k, (j : Int)) := by
 unfold bdn at h
 obtain ⟨i, hi, rfl⟩ := ZaT.mp h
 obtain ⟨h1, h2⟩ := Zab.mp hi
 obtain ⟨j, rfl, h3, h4⟩ := Zkj h1
 exact ⟨j, h3, h4, h2, rfl⟩
def Zqi (n : Nat) (x : Int) : Prop := ∃ j : Nat, x = (j : Int) /\ j < n
section
variable {P : Program} {w : World} {K : PySem.W.Frag} {mg : Str -> Option Value} {base : Heap}
theorem ZoY (T : Txt K mg) {a : Addr} {fd : FuncData} (F : Fun K "law" "law" ZiO a fd) : Ze0 P w K mg base CX0 40 a fd ["_law_script"] (Zk8 K) := by
 have G_things := Zh9 (P := P) (w := w) (base := base) T
 have G_board := Zjb (P := P) (w := w) (base := base) T
 have G_shaped := Zgo (P := P) (w := w) (base := base) T
 have G_one := ZkG (P := P) (w := w) (base := base) T
 have G_settled := ZlK (P := P) (w := w) (base := base) T
 refine F.ok ZhO (fun vs H Q E h => ?_) (fun cdv A outer s H vs Q E hr h => ?_)
 ·obtain ⟨a, ns, rfl, _⟩ := h
  rfl
 obtain ⟨ad, ns, rfl, hsq, hlen, q⟩ := h
 refine ⟨_, (Zc0 (Zdn (i := 1) ZhO.nd rfl (.inl rfl) (Zdl G_things (hr.mono (by decide)) rfl T.m_things T.k_things T.b_things .nil Zdp (ZcW (cv 0) Zc1)))
  (Zc0 (Zdn (i := 2) ZhO.nd rfl (.inl rfl) (Zdl G_settled (hr.mono (by decide)) rfl T.m_settled T.k_settled T.b_settled .nil Zdp (ZcW (Zdl G_board (hr.mono (by decide)) rfl T.m_board T.k_board T.b_board .nil Zdp (ZcW (cv 1) Zc1)) Zc1)))
  (Zc0 (Zdz (PW.pt (Zhr (Zff (ZfB (Zdl G_shaped (hr.mono (by decide)) rfl T.m_shaped T.k_shaped T.b_shaped .nil Zdp (ZcW (Zdi T.cl_Log T.n_Log_rows (cv 2)) Zc1)))) (Zg8 (Zff (ZfB (Zdq ZfI rfl T.z_isinstance Zee (ZcW (Zdi T.cl_Log T.n_Log_bads (cv 2)) (ZcW (ZhB rfl T.z_list Zgr) Zc1))))))))
   (Zc4 (Zdd Zfl))
   Zdc)
  (Zc0 (Zdn (i := 3) ZhO.nd rfl (.inl rfl) (ZeP Zfg rfl T.z_list Zgr (ZcW (Zdi T.cl_Log T.n_Log_rows (cv 2)) Zc1)))
  (Zc0 (Zdn (i := 4) ZhO.nd rfl (.inl rfl) (ZeP Zfg rfl T.z_list Zgr (ZcW (Zdi T.cl_Log T.n_Log_bads (cv 2)) Zc1)))
  (Zc0 (Zhm (j := 5) rfl (blk0 (x := "_law_pair_here") rfl (by decide +kernel) (by decide +kernel) rfl rfl) (Zd0 (Zfb Zhy (cv 4) ZfY (Zfm ZcY))) (fun _ _ _ _ _ => Ze3) (fun _ _ _ _ _ => (Zc8 Zc7 (cv 0) ZcY (fun _ _ => rfl))) ZhO.nd rfl (.inl rfl))
  (Zc0 (Zdz (Zdb ZpF (Zdq Zdw rfl T.z_len Zfo (ZcW (cv 3) Zc1)) ZcY (Zdk _))
   (Zc0 (Zdr (Ze4 (ZfT Zcv Zcw Zcx ZdA (PE.mono (cv 5)) (ZcW (PE.mono (Zeb ZfR (Zdq (ZhD rfl) rfl T.z_sum Zmh (ZcW (Zfb Zhy (cv 0) (Zfm ZcY) ZfY) Zc1)) (Zdq Zdw rfl T.z_len Zfo (ZcW (cv 3) Zc1)))) Zc1))))
   (Zc4 (Zdr (Ze4 (ZfT Zcv Zcw Zcx ZdA (PE.mono (cv 5)) (ZcW (PE.mono (Zeb ZnT (Zdq Zdw rfl T.z_len Zfo (ZcW (cv 3) Zc1)) ZcY)) Zc1))))))
   Zdc)
  (Zc0 (Zet PassesOwn.never rfl (Zd0 (cv 5)) (ZdG (i := 6) ZhO.nd rfl (.inl rfl))
   (Zc4 (Zdz (Zff (ZfB (Zdl G_one (hr.mono (by decide)) rfl T.m_one T.k_one T.b_one .nil Zdp (ZcW (cv 1) (ZcW (cv 2) (ZcW (cv 6) Zc1))))))
    (Zc4 (Zdd Zfl))
    Zdc)))
  (Zc4 (Zdd (Zgh (Zfz (ZkV hr) (Zdi T.cl_Log T.n_Log_rows (cv 2)) (cv 3) (Zdk _)) (Zii (Zfz (ZkV hr) (Zdi T.cl_Log T.n_Log_bads (cv 2)) (cv 4) (Zdk _)))))))))))))), ?_⟩
 have sl : sizeLine = 16777216 := sizeLine_eq
 refine ⟨ad, ns, rfl, hsq, hlen, fun th q0 q1 q2 q3 N pts ms us fs H1 S1 hT dat uo lp hN40 hM61 => ?_⟩
 refine ⟨th, q0, q1, q2, q3, pts, ms, us, fs, rfl, hT, fun m hm => (dat.mo m hm).1, uo, lp, dat.lm, dat.lu, dat.lf, fun b bx p0 p1 p2 p3 mv uv fv H2 S2 eb e1 hM e2 hU e3 hF => ?_⟩
 refine ⟨b, bx, p0, p1, p2, p3, N, mv, uv, fv, ms, us, fs, rfl, eb, e1, hM, e2, hU, e3, hF, dat, fun lg dl r bd H3 rv bv R S3 el er hR ebd hB hok hRl hnd hre => ?_⟩
 have hT3 := (hT.same S2).same S3
 have cz := ZnA hre
 have lrv := hR.length
 have lbv := hB.length
 rw [Zar] at lrv lbv
 have hR4 : R.length <= 4040 := ZnB hN40 (by omega) hnd hok
 have S13 : Zdj H H3 := S1.trans (S2.trans S3)
 dsimp only [Zeq]
 refine ⟨_, ⟨_, _, el, ZfN⟩, r, rv, R, rfl, er, hR, _, rfl, Zen ⟨_, ⟨_, _, el, (Zer (by decide +kernel)).trans ZfN⟩, _, _, _, _, true, rfl, fun _ r => r, .lst ebd, rfl, _, rfl, Zen ?_⟩⟩
 refine ⟨_, ⟨_, _, el, ZfN⟩, r, _, rfl, .inl (SqL.of er), fun rc hrc => ?_⟩
 have s4 := Zc2 hrc (.lst rv)
 have erc : (upd H3 rc (.lst rv)) rc = some (.lst rv) := ZcX
 dsimp only [Zeq]
 generalize upd H3 rc (.lst rv) = H4 at s4 erc ⊢
 refine ⟨_, ⟨_, _, s4 _ _ el, (Zer (by decide +kernel)).trans ZfN⟩, bd, _, rfl, .inl (SqL.of (s4 _ _ ebd)), fun bc hbc => ?_⟩
 have s5 := Zc2 hbc (.lst bv)
 have ebc : (upd H4 bc (.lst bv)) bc = some (.lst bv) := ZcX
 have erc5 := s5 _ _ erc
 dsimp only [Zeq]
 generalize upd H4 bc (.lst bv) = H5 at s5 ebc erc5 ⊢
 have S35 := s4.trans s5
 refine ⟨_, rfl, bc, _, rfl, SqL.of ebc, fun sc hsc => ?_⟩
 have s6 := Zc2 hsc (.lst (Zhl bv none (some 2)))
 have esc : (upd H5 sc (.lst (Zhl bv none (some 2)))) sc = some (.lst (Zhl bv none (some 2))) := ZcX
 have erc6 := s6 _ _ erc5
 have ebc6 := s6 _ _ ebc
 generalize upd H5 sc (.lst (Zhl bv none (some 2))) = H6 at s6 esc erc6 ebc6 ⊢
 have S36 := S35.trans s6
 have hcl : (Zhl bv none (some 2)).length <= 2 := by
  unfold Zhl
  rw [HT.Internal.sIx_none, Zax]
  have : HT.Internal.sIx bv.length bv.length (some 2) <= 2 := by rw [show (2 : Int) = ((2 : Nat) : Int) from rfl, HT.Internal.sIx_nat]; omega
  omega
 have hcm : ∀ (j : Nat) (v : V), (Zhl bv none (some 2))[j]? = some v -> ∃ i : Nat, bv[i]? = some v := fun j v h => by
  have hm := ZaB h
  unfold Zhl at hm
  exact Zbe.mp (Za8 (Za7 hm))
 refine ⟨sc, rfl, ⟨_, SqL.of esc⟩, fun D hD => ?_⟩
 refine ZfQ (Zhl bv none (some 2)).length (by omega) (fun xs _ => ∃ B : List Int, xs = B.map V.int /\ ∀ x ∈ B, Zqi R.length x) (fun xs _ _ h _ => h) hD rfl (fun k H2 s2 hk => ZjC esc s2 hk) (fun H2 s2 => ZjD esc s2) ⟨[], rfl, fun x hx => by simp at hx⟩ ?_ ?_
 ·rintro k H7 v H8 xs Z S7 hk ⟨rfl, hv⟩ ⟨B, rfl, hB'⟩ hl z
  obtain ⟨i, hi⟩ := hcm k v (hv _ (SqL.of (S7 _ _ esc)))
  obtain ⟨x, tx, hx, rfl, ex⟩ := ZhU (hB.mono (Zdj.tk (S36.trans S7))) hi
  obtain ⟨n, ρ, hn, hρ, hx⟩ := ZiI (ZaB hx)
  obtain ⟨w', a', b', y'⟩ := ρ
  refine ⟨_, ex, Zc3 (ZcZ (j := 0) rfl) (z _ _ (Zdj.refl _) ⟨B ++ [x.1], by rw [ZaZ]; rfl, fun z hz => ?_⟩)⟩
  rcases Zah.mp hz with hz | hz
  ·exact hB' z hz
  ·rw [ZaM.mp hz]
   cases w' with
   | true => cases hx
   | false =>
    obtain ⟨j, _, _, _, rfl⟩ := Zqh hx
    exact ⟨n, rfl, (Zaj.mp hρ).1⟩
 rintro H7 xs S7 ⟨B, rfl, hB'⟩ hl eB
 rw [Zar] at hl
 have S37 := S36.trans S7
 have erc7 := S7 _ _ erc6
 have ebc7 := S7 _ _ ebc6
 have fD : H3 D = none := S36.free hD
 have nrD : rc ≠ D := Zc9 erc6 hD
 have nbD : bc ≠ D := Zc9 ebc6 hD
 dsimp only [Zeq]
 refine Zrz (fun σ' H8 => ∃ C : List Int, σ' = [some (.ref ad), some (.ref th), some (.ref lg), some (.ref rc), some (.ref bc), some (.ref D), none] /\ Zdj H3 H8 /\ H8 D = some (.lst (C.map V.int)) /\ H8 rc = some (.lst rv) /\ H8 bc = some (.lst bv) /\ ∀ x ∈ C, Zqi R.length x) ?_ ?_
 ·rintro σ' H8 ⟨C, rfl, S8, eC, erc8, ebc8, hC⟩
  refine ⟨D, rfl, ⟨_, SqL.of eC⟩, Zea (xs := C.map V.int) (fun i σ Hy => ∃ (o6 : Option V), σ = [some (.ref ad), some (.ref th), some (.ref lg), some (.ref rc), some (.ref bc), some (.ref D), o6] /\ Zdj H8 Hy) ⟨none, rfl, Zdj.refl _⟩ (fun i σ Hy _ ⟨_, _, S⟩ => SqL.of (S _ _ eC)) ?_ ?_⟩
  ·rintro i v σ Hy hv ⟨o6, rfl, Sy⟩
   rw [ZaA] at hv
   obtain ⟨x, hx, rfl⟩ := ZbV.mp hv
   obtain ⟨j, rfl, hj⟩ := hC x (ZaB hx)
   have Sq := S8.trans Sy
   exact ⟨th, q0, q1, q2, q3, lg, dl, r, bd, pts, ms, us, fs, rv, bv, R, N, j, rfl, hT3.same Sq, Sq _ _ el, Sq _ _ er, hR.mono (Zdj.tk Sq), Sq _ _ ebd, cz, hnd, hok, fun m hm => (dat.mo m hm).1, uo, dat.lf, hj, hR4, fun Hz Sz => ⟨_, rfl, Zen ⟨_, rfl, Sy.trans Sz⟩⟩⟩
  ·rintro σ Hy ⟨o6, rfl, Sy⟩
   have Sq := S8.trans Sy
   have hRy := hR.mono (Zdj.tk Sq)
   have hBy := hB.mono (Zdj.tk Sq)
   obtain ⟨f1, f2⟩ := Zp5 (Zfc (Znv us ms) R R.length)
   refine ⟨_, ⟨_, _, Sq _ _ el, ZfN⟩, r, rc, _, _, rfl, rfl, Zj2 (Sq _ _ er) hRy, Zj2 (Sy _ _ erc8) hRy, Zlg _, Zlh _, _, rfl, ?_⟩
   rw [Zlf (ZnE _)]
   refine Zfh ⟨_, ⟨_, _, Sq _ _ el, (Zer (by decide +kernel)).trans ZfN⟩, bd, bc, _, _, rfl, rfl, .lst (SqL.of (Sq _ _ ebd)) (Zga hBy), .lst (SqL.of (Sy _ _ ebc8)) (Zga hBy), (by rw [ZfU, if_pos rfl]; exact f2), Zp6 _, ?_⟩
   rw [Zlf (by rw [eqD]; exact f1)]
   exact q _
 ·intro Nx hNx
  refine ⟨rc, _, rfl, .inl (SqL.of erc7), ?_⟩
  show if decide ((0 : Int) < ((rv.length : Nat) : Int)) = true then _ else _
  by_cases hpos : 0 < rv.length
  ·rw [decide_eq_true (show (0 : Int) < ((rv.length : Nat) : Int) by omega)]
   obtain ⟨ks, ek, _⟩ := Zhp ns (some 1) none
   refine Zfh ⟨⟨_, eB⟩, _, rfl, ad, _, rfl, (S13.trans S37).seq hsq, fun c1 hc1 => ⟨c1, ks, rfl, SqL.of (by rw [ZcX, ek]), fun n0 => ?_⟩⟩
   have s8 := Zc2 hc1 (.lst (Zhl (ns.map V.int) (some 1) none))
   have eB8 := s8 _ _ eB
   have erc8 := s8 _ _ erc7
   have ebc8 := s8 _ _ ebc7
   generalize upd H7 c1 (.lst (Zhl (ns.map V.int) (some 1) none)) = H8 at s8 eB8 erc8 ebc8 ⊢
   have m0 := ZcL n0 (show ((rv.length : Nat) : Int) ≠ 0 by omega)
   have m1 := ZcM n0 (show (0 : Int) < ((rv.length : Nat) : Int) by omega)
   refine ⟨rc, _, rfl, .inl (SqL.of erc8), (by show (0 : Int) < ((rv.length : Nat) : Int); omega), _, eB8, by rw [Zar]; omega, ?_⟩
   have S9 : Zdj H3 (upd H8 D (.lst (B.map V.int ++ [.int (n0 % ((rv.length : Nat) : Int))]))) := ZdX (S37.trans s8) fD _
   have eB9 : (upd H8 D (.lst (B.map V.int ++ [.int (n0 % ((rv.length : Nat) : Int))]))) D = some (.lst ((B ++ [n0 % ((rv.length : Nat) : Int)]).map V.int)) := by rw [ZcX, ZaZ]; rfl
   have erc9 : (upd H8 D (.lst (B.map V.int ++ [.int (n0 % ((rv.length : Nat) : Int))]))) rc = some (.lst rv) := by rw [Zc6 nrD]; exact erc8
   have ebc9 : (upd H8 D (.lst (B.map V.int ++ [.int (n0 % ((rv.length : Nat) : Int))]))) bc = some (.lst bv) := by rw [Zc6 nbD]; exact ebc8
   generalize upd H8 D (.lst (B.map V.int ++ [.int (n0 % ((rv.length : Nat) : Int))])) = H9 at S9 eB9 erc9 ebc9 ⊢
   refine ⟨⟨_, eB9⟩, rc, _, rfl, .inl (SqL.of erc9), _, eB9, by rw [Zar, ZaC, ZaL]; omega, hNx _ _ ⟨B ++ [n0 % ((rv.length : Nat) : Int)] ++ [((rv.length : Nat) : Int) - 1], rfl, ZdX S9 fD _, ?_, by rw [Zc6 nrD]; exact erc9, by rw [Zc6 nbD]; exact ebc9, fun x hx => ?_⟩⟩
   ·rw [ZcX, ZaZ (l₁ := B ++ [n0 % ((rv.length : Nat) : Int)])]
    rfl
   ·rcases Zah.mp hx with hx | hx
    ·rcases Zah.mp hx with hx | hx
     ·exact hB' x hx
     ·rw [ZaM.mp hx]
      exact ⟨(n0 % ((rv.length : Nat) : Int)).toNat, by omega, by omega⟩
    ·rw [ZaM.mp hx]
     exact ⟨rv.length - 1, by omega, by omega⟩
  ·rw [decide_eq_false (show ¬ (0 : Int) < ((rv.length : Nat) : Int) by omega)]
   exact Zen (hNx _ _ ⟨B, rfl, S37, eB, erc7, ebc7, hB'⟩)
end
end K34.Internal
namespace PySem.W.Fast
def tw16842102602464673597:=0
def tw511825994462693822:=0
def tw14468097124217322792:=0
def tw8076256182396123684:=0
def tw1885131542971321337:=0
def tw16713434317145181251:=0
def tw7214408490017168926:=0
def tw13305171532927723615:=0
def tw2110030505758047026:=0
def tw11983572125791655221:=0
def tw3223427215916251884:=0
def tw6506865447044752360:=0
def tw13172821470590132082:=0
def tw7638033811437234493:=0
def tw5739373056512752994:=0
def tw11600523696243318207:=0
def tw8677992323154188195:=0
def tw16810518994499336158:=0
def tw14926168602936744002:=0
def tw843676685667050634:=0
def tw18053873465078724535:=0
def tw13261071756140701641:=0
def tw15406025900506111246:=0
def tw7159262844211983231:=0
def tw17092577264335240585:=0
def tw13967308348371787096:=0
def tw1421651162646743326:=0
def tw12515726946540973721:=0
def tw6603489973368848438:=0
def tw2913815379231132084:=0
def tw602783252058593566:=0
def tw14949634211907019835:=0
def tw9790834835499018155:=0
def tw11725128297720608880:=0
def tw14207935560384010398:=0
def tw4732532039039621420:=0
def tw11913732838001978808:=0
def tw7990757157578062427:=0
def tw3032388980601667288:=0
def tw3967623077161189976:=0
def tw788121683484095435:=0
def tw9576048402634257326:=0
def tw2202310373698982805:=0
def tw6052678904329900636:=0
def tw6057543717479453853:=0
def tw10850227159797677725:=0
def tw4665380642906925475:=0
def tw10733416757974805230:=0
def tw14992544686023578681:=0
def tw13302920338498555053:=0
def tw6431334775194782620:=0
def tw2368168836939302655:=0
def tw307620410290129562:=0
def tw17301206296596085855:=0
def tw15145971423291883512:=0
def tw2423209147666696277:=0
def tw16908637813529394306:=0
def tw10026109292539697594:=0
def tw10611719433498635929:=0
def tw15231490072544653474:=0
def tw12770284075824174909:=0
def tw1185743722565704895:=0
def tw4675790044605755930:=0
def tw1259368789261831222:=0
def tw15170408417051187813:=0
def tw18415779101043934657:=0
def tw18079800451195206259:=0
def tw17266102671372755472:=0
def tw8792190405701907766:=0
def tw16770299151311147101:=0
def tw8824473213027698375:=0
def tw1516672782667560767:=0
def tw5669258581416498067:=0
def tw5218841522237367763:=0
def tw2304469237760419570:=0
def tw15069801995582426625:=0
def tw11072007406152647065:=0
def tw11918613877625945087:=0
def tw2352745356605600091:=0
def tw15960697998156974252:=0
def tw8788483353321133052:=0
def tw9867394241582501305:=0
def tw6644951554329915814:=0
def tw2464869960581873081:=0
def tw10563608964578495003:=0
def tw5500149312150107676:=0
def tw5262728045005762273:=0
def tw13357353106354252266:=0
def tw6570538509743669932:=0
def tw9164790613953501948:=0
def tw13236228764306426169:=0
def tw17400340955381404449:=0
def tw4320889082456715038:=0
def tw14275162508209300562:=0
def tw10299603965725211522:=0
def tw5376192048646830970:=0
def tw2567778170026436768:=0
def tw17332783830424457001:=0
def tw8498792667374586912:=0
def tw7775451892773479082:=0
def tw16017674740078839849:=0
def tw2650792233126000792:=0
def tw10883528839912295615:=0
def tw12149931735752049142:=0
def tw7604391389567328339:=0
def tw973770861844579007:=0
def tw11069676354801840171:=0
def tw9369995499248916523:=0
def tw765523800711941690:=0
def tw14978671803254884947:=0
def tw777298068304183187:=0
def tw1776669794403875904:=0
def tw2847836735354509730:=0
def tw16535487554161237170:=0
def tw16558249535234611530:=0
def tw15370333145578213632:=0
def tw14681157500693447276:=0
def tw10026925415095946251:=0
def tw18153602494426475473:=0
def tw12221239323647409672:=0
def tw18045062066834402052:=0
def tw173331265361146753:=0
def tw8212413526658071976:=0
def tw8278899958460236361:=0
def tw12072720917000020310:=0
def tw18198301079416649720:=0
def tw8329588921840053804:=0
def tw6098952585096984547:=0
def tw296265143374708137:=0
def tw1441058750710989294:=0
def tw10205765074115254230:=0
def tw1785345821025618394:=0
def tw16522065889244100506:=0
def tw15989876867149327573:=0
end PySem.W.Fast
namespace K34.Internal
open PySem L2.Internal
theorem all_mk {l : PySem.W.OpenLaw} {w : World} {K : PySem.W.Frag} {h : Heap} {mg : Str -> Option Value} {fa fL : Addr} (X : K.In h) (G : h.Ns mainGlobals mg) (hfa : mg "law" = some (.ref fa))
  {f1 : Addr} {od1 an1 : Option Addr} {sl1 : Array (Option Value)} {oc1 kV1 dc1 pm1 cd1 ct1 : Value} {f2 : Addr} {od2 an2 : Option Addr} {sl2 : Array (Option Value)} {oc2 kV2 dc2 pm2 cd2 ct2 : Value} {f3 : Addr} {od3 an3 : Option Addr} {sl3 : Array (Option Value)} {oc3 kV3 dc3 pm3 cd3 ct3 : Value} {f4 : Addr} {od4 an4 : Option Addr} {sl4 : Array (Option Value)} {oc4 kV4 dc4 pm4 cd4 ct4 : Value} {f5 : Addr} {od5 an5 : Option Addr} {sl5 : Array (Option Value)} {oc5 kV5 dc5 pm5 cd5 ct5 : Value} {f6 : Addr} {od6 an6 : Option Addr} {sl6 : Array (Option Value)} {oc6 kV6 dc6 pm6 cd6 ct6 : Value} {f7 : Addr} {od7 an7 : Option Addr} {sl7 : Array (Option Value)} {oc7 kV7 dc7 pm7 cd7 ct7 : Value} {f8 : Addr} {od8 an8 : Option Addr} {sl8 : Array (Option Value)} {oc8 kV8 dc8 pm8 cd8 ct8 : Value} {f9 : Addr} {od9 an9 : Option Addr} {sl9 : Array (Option Value)} {oc9 kV9 dc9 pm9 cd9 ct9 : Value} {f10 : Addr} {od10 an10 : Option Addr} {sl10 : Array (Option Value)} {oc10 kV10 dc10 pm10 cd10 ct10 : Value} {f11 : Addr} {od11 an11 : Option Addr} {sl11 : Array (Option Value)} {oc11 kV11 dc11 pm11 cd11 ct11 : Value} {f12 : Addr} {od12 an12 : Option Addr} {sl12 : Array (Option Value)} {oc12 kV12 dc12 pm12 cd12 ct12 : Value} {f13 : Addr} {od13 an13 : Option Addr} {sl13 : Array (Option Value)} {oc13 kV13 dc13 pm13 cd13 ct13 : Value} {f14 : Addr} {od14 an14 : Option Addr} {sl14 : Array (Option Value)} {oc14 kV14 dc14 pm14 cd14 ct14 : Value} {f15 : Addr} {od15 an15 : Option Addr} {sl15 : Array (Option Value)} {oc15 kV15 dc15 pm15 cd15 ct15 : Value} {f16 : Addr} {od16 an16 : Option Addr} {sl16 : Array (Option Value)} {oc16 kV16 dc16 pm16 cd16 ct16 : Value} {f17 : Addr} {od17 an17 : Option Addr} {sl17 : Array (Option Value)} {oc17 kV17 dc17 pm17 cd17 ct17 : Value} {f18 : Addr} {od18 an18 : Option Addr} {sl18 : Array (Option Value)} {oc18 kV18 dc18 pm18 cd18 ct18 : Value} {f19 : Addr} {od19 an19 : Option Addr} {sl19 : Array (Option Value)} {oc19 kV19 dc19 pm19 cd19 ct19 : Value} {f20 : Addr} {od20 an20 : Option Addr} {sl20 : Array (Option Value)} {oc20 kV20 dc20 pm20 cd20 ct20 : Value} {f21 : Addr} {od21 an21 : Option Addr} {sl21 : Array (Option Value)} {oc21 kV21 dc21 pm21 cd21 ct21 : Value} {f22 : Addr} {od22 an22 : Option Addr} {sl22 : Array (Option Value)} {oc22 kV22 dc22 pm22 cd22 ct22 : Value} {C23 : Addr} {f24 : Addr} {od24 an24 : Option Addr} {sl24 : Array (Option Value)} {oc24 kV24 dc24 pm24 cd24 ct24 : Value} {C25 : Addr} {f26 : Addr} {od26 an26 : Option Addr} {sl26 : Array (Option Value)} {oc26 kV26 dc26 pm26 cd26 ct26 : Value} {C27 : Addr} {f28 : Addr} {od28 an28 : Option Addr} {sl28 : Array (Option Value)} {oc28 kV28 dc28 pm28 cd28 ct28 : Value} {C29 : Addr} {f30 : Addr} {od30 an30 : Option Addr} {sl30 : Array (Option Value)} {oc30 kV30 dc30 pm30 cd30 ct30 : Value} {f31 : Addr} {od31 an31 : Option Addr} {sl31 : Array (Option Value)} {oc31 kV31 dc31 pm31 cd31 ct31 : Value} {C32 : Addr} {f33 : Addr} {od33 an33 : Option Addr} {sl33 : Array (Option Value)} {oc33 kV33 dc33 pm33 cd33 ct33 : Value} {f34 : Addr} {od34 an34 : Option Addr} {sl34 : Array (Option Value)} {oc34 kV34 dc34 pm34 cd34 ct34 : Value} {C35 : Addr} {f36 : Addr} {od36 an36 : Option Addr} {sl36 : Array (Option Value)} {oc36 kV36 dc36 pm36 cd36 ct36 : Value} {f37 : Addr} {od37 an37 : Option Addr} {sl37 : Array (Option Value)} {oc37 kV37 dc37 pm37 cd37 ct37 : Value} {C38 : Addr} {f39 : Addr} {od39 an39 : Option Addr} {sl39 : Array (Option Value)} {oc39 kV39 dc39 pm39 cd39 ct39 : Value} {f40 : Addr} {od40 an40 : Option Addr} {sl40 : Array (Option Value)} {oc40 kV40 dc40 pm40 cd40 ct40 : Value} {C41 : Addr} {f42 : Addr} {od42 an42 : Option Addr} {sl42 : Array (Option Value)} {oc42 kV42 dc42 pm42 cd42 ct42 : Value} {f43 : Addr} {od43 an43 : Option Addr} {sl43 : Array (Option Value)} {oc43 kV43 dc43 pm43 cd43 ct43 : Value} {f44 : Addr} {od44 an44 : Option Addr} {sl44 : Array (Option Value)} {oc44 kV44 dc44 pm44 cd44 ct44 : Value} {f45 : Addr} {od45 an45 : Option Addr} {sl45 : Array (Option Value)} {oc45 kV45 dc45 pm45 cd45 ct45 : Value} {f46 : Addr} {od46 an46 : Option Addr} {sl46 : Array (Option Value)} {oc46 kV46 dc46 pm46 cd46 ct46 : Value} {C47 : Addr} {f48 : Addr} {od48 an48 : Option Addr} {sl48 : Array (Option Value)} {oc48 kV48 dc48 pm48 cd48 ct48 : Value} {C49 : Addr} {f50 : Addr} {od50 an50 : Option Addr} {sl50 : Array (Option Value)} {oc50 kV50 dc50 pm50 cd50 ct50 : Value} {f51 : Addr} {od51 an51 : Option Addr} {sl51 : Array (Option Value)} {oc51 kV51 dc51 pm51 cd51 ct51 : Value} {f52 : Addr} {od52 an52 : Option Addr} {sl52 : Array (Option Value)} {oc52 kV52 dc52 pm52 cd52 ct52 : Value} {f53 : Addr} {od53 an53 : Option Addr} {sl53 : Array (Option Value)} {oc53 kV53 dc53 pm53 cd53 ct53 : Value} {f54 : Addr} {od54 an54 : Option Addr} {sl54 : Array (Option Value)} {oc54 kV54 dc54 pm54 cd54 ct54 : Value} {f55 : Addr} {od55 an55 : Option Addr} {sl55 : Array (Option Value)} {oc55 kV55 dc55 pm55 cd55 ct55 : Value} {f56 : Addr} {od56 an56 : Option Addr} {sl56 : Array (Option Value)} {oc56 kV56 dc56 pm56 cd56 ct56 : Value}
  {odL anL : Option Addr} {slL : Array (Option Value)} {ocL kVL dcL pmL cdL ctL : Value}
  (a1 : Zck K mainGlobals "uses_by_point" = some (some (.ref f1)))
  (l1 : K.lookup f1 = some ⟨oc1, od1, .func (Zci "uses_by_point" "uses_by_point" (Zdg ZdQ) (Zdf ZdQ) (Zc5 ZdQ) .none kV1 dc1 pm1 an1 cd1 ct1), sl1⟩)
  (c1 : Zcj K cd1 "uses_by_point" = true)
  (k1 : Zb8 K (.ref f1) = true)
  (a2 : Zck K mainGlobals "way" = some (some (.ref f2)))
  (l2 : K.lookup f2 = some ⟨oc2, od2, .func (Zci "way" "way" (Zdg Zkq) (Zdf Zkq) (Zc5 Zkq) .none kV2 dc2 pm2 an2 cd2 ct2), sl2⟩)
  (c2 : Zcj K cd2 "way" = true)
  (k2 : Zb8 K (.ref f2) = true)
  (a3 : Zck K mainGlobals "needed_rows" = some (some (.ref f3)))
  (l3 : K.lookup f3 = some ⟨oc3, od3, .func (Zci "needed_rows" "needed_rows" (Zdg Zef) (Zdf Zef) (Zc5 Zef) .none kV3 dc3 pm3 an3 cd3 ct3), sl3⟩)
  (c3 : Zcj K cd3 "needed_rows" = true)
  (k3 : Zb8 K (.ref f3) = true)
  (a4 : Zck K mainGlobals "named_rows" = some (some (.ref f4)))
  (l4 : K.lookup f4 = some ⟨oc4, od4, .func (Zci "named_rows" "named_rows" (Zdg Zeu) (Zdf Zeu) (Zc5 Zeu) .none kV4 dc4 pm4 an4 cd4 ct4), sl4⟩)
  (c4 : Zcj K cd4 "named_rows" = true)
  (k4 : Zb8 K (.ref f4) = true)
  (a5 : Zck K mainGlobals "with_places" = some (some (.ref f5)))
  (l5 : K.lookup f5 = some ⟨oc5, od5, .func (Zci "with_places" "with_places" (Zdg Zeg) (Zdf Zeg) (Zc5 Zeg) .none kV5 dc5 pm5 an5 cd5 ct5), sl5⟩)
  (c5 : Zcj K cd5 "with_places" = true)
  (k5 : Zb8 K (.ref f5) = true)
  (a6 : Zck K mainGlobals "settled" = some (some (.ref f6)))
  (l6 : K.lookup f6 = some ⟨oc6, od6, .func (Zci "settled" "settled" (Zdg Zfv) (Zdf Zfv) (Zc5 Zfv) .none kV6 dc6 pm6 an6 cd6 ct6), sl6⟩)
  (c6 : Zcj K cd6 "settled" = true)
  (k6 : Zb8 K (.ref f6) = true)
  (a7 : Zck K mainGlobals "_law_pick" = some (some (.ref f7)))
  (l7 : K.lookup f7 = some ⟨oc7, od7, .func (Zci "_law_pick" "_law_pick" (Zdg ZeU) (Zdf ZeU) (Zc5 ZeU) .none kV7 dc7 pm7 an7 cd7 ct7), sl7⟩)
  (c7 : Zcj K cd7 "_law_pick" = true)
  (k7 : Zb8 K (.ref f7) = true)
  (a8 : Zck K mainGlobals "_law_words" = some (some (.ref f8)))
  (l8 : K.lookup f8 = some ⟨oc8, od8, .func (Zci "_law_words" "_law_words" (Zdg Zev) (Zdf Zev) (Zc5 Zev) .none kV8 dc8 pm8 an8 cd8 ct8), sl8⟩)
  (c8 : Zcj K cd8 "_law_words" = true)
  (k8 : Zb8 K (.ref f8) = true)
  (a9 : Zck K mainGlobals "_law_named" = some (some (.ref f9)))
  (l9 : K.lookup f9 = some ⟨oc9, od9, .func (Zci "_law_named" "_law_named" (Zdg Zew) (Zdf Zew) (Zc5 Zew) .none kV9 dc9 pm9 an9 cd9 ct9), sl9⟩)
  (c9 : Zcj K cd9 "_law_named" = true)
  (k9 : Zb8 K (.ref f9) = true)
  (a10 : Zck K mainGlobals "_law_make" = some (some (.ref f10)))
  (l10 : K.lookup f10 = some ⟨oc10, od10, .func (Zci "_law_make" "_law_make" (Zdg ZeV) (Zdf ZeV) (Zc5 ZeV) .none kV10 dc10 pm10 an10 cd10 ct10), sl10⟩)
  (c10 : Zcj K cd10 "_law_make" = true)
  (k10 : Zb8 K (.ref f10) = true)
  (a11 : Zck K mainGlobals "_law_use" = some (some (.ref f11)))
  (l11 : K.lookup f11 = some ⟨oc11, od11, .func (Zci "_law_use" "_law_use" (Zdg Ze5) (Zdf Ze5) (Zc5 Ze5) .none kV11 dc11 pm11 an11 cd11 ct11), sl11⟩)
  (c11 : Zcj K cd11 "_law_use" = true)
  (k11 : Zb8 K (.ref f11) = true)
  (a12 : Zck K mainGlobals "_law_things" = some (some (.ref f12)))
  (l12 : K.lookup f12 = some ⟨oc12, od12, .func (Zci "_law_things" "_law_things" (Zdg Zeh) (Zdf Zeh) (Zc5 Zeh) .none kV12 dc12 pm12 an12 cd12 ct12), sl12⟩)
  (c12 : Zcj K cd12 "_law_things" = true)
  (k12 : Zb8 K (.ref f12) = true)
  (a13 : Zck K mainGlobals "_law_using" = some (some (.ref f13)))
  (l13 : K.lookup f13 = some ⟨oc13, od13, .func (Zci "_law_using" "_law_using" (Zdg Zex) (Zdf Zex) (Zc5 Zex) .none kV13 dc13 pm13 an13 cd13 ct13), sl13⟩)
  (c13 : Zcj K cd13 "_law_using" = true)
  (k13 : Zb8 K (.ref f13) = true)
  (a14 : Zck K mainGlobals "_law_board" = some (some (.ref f14)))
  (l14 : K.lookup f14 = some ⟨oc14, od14, .func (Zci "_law_board" "_law_board" (Zdg Zey) (Zdf Zey) (Zc5 Zey) .none kV14 dc14 pm14 an14 cd14 ct14), sl14⟩)
  (c14 : Zcj K cd14 "_law_board" = true)
  (k14 : Zb8 K (.ref f14) = true)
  (a15 : Zck K mainGlobals "_law_met" = some (some (.ref f15)))
  (l15 : K.lookup f15 = some ⟨oc15, od15, .func (Zci "_law_met" "_law_met" (Zdg Ze6) (Zdf Ze6) (Zc5 Ze6) .none kV15 dc15 pm15 an15 cd15 ct15), sl15⟩)
  (c15 : Zcj K cd15 "_law_met" = true)
  (k15 : Zb8 K (.ref f15) = true)
  (a16 : Zck K mainGlobals "_law_whole" = some (some (.ref f16)))
  (l16 : K.lookup f16 = some ⟨oc16, od16, .func (Zci "_law_whole" "_law_whole" (Zdg Zez) (Zdf Zez) (Zc5 Zez) .none kV16 dc16 pm16 an16 cd16 ct16), sl16⟩)
  (c16 : Zcj K cd16 "_law_whole" = true)
  (k16 : Zb8 K (.ref f16) = true)
  (a17 : Zck K mainGlobals "_law_pair" = some (some (.ref f17)))
  (l17 : K.lookup f17 = some ⟨oc17, od17, .func (Zci "_law_pair" "_law_pair" (Zdg ZeW) (Zdf ZeW) (Zc5 ZeW) .none kV17 dc17 pm17 an17 cd17 ct17), sl17⟩)
  (c17 : Zcj K cd17 "_law_pair" = true)
  (k17 : Zb8 K (.ref f17) = true)
  (a18 : Zck K mainGlobals "_law_shaped" = some (some (.ref f18)))
  (l18 : K.lookup f18 = some ⟨oc18, od18, .func (Zci "_law_shaped" "_law_shaped" (Zdg Zei) (Zdf Zei) (Zc5 Zei) .none kV18 dc18 pm18 an18 cd18 ct18), sl18⟩)
  (c18 : Zcj K cd18 "_law_shaped" = true)
  (k18 : Zb8 K (.ref f18) = true)
  (a19 : Zck K mainGlobals "_law_caused" = some (some (.ref f19)))
  (l19 : K.lookup f19 = some ⟨oc19, od19, .func (Zci "_law_caused" "_law_caused" (Zdg Zej) (Zdf Zej) (Zc5 Zej) .none kV19 dc19 pm19 an19 cd19 ct19), sl19⟩)
  (c19 : Zcj K cd19 "_law_caused" = true)
  (k19 : Zb8 K (.ref f19) = true)
  (a20 : Zck K mainGlobals "_law_by_itself" = some (some (.ref f20)))
  (l20 : K.lookup f20 = some ⟨oc20, od20, .func (Zci "_law_by_itself" "_law_by_itself" (Zdg ZdK) (Zdf ZdK) (Zc5 ZdK) .none kV20 dc20 pm20 an20 cd20 ct20), sl20⟩)
  (c20 : Zcj K cd20 "_law_by_itself" = true)
  (k20 : Zb8 K (.ref f20) = true)
  (a21 : Zck K mainGlobals "_law_back" = some (some (.ref f21)))
  (l21 : K.lookup f21 = some ⟨oc21, od21, .func (Zci "_law_back" "_law_back" (Zdg ZeX) (Zdf ZeX) (Zc5 ZeX) .none kV21 dc21 pm21 an21 cd21 ct21), sl21⟩)
  (c21 : Zcj K cd21 "_law_back" = true)
  (k21 : Zb8 K (.ref f21) = true)
  (a22 : Zck K mainGlobals "_law_one" = some (some (.ref f22)))
  (l22 : K.lookup f22 = some ⟨oc22, od22, .func (Zci "_law_one" "_law_one" (Zdg Ze7) (Zdf Ze7) (Zc5 Ze7) .none kV22 dc22 pm22 an22 cd22 ct22), sl22⟩)
  (c22 : Zcj K cd22 "_law_one" = true)
  (k22 : Zb8 K (.ref f22) = true)
  (a23 : Zck K mainGlobals "Make" = some (some (.ref C23)))
  (pg23 : ZbZ K C23 Str.empty = true)
  (hd23 : Zb0 K C23 = true)
  (po23 : Zb4 K C23 = true)
  (sa23 : Zb1 K (.ref C23) "__setattr__" = some (some (.builtin "object.__setattr__")))
  (t1_23 : Zb1 K (.ref C23) "__class__" = some (some (.builtin "object.__class__")))
  (t2_23 : Zb9 K (.builtin "object.__class__") "__get__" = some (some (.builtin "getset_descriptor.__get__")))
  (t3_23 : Zca K (.builtin "object.__class__") = some true)
  (t4_23 : Zcb K C23 (.type "object") = some true)
  (n23_shape : Zb1 K (.ref C23) "shape" = some none)
  (n23_parts : Zb1 K (.ref C23) "parts" = some none)
  (n23_at : Zb1 K (.ref C23) "at" = some none)
  (n23_place : Zb1 K (.ref C23) "place" = some none)
  (i24 : Zb1 K (.ref C23) "__init__" = some (some (.ref f24)))
  (j24 : Zb3 K (.ref f24) = true)
  (l24 : K.lookup f24 = some ⟨oc24, od24, .func (Zci "__init__" "Make.__init__" (Zdg ZdR) (Zdf ZdR) (Zc5 ZdR) .none kV24 dc24 pm24 an24 cd24 ct24), sl24⟩)
  (c24 : Zcj K cd24 "Make.__init__" = true)
  (k24 : Zb8 K (.ref f24) = true)
  (mk23 : Zb6 K C23 = true)
  (kc23 : Zb8 K (.ref C23) = true)
  (a25 : Zck K mainGlobals "Use" = some (some (.ref C25)))
  (pg25 : ZbZ K C25 Str.empty = true)
  (hd25 : Zb0 K C25 = true)
  (po25 : Zb4 K C25 = true)
  (sa25 : Zb1 K (.ref C25) "__setattr__" = some (some (.builtin "object.__setattr__")))
  (t1_25 : Zb1 K (.ref C25) "__class__" = some (some (.builtin "object.__class__")))
  (t2_25 : Zb9 K (.builtin "object.__class__") "__get__" = some (some (.builtin "getset_descriptor.__get__")))
  (t3_25 : Zca K (.builtin "object.__class__") = some true)
  (t4_25 : Zcb K C25 (.type "object") = some true)
  (n25_at : Zb1 K (.ref C25) "at" = some none)
  (n25_place : Zb1 K (.ref C25) "place" = some none)
  (n25_slot : Zb1 K (.ref C25) "slot" = some none)
  (i26 : Zb1 K (.ref C25) "__init__" = some (some (.ref f26)))
  (j26 : Zb3 K (.ref f26) = true)
  (l26 : K.lookup f26 = some ⟨oc26, od26, .func (Zci "__init__" "Use.__init__" (Zdg Zd1) (Zdf Zd1) (Zc5 Zd1) .none kV26 dc26 pm26 an26 cd26 ct26), sl26⟩)
  (c26 : Zcj K cd26 "Use.__init__" = true)
  (k26 : Zb8 K (.ref f26) = true)
  (cg26 : Zb9 K (.ref C25) "__getattribute__" = some (some (.builtin "type.__getattribute__")))
  (cr26 : PySem.W.readsIn K C25 (.type "type") = true)
  (cf26 : PySem.W.findCls K (.ref C25) (.type "type") "__init__" = some (.val (.ref f26)))
  (mk25 : Zb6 K C25 = true)
  (kc25 : Zb8 K (.ref C25) = true)
  (a27 : Zck K mainGlobals "NumUse" = some (some (.ref C27)))
  (pg27 : ZbZ K C27 Str.empty = true)
  (hd27 : Zb0 K C27 = true)
  (po27 : Zb4 K C27 = true)
  (sa27 : Zb1 K (.ref C27) "__setattr__" = some (some (.builtin "object.__setattr__")))
  (t1_27 : Zb1 K (.ref C27) "__class__" = some (some (.builtin "object.__class__")))
  (t2_27 : Zb9 K (.builtin "object.__class__") "__get__" = some (some (.builtin "getset_descriptor.__get__")))
  (t3_27 : Zca K (.builtin "object.__class__") = some true)
  (t4_27 : Zcb K C27 (.type "object") = some true)
  (n27_at : Zb1 K (.ref C27) "at" = some none)
  (n27_place : Zb1 K (.ref C27) "place" = some none)
  (n27_slot : Zb1 K (.ref C27) "slot" = some none)
  (i28 : Zb1 K (.ref C27) "met" = some (some (.ref f28)))
  (j28 : Zb3 K (.ref f28) = true)
  (l28 : K.lookup f28 = some ⟨oc28, od28, .func (Zci "met" "NumUse.met" (Zdg ZeA) (Zdf ZeA) (Zc5 ZeA) .none kV28 dc28 pm28 an28 cd28 ct28), sl28⟩)
  (c28 : Zcj K cd28 "NumUse.met" = true)
  (k28 : Zb8 K (.ref f28) = true)
  (mk27 : Zb6 K C27 = true)
  (kc27 : Zb8 K (.ref C27) = true)
  (ii27 : Zb1 K (.ref C27) "__init__" = some (some (.ref f26)))
  (a29 : Zck K mainGlobals "CallUse" = some (some (.ref C29)))
  (pg29 : ZbZ K C29 Str.empty = true)
  (hd29 : Zb0 K C29 = true)
  (po29 : Zb4 K C29 = true)
  (sa29 : Zb1 K (.ref C29) "__setattr__" = some (some (.builtin "object.__setattr__")))
  (t1_29 : Zb1 K (.ref C29) "__class__" = some (some (.builtin "object.__class__")))
  (t2_29 : Zb9 K (.builtin "object.__class__") "__get__" = some (some (.builtin "getset_descriptor.__get__")))
  (t3_29 : Zca K (.builtin "object.__class__") = some true)
  (t4_29 : Zcb K C29 (.type "object") = some true)
  (n29_arg : Zb1 K (.ref C29) "arg" = some none)
  (n29_out : Zb1 K (.ref C29) "out" = some none)
  (n29_at : Zb1 K (.ref C29) "at" = some none)
  (n29_place : Zb1 K (.ref C29) "place" = some none)
  (n29_slot : Zb1 K (.ref C29) "slot" = some none)
  (i30 : Zb1 K (.ref C29) "__init__" = some (some (.ref f30)))
  (j30 : Zb3 K (.ref f30) = true)
  (l30 : K.lookup f30 = some ⟨oc30, od30, .func (Zci "__init__" "CallUse.__init__" (Zdg ZdD) (Zdf ZdD) (Zc5 ZdD) .none kV30 dc30 pm30 an30 cd30 ct30), sl30⟩)
  (c30 : Zcj K cd30 "CallUse.__init__" = true)
  (k30 : Zb8 K (.ref f30) = true)
  (mk29 : Zb6 K C29 = true)
  (kc29 : Zb8 K (.ref C29) = true)
  (i31 : Zb1 K (.ref C29) "met" = some (some (.ref f31)))
  (j31 : Zb3 K (.ref f31) = true)
  (l31 : K.lookup f31 = some ⟨oc31, od31, .func (Zci "met" "CallUse.met" (Zdg Zek) (Zdf Zek) (Zc5 Zek) .none kV31 dc31 pm31 an31 cd31 ct31), sl31⟩)
  (c31 : Zcj K cd31 "CallUse.met" = true)
  (k31 : Zb8 K (.ref f31) = true)
  (a32 : Zck K mainGlobals "TakeUse" = some (some (.ref C32)))
  (pg32 : ZbZ K C32 Str.empty = true)
  (hd32 : Zb0 K C32 = true)
  (po32 : Zb4 K C32 = true)
  (sa32 : Zb1 K (.ref C32) "__setattr__" = some (some (.builtin "object.__setattr__")))
  (t1_32 : Zb1 K (.ref C32) "__class__" = some (some (.builtin "object.__class__")))
  (t2_32 : Zb9 K (.builtin "object.__class__") "__get__" = some (some (.builtin "getset_descriptor.__get__")))
  (t3_32 : Zca K (.builtin "object.__class__") = some true)
  (t4_32 : Zcb K C32 (.type "object") = some true)
  (n32_fields : Zb1 K (.ref C32) "fields" = some none)
  (n32_at : Zb1 K (.ref C32) "at" = some none)
  (n32_place : Zb1 K (.ref C32) "place" = some none)
  (n32_slot : Zb1 K (.ref C32) "slot" = some none)
  (i33 : Zb1 K (.ref C32) "__init__" = some (some (.ref f33)))
  (j33 : Zb3 K (.ref f33) = true)
  (l33 : K.lookup f33 = some ⟨oc33, od33, .func (Zci "__init__" "TakeUse.__init__" (Zdg ZdE) (Zdf ZdE) (Zc5 ZdE) .none kV33 dc33 pm33 an33 cd33 ct33), sl33⟩)
  (c33 : Zcj K cd33 "TakeUse.__init__" = true)
  (k33 : Zb8 K (.ref f33) = true)
  (mk32 : Zb6 K C32 = true)
  (kc32 : Zb8 K (.ref C32) = true)
  (i34 : Zb1 K (.ref C32) "met" = some (some (.ref f34)))
  (j34 : Zb3 K (.ref f34) = true)
  (l34 : K.lookup f34 = some ⟨oc34, od34, .func (Zci "met" "TakeUse.met" (Zdg ZdV) (Zdf ZdV) (Zc5 ZdV) .none kV34 dc34 pm34 an34 cd34 ct34), sl34⟩)
  (c34 : Zcj K cd34 "TakeUse.met" = true)
  (k34 : Zb8 K (.ref f34) = true)
  (a35 : Zck K mainGlobals "CaseUse" = some (some (.ref C35)))
  (pg35 : ZbZ K C35 Str.empty = true)
  (hd35 : Zb0 K C35 = true)
  (po35 : Zb4 K C35 = true)
  (sa35 : Zb1 K (.ref C35) "__setattr__" = some (some (.builtin "object.__setattr__")))
  (t1_35 : Zb1 K (.ref C35) "__class__" = some (some (.builtin "object.__class__")))
  (t2_35 : Zb9 K (.builtin "object.__class__") "__get__" = some (some (.builtin "getset_descriptor.__get__")))
  (t3_35 : Zca K (.builtin "object.__class__") = some true)
  (t4_35 : Zcb K C35 (.type "object") = some true)
  (n35_arms : Zb1 K (.ref C35) "arms" = some none)
  (n35_at : Zb1 K (.ref C35) "at" = some none)
  (n35_place : Zb1 K (.ref C35) "place" = some none)
  (n35_slot : Zb1 K (.ref C35) "slot" = some none)
  (i36 : Zb1 K (.ref C35) "__init__" = some (some (.ref f36)))
  (j36 : Zb3 K (.ref f36) = true)
  (l36 : K.lookup f36 = some ⟨oc36, od36, .func (Zci "__init__" "CaseUse.__init__" (Zdg ZdF) (Zdf ZdF) (Zc5 ZdF) .none kV36 dc36 pm36 an36 cd36 ct36), sl36⟩)
  (c36 : Zcj K cd36 "CaseUse.__init__" = true)
  (k36 : Zb8 K (.ref f36) = true)
  (mk35 : Zb6 K C35 = true)
  (kc35 : Zb8 K (.ref C35) = true)
  (i37 : Zb1 K (.ref C35) "met" = some (some (.ref f37)))
  (j37 : Zb3 K (.ref f37) = true)
  (l37 : K.lookup f37 = some ⟨oc37, od37, .func (Zci "met" "CaseUse.met" (Zdg ZdW) (Zdf ZdW) (Zc5 ZdW) .none kV37 dc37 pm37 an37 cd37 ct37), sl37⟩)
  (c37 : Zcj K cd37 "CaseUse.met" = true)
  (k37 : Zb8 K (.ref f37) = true)
  (a38 : Zck K mainGlobals "RowUse" = some (some (.ref C38)))
  (pg38 : ZbZ K C38 Str.empty = true)
  (hd38 : Zb0 K C38 = true)
  (po38 : Zb4 K C38 = true)
  (sa38 : Zb1 K (.ref C38) "__setattr__" = some (some (.builtin "object.__setattr__")))
  (t1_38 : Zb1 K (.ref C38) "__class__" = some (some (.builtin "object.__class__")))
  (t2_38 : Zb9 K (.builtin "object.__class__") "__get__" = some (some (.builtin "getset_descriptor.__get__")))
  (t3_38 : Zca K (.builtin "object.__class__") = some true)
  (t4_38 : Zcb K C38 (.type "object") = some true)
  (n38_out : Zb1 K (.ref C38) "out" = some none)
  (n38_at : Zb1 K (.ref C38) "at" = some none)
  (n38_place : Zb1 K (.ref C38) "place" = some none)
  (n38_slot : Zb1 K (.ref C38) "slot" = some none)
  (i39 : Zb1 K (.ref C38) "__init__" = some (some (.ref f39)))
  (j39 : Zb3 K (.ref f39) = true)
  (l39 : K.lookup f39 = some ⟨oc39, od39, .func (Zci "__init__" "RowUse.__init__" (Zdg ZdI) (Zdf ZdI) (Zc5 ZdI) .none kV39 dc39 pm39 an39 cd39 ct39), sl39⟩)
  (c39 : Zcj K cd39 "RowUse.__init__" = true)
  (k39 : Zb8 K (.ref f39) = true)
  (mk38 : Zb6 K C38 = true)
  (kc38 : Zb8 K (.ref C38) = true)
  (i40 : Zb1 K (.ref C38) "met" = some (some (.ref f40)))
  (j40 : Zb3 K (.ref f40) = true)
  (l40 : K.lookup f40 = some ⟨oc40, od40, .func (Zci "met" "RowUse.met" (Zdg ZeB) (Zdf ZeB) (Zc5 ZeB) .none kV40 dc40 pm40 an40 cd40 ct40), sl40⟩)
  (c40 : Zcj K cd40 "RowUse.met" = true)
  (k40 : Zb8 K (.ref f40) = true)
  (a41 : Zck K mainGlobals "Board" = some (some (.ref C41)))
  (pg41 : ZbZ K C41 Str.empty = true)
  (hd41 : Zb0 K C41 = true)
  (po41 : Zb4 K C41 = true)
  (sa41 : Zb1 K (.ref C41) "__setattr__" = some (some (.builtin "object.__setattr__")))
  (t1_41 : Zb1 K (.ref C41) "__class__" = some (some (.builtin "object.__class__")))
  (t2_41 : Zb9 K (.builtin "object.__class__") "__get__" = some (some (.builtin "getset_descriptor.__get__")))
  (t3_41 : Zca K (.builtin "object.__class__") = some true)
  (t4_41 : Zcb K C41 (.type "object") = some true)
  (n41_points : Zb1 K (.ref C41) "points" = some none)
  (n41_makes : Zb1 K (.ref C41) "makes" = some none)
  (n41_uses : Zb1 K (.ref C41) "uses" = some none)
  (n41_flows : Zb1 K (.ref C41) "flows" = some none)
  (n41_root : Zb1 K (.ref C41) "root" = some none)
  (i42 : Zb1 K (.ref C41) "__init__" = some (some (.ref f42)))
  (j42 : Zb3 K (.ref f42) = true)
  (l42 : K.lookup f42 = some ⟨oc42, od42, .func (Zci "__init__" "Board.__init__" (Zdg ZdL) (Zdf ZdL) (Zc5 ZdL) .none kV42 dc42 pm42 an42 cd42 ct42), sl42⟩)
  (c42 : Zcj K cd42 "Board.__init__" = true)
  (k42 : Zb8 K (.ref f42) = true)
  (mk41 : Zb6 K C41 = true)
  (kc41 : Zb8 K (.ref C41) = true)
  (i43 : Zb1 K (.ref C41) "point" = some (some (.ref f43)))
  (j43 : Zb3 K (.ref f43) = true)
  (l43 : K.lookup f43 = some ⟨oc43, od43, .func (Zci "point" "Board.point" (Zdg Zel) (Zdf Zel) (Zc5 Zel) .none kV43 dc43 pm43 an43 cd43 ct43), sl43⟩)
  (c43 : Zcj K cd43 "Board.point" = true)
  (k43 : Zb8 K (.ref f43) = true)
  (i44 : Zb1 K (.ref C41) "make" = some (some (.ref f44)))
  (j44 : Zb3 K (.ref f44) = true)
  (l44 : K.lookup f44 = some ⟨oc44, od44, .func (Zci "make" "Board.make" (Zdg ZeC) (Zdf ZeC) (Zc5 ZeC) .none kV44 dc44 pm44 an44 cd44 ct44), sl44⟩)
  (c44 : Zcj K cd44 "Board.make" = true)
  (k44 : Zb8 K (.ref f44) = true)
  (i45 : Zb1 K (.ref C41) "use" = some (some (.ref f45)))
  (j45 : Zb3 K (.ref f45) = true)
  (l45 : K.lookup f45 = some ⟨oc45, od45, .func (Zci "use" "Board.use" (Zdg ZeY) (Zdf ZeY) (Zc5 ZeY) .none kV45 dc45 pm45 an45 cd45 ct45), sl45⟩)
  (c45 : Zcj K cd45 "Board.use" = true)
  (k45 : Zb8 K (.ref f45) = true)
  (i46 : Zb1 K (.ref C41) "flow" = some (some (.ref f46)))
  (j46 : Zb3 K (.ref f46) = true)
  (l46 : K.lookup f46 = some ⟨oc46, od46, .func (Zci "flow" "Board.flow" (Zdg ZeD) (Zdf ZeD) (Zc5 ZeD) .none kV46 dc46 pm46 an46 cd46 ct46), sl46⟩)
  (c46 : Zcj K cd46 "Board.flow" = true)
  (k46 : Zb8 K (.ref f46) = true)
  (a47 : Zck K mainGlobals "Log" = some (some (.ref C47)))
  (pg47 : ZbZ K C47 Str.empty = true)
  (hd47 : Zb0 K C47 = true)
  (po47 : Zb4 K C47 = true)
  (sa47 : Zb1 K (.ref C47) "__setattr__" = some (some (.builtin "object.__setattr__")))
  (t1_47 : Zb1 K (.ref C47) "__class__" = some (some (.builtin "object.__class__")))
  (t2_47 : Zb9 K (.builtin "object.__class__") "__get__" = some (some (.builtin "getset_descriptor.__get__")))
  (t3_47 : Zca K (.builtin "object.__class__") = some true)
  (t4_47 : Zcb K C47 (.type "object") = some true)
  (n47_rows : Zb1 K (.ref C47) "rows" = some none)
  (n47_bads : Zb1 K (.ref C47) "bads" = some none)
  (i48 : Zb1 K (.ref C47) "__init__" = some (some (.ref f48)))
  (j48 : Zb3 K (.ref f48) = true)
  (l48 : K.lookup f48 = some ⟨oc48, od48, .func (Zci "__init__" "Log.__init__" (Zdg Zd2) (Zdf Zd2) (Zc5 Zd2) .none kV48 dc48 pm48 an48 cd48 ct48), sl48⟩)
  (c48 : Zcj K cd48 "Log.__init__" = true)
  (k48 : Zb8 K (.ref f48) = true)
  (mk47 : Zb6 K C47 = true)
  (kc47 : Zb8 K (.ref C47) = true)
  (a49 : Zck K mainGlobals "Settling" = some (some (.ref C49)))
  (pg49 : ZbZ K C49 Str.empty = true)
  (hd49 : Zb0 K C49 = true)
  (po49 : Zb4 K C49 = true)
  (sa49 : Zb1 K (.ref C49) "__setattr__" = some (some (.builtin "object.__setattr__")))
  (t1_49 : Zb1 K (.ref C49) "__class__" = some (some (.builtin "object.__class__")))
  (t2_49 : Zb9 K (.builtin "object.__class__") "__get__" = some (some (.builtin "getset_descriptor.__get__")))
  (t3_49 : Zca K (.builtin "object.__class__") = some true)
  (t4_49 : Zcb K C49 (.type "object") = some true)
  (n49_board : Zb1 K (.ref C49) "board" = some none)
  (n49_uses_at : Zb1 K (.ref C49) "uses_at" = some none)
  (n49_rows : Zb1 K (.ref C49) "rows" = some none)
  (n49_bads : Zb1 K (.ref C49) "bads" = some none)
  (n49_known : Zb1 K (.ref C49) "known" = some none)
  (n49_goes : Zb1 K (.ref C49) "goes" = some none)
  (n49_heres : Zb1 K (.ref C49) "heres" = some none)
  (i50 : Zb1 K (.ref C49) "__init__" = some (some (.ref f50)))
  (j50 : Zb3 K (.ref f50) = true)
  (l50 : K.lookup f50 = some ⟨oc50, od50, .func (Zci "__init__" "Settling.__init__" (Zdg Zdy) (Zdf Zdy) (Zc5 Zdy) .none kV50 dc50 pm50 an50 cd50 ct50), sl50⟩)
  (c50 : Zcj K cd50 "Settling.__init__" = true)
  (k50 : Zb8 K (.ref f50) = true)
  (mk49 : Zb6 K C49 = true)
  (kc49 : Zb8 K (.ref C49) = true)
  (i51 : Zb1 K (.ref C49) "put" = some (some (.ref f51)))
  (j51 : Zb3 K (.ref f51) = true)
  (l51 : K.lookup f51 = some ⟨oc51, od51, .func (Zci "put" "Settling.put" (Zdg Zd3) (Zdf Zd3) (Zc5 Zd3) .none kV51 dc51 pm51 an51 cd51 ct51), sl51⟩)
  (c51 : Zcj K cd51 "Settling.put" = true)
  (k51 : Zb8 K (.ref f51) = true)
  (i52 : Zb1 K (.ref C49) "work" = some (some (.ref f52)))
  (j52 : Zb3 K (.ref f52) = true)
  (l52 : K.lookup f52 = some ⟨oc52, od52, .func (Zci "work" "Settling.work" (Zdg ZdS) (Zdf ZdS) (Zc5 ZdS) .none kV52 dc52 pm52 an52 cd52 ct52), sl52⟩)
  (c52 : Zcj K cd52 "Settling.work" = true)
  (k52 : Zb8 K (.ref f52) = true)
  (i53 : Zb1 K (.ref C49) "work_goes" = some (some (.ref f53)))
  (j53 : Zb3 K (.ref f53) = true)
  (l53 : K.lookup f53 = some ⟨oc53, od53, .func (Zci "work_goes" "Settling.work_goes" (Zdg Zds) (Zdf Zds) (Zc5 Zds) .none kV53 dc53 pm53 an53 cd53 ct53), sl53⟩)
  (c53 : Zcj K cd53 "Settling.work_goes" = true)
  (k53 : Zb8 K (.ref f53) = true)
  (i54 : Zb1 K (.ref C49) "work_uses" = some (some (.ref f54)))
  (j54 : Zb3 K (.ref f54) = true)
  (l54 : K.lookup f54 = some ⟨oc54, od54, .func (Zci "work_uses" "Settling.work_uses" (Zdg Zdt) (Zdf Zdt) (Zc5 Zdt) .none kV54 dc54 pm54 an54 cd54 ct54), sl54⟩)
  (c54 : Zcj K cd54 "Settling.work_uses" = true)
  (k54 : Zb8 K (.ref f54) = true)
  (i55 : Zb1 K (.ref C49) "put_flows" = some (some (.ref f55)))
  (j55 : Zb3 K (.ref f55) = true)
  (l55 : K.lookup f55 = some ⟨oc55, od55, .func (Zci "put_flows" "Settling.put_flows" (Zdg Zdu) (Zdf Zdu) (Zc5 Zdu) .none kV55 dc55 pm55 an55 cd55 ct55), sl55⟩)
  (c55 : Zcj K cd55 "Settling.put_flows" = true)
  (k55 : Zb8 K (.ref f55) = true)
  (i56 : Zb1 K (.ref C49) "work_here" = some (some (.ref f56)))
  (j56 : Zb3 K (.ref f56) = true)
  (l56 : K.lookup f56 = some ⟨oc56, od56, .func (Zci "work_here" "Settling.work_here" (Zdg Zdv) (Zdf Zdv) (Zc5 Zdv) .none kV56 dc56 pm56 an56 cd56 ct56), sl56⟩)
  (c56 : Zcj K cd56 "Settling.work_here" = true)
  (k56 : Zb8 K (.ref f56) = true)
  (z_all : Zck K mainGlobals "all" = some none)
  (z_bool : Zck K mainGlobals "bool" = some none)
  (z_dict : Zck K mainGlobals "dict" = some none)
  (z_enumerate : Zck K mainGlobals "enumerate" = some none)
  (z_int : Zck K mainGlobals "int" = some none)
  (z_isinstance : Zck K mainGlobals "isinstance" = some none)
  (z_len : Zck K mainGlobals "len" = some none)
  (z_list : Zck K mainGlobals "list" = some none)
  (z_range : Zck K mainGlobals "range" = some none)
  (z_set : Zck K mainGlobals "set" = some none)
  (z_sorted : Zck K mainGlobals "sorted" = some none)
  (z_str : Zck K mainGlobals "str" = some none)
  (z_sum : Zck K mainGlobals "sum" = some none)
  (z_tuple : Zck K mainGlobals "tuple" = some none)
  (aL : Zck K mainGlobals "law" = some (some (.ref fL))) (lL : K.lookup fL = some ⟨ocL, odL, .func (Zci "law" "law" (Zdg ZiO) (Zdf ZiO) (Zc5 ZiO) .none kVL dcL pmL anL cdL ctL), slL⟩) (cL : Zcj K cdL "law" = true) (kL : Zb8 K (.ref fL) = true) :
  ∃ fd : FuncData, (∀ (s : Shared) (v : Value), BindsTo s fd ⟨[v], []⟩ [("_law_script", v)]) /\ ∀ base : Heap, K.In base -> base.Ns mainGlobals mg -> Ze0 l.prog w K mg base CX0 40 fa fd ["_law_script"] (Zk8 K) := by
 have e := hfa.symm.trans (Zcl X G aL)
 cases e
 have T : Txt K mg := ⟨f1, _, Zda (st := ZdQ) l1 c1 k1, (Zda (st := ZdQ) l1 c1 k1).binds (ps := ["board"]) (fun _ _ _ _ _ _ => lS (fun _ => l0 rfl)), Zcl X G a1, k1,
  f2, _, Zda (st := Zkq) l2 c2 k2, (Zda (st := Zkq) l2 c2 k2).binds (ps := ["log", "k"]) (fun _ _ _ _ _ _ => lS (fun _ => lS (fun _ => l0 rfl))), Zcl X G a2, k2,
  f3, _, Zda (st := Zef) l3 c3 k3, (Zda (st := Zef) l3 c3 k3).binds (ps := ["log", "k"]) (fun _ _ _ _ _ _ => lS (fun _ => lS (fun _ => l0 rfl))), Zcl X G a3, k3,
  f4, _, Zda (st := Zeu) l4 c4 k4, (Zda (st := Zeu) l4 c4 k4).binds (ps := ["row"]) (fun _ _ _ _ _ _ => lS (fun _ => l0 rfl)), Zcl X G a4, k4,
  f5, _, Zda (st := Zeg) l5 c5 k5, (Zda (st := Zeg) l5 c5 k5).binds (ps := ["row", "places"]) (fun _ _ _ _ _ _ => lS (fun _ => lS (fun _ => l0 rfl))), Zcl X G a5, k5,
  f6, _, Zda (st := Zfv) l6 c6 k6, (Zda (st := Zfv) l6 c6 k6).binds (ps := ["board"]) (fun _ _ _ _ _ _ => lS (fun _ => l0 rfl)), Zcl X G a6, k6,
  f7, _, Zda (st := ZeU) l7 c7 k7, (Zda (st := ZeU) l7 c7 k7).binds (ps := ["_law_cell", "_law_turn", "_law_many"]) (fun _ _ _ _ _ _ => lS (fun _ => lS (fun _ => lS (fun _ => l0 rfl)))), Zcl X G a7, k7,
  f8, _, Zda (st := Zev) l8 c8 k8, (Zda (st := Zev) l8 c8 k8).binds (ps := ["_law_cell"]) (fun _ _ _ _ _ _ => lS (fun _ => l0 rfl)), Zcl X G a8, k8,
  f9, _, Zda (st := Zew) l9 c9 k9, (Zda (st := Zew) l9 c9 k9).binds (ps := ["_law_words_here", "_law_cell", "_law_spots"]) (fun _ _ _ _ _ _ => lS (fun _ => lS (fun _ => lS (fun _ => l0 rfl)))), Zcl X G a9, k9,
  f10, _, Zda (st := ZeV) l10 c10 k10, (Zda (st := ZeV) l10 c10 k10).binds (ps := ["_law_words_here", "_law_cell", "_law_many"]) (fun _ _ _ _ _ _ => lS (fun _ => lS (fun _ => lS (fun _ => l0 rfl)))), Zcl X G a10, k10,
  f11, _, Zda (st := Ze5) l11 c11 k11, (Zda (st := Ze5) l11 c11 k11).binds (ps := ["_law_words_here", "_law_cell", "_law_many"]) (fun _ _ _ _ _ _ => lS (fun _ => lS (fun _ => lS (fun _ => l0 rfl)))), Zcl X G a11, k11,
  f12, _, Zda (st := Zeh) l12 c12 k12, (Zda (st := Zeh) l12 c12 k12).binds (ps := ["_law_script"]) (fun _ _ _ _ _ _ => lS (fun _ => l0 rfl)), Zcl X G a12, k12,
  f13, _, Zda (st := Zex) l13 c13 k13, (Zda (st := Zex) l13 c13 k13).binds (ps := ["_law_told"]) (fun _ _ _ _ _ _ => lS (fun _ => l0 rfl)), Zcl X G a13, k13,
  f14, _, Zda (st := Zey) l14 c14 k14, (Zda (st := Zey) l14 c14 k14).binds (ps := ["_law_things_here"]) (fun _ _ _ _ _ _ => lS (fun _ => l0 rfl)), Zcl X G a14, k14,
  f15, _, Zda (st := Ze6) l15 c15 k15, (Zda (st := Ze6) l15 c15 k15).binds (ps := ["_law_make_here", "_law_use_here"]) (fun _ _ _ _ _ _ => lS (fun _ => lS (fun _ => l0 rfl))), Zcl X G a15, k15,
  f16, _, Zda (st := Zez) l16 c16 k16, (Zda (st := Zez) l16 c16 k16).binds (ps := ["_law_x"]) (fun _ _ _ _ _ _ => lS (fun _ => l0 rfl)), Zcl X G a16, k16,
  f17, _, Zda (st := ZeW) l17 c17 k17, (Zda (st := ZeW) l17 c17 k17).binds (ps := ["_law_x"]) (fun _ _ _ _ _ _ => lS (fun _ => l0 rfl)), Zcl X G a17, k17,
  f18, _, Zda (st := Zei) l18 c18 k18, (Zda (st := Zei) l18 c18 k18).binds (ps := ["_law_rows"]) (fun _ _ _ _ _ _ => lS (fun _ => l0 rfl)), Zcl X G a18, k18,
  f19, _, Zda (st := Zej) l19 c19 k19, (Zda (st := Zej) l19 c19 k19).binds (ps := ["_law_things_here", "_law_rows", "_law_number"]) (fun _ _ _ _ _ _ => lS (fun _ => lS (fun _ => lS (fun _ => l0 rfl)))), Zcl X G a19, k19,
  f20, _, Zda (st := ZdK) l20 c20 k20, (Zda (st := ZdK) l20 c20 k20).binds (ps := ["_law_things_here", "_law_rows"]) (fun _ _ _ _ _ _ => lS (fun _ => lS (fun _ => l0 rfl))), Zcl X G a20, k20,
  f21, _, Zda (st := ZeX) l21 c21 k21, (Zda (st := ZeX) l21 c21 k21).binds (ps := ["_law_found", "_law_numbers"]) (fun _ _ _ _ _ _ => lS (fun _ => lS (fun _ => l0 rfl))), Zcl X G a21, k21,
  f22, _, Zda (st := Ze7) l22 c22 k22, (Zda (st := Ze7) l22 c22 k22).binds (ps := ["_law_things_here", "_law_log", "_law_k"]) (fun _ _ _ _ _ _ => lS (fun _ => lS (fun _ => lS (fun _ => l0 rfl)))), Zcl X G a22, k22,
  C23, Zcl X G a23, ⟨pg23, hd23, po23, sa23⟩, fun _ _ _ _ e => .ins e ⟨pg23, hd23, po23, sa23⟩ t1_23 t2_23 t3_23 t4_23, n23_shape, n23_parts, n23_at, n23_place, f24, _, Zda (st := ZdR) l24 c24 k24, (Zda (st := ZdR) l24 c24 k24).binds (ps := ["self", "shape", "parts", "at", "place"]) (fun _ _ _ _ _ _ => lS (fun _ => lS (fun _ => lS (fun _ => lS (fun _ => lS (fun _ => l0 rfl)))))), ⟨mk23, i24, j24, kc23⟩,
  C25, Zcl X G a25, ⟨pg25, hd25, po25, sa25⟩, fun _ _ _ _ e => .ins e ⟨pg25, hd25, po25, sa25⟩ t1_25 t2_25 t3_25 t4_25, n25_at, n25_place, n25_slot, f26, _, Zda (st := Zd1) l26 c26 k26, (Zda (st := Zd1) l26 c26 k26).binds (ps := ["self", "at", "place", "slot"]) (fun _ _ _ _ _ _ => lS (fun _ => lS (fun _ => lS (fun _ => lS (fun _ => l0 rfl))))), ⟨cg26, ⟨_, cr26, cf26⟩, k26⟩, ⟨mk25, i26, j26, kc25⟩,
  C27, Zcl X G a27, ⟨pg27, hd27, po27, sa27⟩, fun _ _ _ _ e => .ins e ⟨pg27, hd27, po27, sa27⟩ t1_27 t2_27 t3_27 t4_27, n27_at, n27_place, n27_slot, f28, _, Zda (st := ZeA) l28 c28 k28, (Zda (st := ZeA) l28 c28 k28).binds (ps := ["self", "make"]) (fun _ _ _ _ _ _ => lS (fun _ => lS (fun _ => l0 rfl))), ⟨i28, j28, k28⟩, ⟨mk27, ii27, j26, kc27⟩,
  C29, Zcl X G a29, ⟨pg29, hd29, po29, sa29⟩, fun _ _ _ _ e => .ins e ⟨pg29, hd29, po29, sa29⟩ t1_29 t2_29 t3_29 t4_29, n29_arg, n29_out, n29_at, n29_place, n29_slot, f30, _, Zda (st := ZdD) l30 c30 k30, (Zda (st := ZdD) l30 c30 k30).binds (ps := ["self", "at", "place", "slot", "arg", "out"]) (fun _ _ _ _ _ _ => lS (fun _ => lS (fun _ => lS (fun _ => lS (fun _ => lS (fun _ => lS (fun _ => l0 rfl))))))), ⟨mk29, i30, j30, kc29⟩, f31, _, Zda (st := Zek) l31 c31 k31, (Zda (st := Zek) l31 c31 k31).binds (ps := ["self", "make"]) (fun _ _ _ _ _ _ => lS (fun _ => lS (fun _ => l0 rfl))), ⟨i31, j31, k31⟩,
  C32, Zcl X G a32, ⟨pg32, hd32, po32, sa32⟩, fun _ _ _ _ e => .ins e ⟨pg32, hd32, po32, sa32⟩ t1_32 t2_32 t3_32 t4_32, n32_fields, n32_at, n32_place, n32_slot, f33, _, Zda (st := ZdE) l33 c33 k33, (Zda (st := ZdE) l33 c33 k33).binds (ps := ["self", "at", "place", "slot", "fields"]) (fun _ _ _ _ _ _ => lS (fun _ => lS (fun _ => lS (fun _ => lS (fun _ => lS (fun _ => l0 rfl)))))), ⟨mk32, i33, j33, kc32⟩, f34, _, Zda (st := ZdV) l34 c34 k34, (Zda (st := ZdV) l34 c34 k34).binds (ps := ["self", "make"]) (fun _ _ _ _ _ _ => lS (fun _ => lS (fun _ => l0 rfl))), ⟨i34, j34, k34⟩,
  C35, Zcl X G a35, ⟨pg35, hd35, po35, sa35⟩, fun _ _ _ _ e => .ins e ⟨pg35, hd35, po35, sa35⟩ t1_35 t2_35 t3_35 t4_35, n35_arms, n35_at, n35_place, n35_slot, f36, _, Zda (st := ZdF) l36 c36 k36, (Zda (st := ZdF) l36 c36 k36).binds (ps := ["self", "at", "place", "slot", "arms"]) (fun _ _ _ _ _ _ => lS (fun _ => lS (fun _ => lS (fun _ => lS (fun _ => lS (fun _ => l0 rfl)))))), ⟨mk35, i36, j36, kc35⟩, f37, _, Zda (st := ZdW) l37 c37 k37, (Zda (st := ZdW) l37 c37 k37).binds (ps := ["self", "make"]) (fun _ _ _ _ _ _ => lS (fun _ => lS (fun _ => l0 rfl))), ⟨i37, j37, k37⟩,
  C38, Zcl X G a38, ⟨pg38, hd38, po38, sa38⟩, fun _ _ _ _ e => .ins e ⟨pg38, hd38, po38, sa38⟩ t1_38 t2_38 t3_38 t4_38, n38_out, n38_at, n38_place, n38_slot, f39, _, Zda (st := ZdI) l39 c39 k39, (Zda (st := ZdI) l39 c39 k39).binds (ps := ["self", "at", "place", "slot", "out"]) (fun _ _ _ _ _ _ => lS (fun _ => lS (fun _ => lS (fun _ => lS (fun _ => lS (fun _ => l0 rfl)))))), ⟨mk38, i39, j39, kc38⟩, f40, _, Zda (st := ZeB) l40 c40 k40, (Zda (st := ZeB) l40 c40 k40).binds (ps := ["self", "make"]) (fun _ _ _ _ _ _ => lS (fun _ => lS (fun _ => l0 rfl))), ⟨i40, j40, k40⟩,
  C41, Zcl X G a41, ⟨pg41, hd41, po41, sa41⟩, fun _ _ _ _ e => .ins e ⟨pg41, hd41, po41, sa41⟩ t1_41 t2_41 t3_41 t4_41, n41_points, n41_makes, n41_uses, n41_flows, n41_root, f42, _, Zda (st := ZdL) l42 c42 k42, (Zda (st := ZdL) l42 c42 k42).binds (ps := ["self"]) (fun _ _ _ _ _ _ => lS (fun _ => l0 rfl)), ⟨mk41, i42, j42, kc41⟩, f43, _, Zda (st := Zel) l43 c43 k43, (Zda (st := Zel) l43 c43 k43).binds (ps := ["self", "place"]) (fun _ _ _ _ _ _ => lS (fun _ => lS (fun _ => l0 rfl))), ⟨i43, j43, k43⟩, f44, _, Zda (st := ZeC) l44 c44 k44, (Zda (st := ZeC) l44 c44 k44).binds (ps := ["self", "shape", "parts", "at", "place"]) (fun _ _ _ _ _ _ => lS (fun _ => lS (fun _ => lS (fun _ => lS (fun _ => lS (fun _ => l0 rfl)))))), ⟨i44, j44, k44⟩, f45, _, Zda (st := ZeY) l45 c45 k45, (Zda (st := ZeY) l45 c45 k45).binds (ps := ["self", "one"]) (fun _ _ _ _ _ _ => lS (fun _ => lS (fun _ => l0 rfl))), ⟨i45, j45, k45⟩, f46, _, Zda (st := ZeD) l46 c46 k46, (Zda (st := ZeD) l46 c46 k46).binds (ps := ["self", "p", "q"]) (fun _ _ _ _ _ _ => lS (fun _ => lS (fun _ => lS (fun _ => l0 rfl)))), ⟨i46, j46, k46⟩,
  C47, Zcl X G a47, ⟨pg47, hd47, po47, sa47⟩, fun _ _ _ _ e => .ins e ⟨pg47, hd47, po47, sa47⟩ t1_47 t2_47 t3_47 t4_47, n47_rows, n47_bads, f48, _, Zda (st := Zd2) l48 c48 k48, (Zda (st := Zd2) l48 c48 k48).binds (ps := ["self", "rows", "bads"]) (fun _ _ _ _ _ _ => lS (fun _ => lS (fun _ => lS (fun _ => l0 rfl)))), ⟨mk47, i48, j48, kc47⟩,
  C49, Zcl X G a49, ⟨pg49, hd49, po49, sa49⟩, fun _ _ _ _ e => .ins e ⟨pg49, hd49, po49, sa49⟩ t1_49 t2_49 t3_49 t4_49, n49_board, n49_uses_at, n49_rows, n49_bads, n49_known, n49_goes, n49_heres, f50, _, Zda (st := Zdy) l50 c50 k50, (Zda (st := Zdy) l50 c50 k50).binds (ps := ["self", "board"]) (fun _ _ _ _ _ _ => lS (fun _ => lS (fun _ => l0 rfl))), ⟨mk49, i50, j50, kc49⟩, f51, _, Zda (st := Zd3) l51 c51 k51, (Zda (st := Zd3) l51 c51 k51).binds (ps := ["self", "word", "first", "second", "why"]) (fun _ _ _ _ _ _ => lS (fun _ => lS (fun _ => lS (fun _ => lS (fun _ => lS (fun _ => l0 rfl)))))), ⟨i51, j51, k51⟩, f52, _, Zda (st := ZdS) l52 c52 k52, (Zda (st := ZdS) l52 c52 k52).binds (ps := ["self", "number"]) (fun _ _ _ _ _ _ => lS (fun _ => lS (fun _ => l0 rfl))), ⟨i52, j52, k52⟩, f53, _, Zda (st := Zds) l53 c53 k53, (Zda (st := Zds) l53 c53 k53).binds (ps := ["self", "number", "p", "q"]) (fun _ _ _ _ _ _ => lS (fun _ => lS (fun _ => lS (fun _ => lS (fun _ => l0 rfl))))), ⟨i53, j53, k53⟩, f54, _, Zda (st := Zdt) l54 c54 k54, (Zda (st := Zdt) l54 c54 k54).binds (ps := ["self", "number", "m", "p"]) (fun _ _ _ _ _ _ => lS (fun _ => lS (fun _ => lS (fun _ => lS (fun _ => l0 rfl))))), ⟨i54, j54, k54⟩, f55, _, Zda (st := Zdu) l55 c55 k55, (Zda (st := Zdu) l55 c55 k55).binds (ps := ["self", "flows", "why"]) (fun _ _ _ _ _ _ => lS (fun _ => lS (fun _ => lS (fun _ => l0 rfl)))), ⟨i55, j55, k55⟩, f56, _, Zda (st := Zdv) l56 c56 k56, (Zda (st := Zdv) l56 c56 k56).binds (ps := ["self", "number", "m", "p"]) (fun _ _ _ _ _ _ => lS (fun _ => lS (fun _ => lS (fun _ => lS (fun _ => l0 rfl))))), ⟨i56, j56, k56⟩,
  Zcm X G z_all,
  Zcm X G z_bool,
  Zcm X G z_dict,
  Zcm X G z_enumerate,
  Zcm X G z_int,
  Zcm X G z_isinstance,
  Zcm X G z_len,
  Zcm X G z_list,
  Zcm X G z_range,
  Zcm X G z_set,
  Zcm X G z_sorted,
  Zcm X G z_str,
  Zcm X G z_sum,
  Zcm X G z_tuple⟩
 exact ⟨Zci "law" "law" (Zdg ZiO) (Zdf ZiO) (Zc5 ZiO) .none kVL dcL pmL anL cdL ctL, fun s v => .of_eq rfl, fun base _ _ => ZoY T (Zda (st := ZiO) lL cL kL)⟩
theorem walk {l : PySem.W.OpenLaw} {q : Program} {loose : List Str} {XP : (Str -> Option Value) -> Heap -> Prop} {YP : World -> Heap -> Prop} {d : DefRec} {K : Params -> PySem.W.Frag} (hn : l.most = some 63) (hdf : d.params.defaults = [])
  (hY : ∀ (w : World) (h : Heap), YP w h -> (K w.params).In h)
  (F : ∀ (w : World) (mg : Str -> Option Value) (fa : Addr) (h : Heap), (K w.params).In h -> h.Ns mainGlobals mg -> mg d.name = some (.ref fa) ->
   ∃ fd : FuncData, (∀ (s : Shared) (u : Value), BindsTo s fd ⟨[u], []⟩ [("_law_script", u)]) /\ ∀ base : Heap, (K w.params).In base -> base.Ns mainGlobals mg -> Ze0 l.prog w (K w.params) mg base CX0 40 fa fd ["_law_script"] (Zk8 (K w.params))) :
  PySem.W.WalkO q loose XP YP l.row.toRowW d [] (fun f vs => PySem.call f vs) :=
 L2.Internal.walk_of (n := 63) (k := 40) (x := "_law_script") (CX := fun _ => CX0) (sp := fun w => Zk8 (K w.params)) hn (by decide) hdf ⟨rfl, by decide, by decide⟩ hY F (fun _ _ a ns hl _ hS => ⟨a, ns, rfl, hS, hl, fun _ => rfl⟩) fun _ _ _ _ _ z => z
end K34.Internal
open PySem PySem.W PyProof.Rows
set_option maxRecDepth 100000 in
set_option maxHeartbeats 0 in
theorem PySem.Challenge.cw_flowkinds_k34_a_way_by_itself_holds : PySem.Challenge.rw_flowkinds_k34_a_way_by_itself.Holds := by
 w_on; o_law; k_head; (case hw => w_witness2)
 k_fill
 refine K34.Internal.walk (l := PySem.Challenge.rw_flowkinds_k34_a_way_by_itself) rfl rfl (fun w h Y => PySem.W.kIn_of Y) ?F
 case F =>
  intro w mg fa h KX G hmg
  refine' K34.Internal.all_mk KX G hmg ?a1 ?l1 ?c1 ?k1 ?a2 ?l2 ?c2 ?k2 ?a3 ?l3 ?c3 ?k3 ?a4 ?l4 ?c4 ?k4 ?a5 ?l5 ?c5 ?k5 ?a6 ?l6 ?c6 ?k6 ?a7 ?l7 ?c7 ?k7 ?a8 ?l8 ?c8 ?k8 ?a9 ?l9 ?c9 ?k9 ?a10 ?l10 ?c10 ?k10 ?a11 ?l11 ?c11 ?k11 ?a12 ?l12 ?c12 ?k12 ?a13 ?l13 ?c13 ?k13 ?a14 ?l14 ?c14 ?k14 ?a15 ?l15 ?c15 ?k15 ?a16 ?l16 ?c16 ?k16 ?a17 ?l17 ?c17 ?k17 ?a18 ?l18 ?c18 ?k18 ?a19 ?l19 ?c19 ?k19 ?a20 ?l20 ?c20 ?k20 ?a21 ?l21 ?c21 ?k21 ?a22 ?l22 ?c22 ?k22 ?a23 ?pg23 ?hd23 ?po23 ?sa23 ?t1_23 ?t2_23 ?t3_23 ?t4_23 ?n23_shape ?n23_parts ?n23_at ?n23_place ?i24 ?j24 ?l24 ?c24 ?k24 ?mk23 ?kc23 ?a25 ?pg25 ?hd25 ?po25 ?sa25 ?t1_25 ?t2_25 ?t3_25 ?t4_25 ?n25_at ?n25_place ?n25_slot ?i26 ?j26 ?l26 ?c26 ?k26 ?cg26 ?cr26 ?cf26 ?mk25 ?kc25 ?a27 ?pg27 ?hd27 ?po27 ?sa27 ?t1_27 ?t2_27 ?t3_27 ?t4_27 ?n27_at ?n27_place ?n27_slot ?i28 ?j28 ?l28 ?c28 ?k28 ?mk27 ?kc27 ?ii27 ?a29 ?pg29 ?hd29 ?po29 ?sa29 ?t1_29 ?t2_29 ?t3_29 ?t4_29 ?n29_arg ?n29_out ?n29_at ?n29_place ?n29_slot ?i30 ?j30 ?l30 ?c30 ?k30 ?mk29 ?kc29 ?i31 ?j31 ?l31 ?c31 ?k31 ?a32 ?pg32 ?hd32 ?po32 ?sa32 ?t1_32 ?t2_32 ?t3_32 ?t4_32 ?n32_fields ?n32_at ?n32_place ?n32_slot ?i33 ?j33 ?l33 ?c33 ?k33 ?mk32 ?kc32 ?i34 ?j34 ?l34 ?c34 ?k34 ?a35 ?pg35 ?hd35 ?po35 ?sa35 ?t1_35 ?t2_35 ?t3_35 ?t4_35 ?n35_arms ?n35_at ?n35_place ?n35_slot ?i36 ?j36 ?l36 ?c36 ?k36 ?mk35 ?kc35 ?i37 ?j37 ?l37 ?c37 ?k37 ?a38 ?pg38 ?hd38 ?po38 ?sa38 ?t1_38 ?t2_38 ?t3_38 ?t4_38 ?n38_out ?n38_at ?n38_place ?n38_slot ?i39 ?j39 ?l39 ?c39 ?k39 ?mk38 ?kc38 ?i40 ?j40 ?l40 ?c40 ?k40 ?a41 ?pg41 ?hd41 ?po41 ?sa41 ?t1_41 ?t2_41 ?t3_41 ?t4_41 ?n41_points ?n41_makes ?n41_uses ?n41_flows ?n41_root ?i42 ?j42 ?l42 ?c42 ?k42 ?mk41 ?kc41 ?i43 ?j43 ?l43 ?c43 ?k43 ?i44 ?j44 ?l44 ?c44 ?k44 ?i45 ?j45 ?l45 ?c45 ?k45 ?i46 ?j46 ?l46 ?c46 ?k46 ?a47 ?pg47 ?hd47 ?po47 ?sa47 ?t1_47 ?t2_47 ?t3_47 ?t4_47 ?n47_rows ?n47_bads ?i48 ?j48 ?l48 ?c48 ?k48 ?mk47 ?kc47 ?a49 ?pg49 ?hd49 ?po49 ?sa49 ?t1_49 ?t2_49 ?t3_49 ?t4_49 ?n49_board ?n49_uses_at ?n49_rows ?n49_bads ?n49_known ?n49_goes ?n49_heres ?i50 ?j50 ?l50 ?c50 ?k50 ?mk49 ?kc49 ?i51 ?j51 ?l51 ?c51 ?k51 ?i52 ?j52 ?l52 ?c52 ?k52 ?i53 ?j53 ?l53 ?c53 ?k53 ?i54 ?j54 ?l54 ?c54 ?k54 ?i55 ?j55 ?l55 ?c55 ?k55 ?i56 ?j56 ?l56 ?c56 ?k56 ?z_all ?z_bool ?z_dict ?z_enumerate ?z_int ?z_isinstance ?z_len ?z_list ?z_range ?z_set ?z_sorted ?z_str ?z_sum ?z_tuple ?aL ?lL ?cL ?kL
  (case a1 => k_is)
  (case l1 => k_is)
  (case c1 => k_is)
  (case k1 => k_is)
  (case a2 => k_is)
  (case l2 => k_is)
  (case c2 => k_is)
  (case k2 => k_is)
  (case a3 => k_is)
  (case l3 => k_is)
  (case c3 => k_is)
  (case k3 => k_is)
  (case a4 => k_is)
  (case l4 => k_is)
  (case c4 => k_is)
  (case k4 => k_is)
  (case a5 => k_is)
  (case l5 => k_is)
  (case c5 => k_is)
  (case k5 => k_is)
  (case a6 => k_is)
  (case l6 => k_is)
  (case c6 => k_is)
  (case k6 => k_is)
  (case a7 => k_is)
  (case l7 => k_is)
  (case c7 => k_is)
  (case k7 => k_is)
  (case a8 => k_is)
  (case l8 => k_is)
  (case c8 => k_is)
  (case k8 => k_is)
  (case a9 => k_is)
  (case l9 => k_is)
  (case c9 => k_is)
  (case k9 => k_is)
  (case a10 => k_is)
  (case l10 => k_is)
  (case c10 => k_is)
  (case k10 => k_is)
  (case a11 => k_is)
  (case l11 => k_is)
  (case c11 => k_is)
  (case k11 => k_is)
  (case a12 => k_is)
  (case l12 => k_is)
  (case c12 => k_is)
  (case k12 => k_is)
  (case a13 => k_is)
  (case l13 => k_is)
  (case c13 => k_is)
  (case k13 => k_is)
  (case a14 => k_is)
  (case l14 => k_is)
  (case c14 => k_is)
  (case k14 => k_is)
  (case a15 => k_is)
  (case l15 => k_is)
  (case c15 => k_is)
  (case k15 => k_is)
  (case a16 => k_is)
  (case l16 => k_is)
  (case c16 => k_is)
  (case k16 => k_is)
  (case a17 => k_is)
  (case l17 => k_is)
  (case c17 => k_is)
  (case k17 => k_is)
  (case a18 => k_is)
  (case l18 => k_is)
  (case c18 => k_is)
  (case k18 => k_is)
  (case a19 => k_is)
  (case l19 => k_is)
  (case c19 => k_is)
  (case k19 => k_is)
  (case a20 => k_is)
  (case l20 => k_is)
  (case c20 => k_is)
  (case k20 => k_is)
  (case a21 => k_is)
  (case l21 => k_is)
  (case c21 => k_is)
  (case k21 => k_is)
  (case a22 => k_is)
  (case l22 => k_is)
  (case c22 => k_is)
  (case k22 => k_is)
  (case a23 => k_is)
  (case pg23 => k_is)
  (case hd23 => k_is)
  (case po23 => k_is)
  (case sa23 => k_is)
  (case t1_23 => k_is)
  (case t2_23 => k_is)
  (case t3_23 => k_is)
  (case t4_23 => k_is)
  (case n23_shape => k_is)
  (case n23_parts => k_is)
  (case n23_at => k_is)
  (case n23_place => k_is)
  (case i24 => k_is)
  (case j24 => k_is)
  (case l24 => k_is)
  (case c24 => k_is)
  (case k24 => k_is)
  (case mk23 => k_is)
  (case kc23 => k_is)
  (case a25 => k_is)
  (case pg25 => k_is)
  (case hd25 => k_is)
  (case po25 => k_is)
  (case sa25 => k_is)
  (case t1_25 => k_is)
  (case t2_25 => k_is)
  (case t3_25 => k_is)
  (case t4_25 => k_is)
  (case n25_at => k_is)
  (case n25_place => k_is)
  (case n25_slot => k_is)
  (case i26 => k_is)
  (case j26 => k_is)
  (case l26 => k_is)
  (case c26 => k_is)
  (case k26 => k_is)
  (case cg26 => k_is)
  (case cr26 => k_is)
  (case cf26 => k_is)
  (case mk25 => k_is)
  (case kc25 => k_is)
  (case a27 => k_is)
  (case pg27 => k_is)
  (case hd27 => k_is)
  (case po27 => k_is)
  (case sa27 => k_is)
  (case t1_27 => k_is)
  (case t2_27 => k_is)
  (case t3_27 => k_is)
  (case t4_27 => k_is)
  (case n27_at => k_is)
  (case n27_place => k_is)
  (case n27_slot => k_is)
  (case i28 => k_is)
  (case j28 => k_is)
  (case l28 => k_is)
  (case c28 => k_is)
  (case k28 => k_is)
  (case mk27 => k_is)
  (case kc27 => k_is)
  (case ii27 => k_is)
  (case a29 => k_is)
  (case pg29 => k_is)
  (case hd29 => k_is)
  (case po29 => k_is)
  (case sa29 => k_is)
  (case t1_29 => k_is)
  (case t2_29 => k_is)
  (case t3_29 => k_is)
  (case t4_29 => k_is)
  (case n29_arg => k_is)
  (case n29_out => k_is)
  (case n29_at => k_is)
  (case n29_place => k_is)
  (case n29_slot => k_is)
  (case i30 => k_is)
  (case j30 => k_is)
  (case l30 => k_is)
  (case c30 => k_is)
  (case k30 => k_is)
  (case mk29 => k_is)
  (case kc29 => k_is)
  (case i31 => k_is)
  (case j31 => k_is)
  (case l31 => k_is)
  (case c31 => k_is)
  (case k31 => k_is)
  (case a32 => k_is)
  (case pg32 => k_is)
  (case hd32 => k_is)
  (case po32 => k_is)
  (case sa32 => k_is)
  (case t1_32 => k_is)
  (case t2_32 => k_is)
  (case t3_32 => k_is)
  (case t4_32 => k_is)
  (case n32_fields => k_is)
  (case n32_at => k_is)
  (case n32_place => k_is)
  (case n32_slot => k_is)
  (case i33 => k_is)
  (case j33 => k_is)
  (case l33 => k_is)
  (case c33 => k_is)
  (case k33 => k_is)
  (case mk32 => k_is)
  (case kc32 => k_is)
  (case i34 => k_is)
  (case j34 => k_is)
  (case l34 => k_is)
  (case c34 => k_is)
  (case k34 => k_is)
  (case a35 => k_is)
  (case pg35 => k_is)
  (case hd35 => k_is)
  (case po35 => k_is)
  (case sa35 => k_is)
  (case t1_35 => k_is)
  (case t2_35 => k_is)
  (case t3_35 => k_is)
  (case t4_35 => k_is)
  (case n35_arms => k_is)
  (case n35_at => k_is)
  (case n35_place => k_is)
  (case n35_slot => k_is)
  (case i36 => k_is)
  (case j36 => k_is)
  (case l36 => k_is)
  (case c36 => k_is)
  (case k36 => k_is)
  (case mk35 => k_is)
  (case kc35 => k_is)
  (case i37 => k_is)
  (case j37 => k_is)
  (case l37 => k_is)
  (case c37 => k_is)
  (case k37 => k_is)
  (case a38 => k_is)
  (case pg38 => k_is)
  (case hd38 => k_is)
  (case po38 => k_is)
  (case sa38 => k_is)
  (case t1_38 => k_is)
  (case t2_38 => k_is)
  (case t3_38 => k_is)
  (case t4_38 => k_is)
  (case n38_out => k_is)
  (case n38_at => k_is)
  (case n38_place => k_is)
  (case n38_slot => k_is)
  (case i39 => k_is)
  (case j39 => k_is)
  (case l39 => k_is)
  (case c39 => k_is)
  (case k39 => k_is)
  (case mk38 => k_is)
  (case kc38 => k_is)
  (case i40 => k_is)
  (case j40 => k_is)
  (case l40 => k_is)
  (case c40 => k_is)
  (case k40 => k_is)
  (case a41 => k_is)
  (case pg41 => k_is)
  (case hd41 => k_is)
  (case po41 => k_is)
  (case sa41 => k_is)
  (case t1_41 => k_is)
  (case t2_41 => k_is)
  (case t3_41 => k_is)
  (case t4_41 => k_is)
  (case n41_points => k_is)
  (case n41_makes => k_is)
  (case n41_uses => k_is)
  (case n41_flows => k_is)
  (case n41_root => k_is)
  (case i42 => k_is)
  (case j42 => k_is)
  (case l42 => k_is)
  (case c42 => k_is)
  (case k42 => k_is)
  (case mk41 => k_is)
  (case kc41 => k_is)
  (case i43 => k_is)
  (case j43 => k_is)
  (case l43 => k_is)
  (case c43 => k_is)
  (case k43 => k_is)
  (case i44 => k_is)
  (case j44 => k_is)
  (case l44 => k_is)
  (case c44 => k_is)
  (case k44 => k_is)
  (case i45 => k_is)
  (case j45 => k_is)
  (case l45 => k_is)
  (case c45 => k_is)
  (case k45 => k_is)
  (case i46 => k_is)
  (case j46 => k_is)
  (case l46 => k_is)
  (case c46 => k_is)
  (case k46 => k_is)
  (case a47 => k_is)
  (case pg47 => k_is)
  (case hd47 => k_is)
  (case po47 => k_is)
  (case sa47 => k_is)
  (case t1_47 => k_is)
  (case t2_47 => k_is)
  (case t3_47 => k_is)
  (case t4_47 => k_is)
  (case n47_rows => k_is)
  (case n47_bads => k_is)
  (case i48 => k_is)
  (case j48 => k_is)
  (case l48 => k_is)
  (case c48 => k_is)
  (case k48 => k_is)
  (case mk47 => k_is)
  (case kc47 => k_is)
  (case a49 => k_is)
  (case pg49 => k_is)
  (case hd49 => k_is)
  (case po49 => k_is)
  (case sa49 => k_is)
  (case t1_49 => k_is)
  (case t2_49 => k_is)
  (case t3_49 => k_is)
  (case t4_49 => k_is)
  (case n49_board => k_is)
  (case n49_uses_at => k_is)
  (case n49_rows => k_is)
  (case n49_bads => k_is)
  (case n49_known => k_is)
  (case n49_goes => k_is)
  (case n49_heres => k_is)
  (case i50 => k_is)
  (case j50 => k_is)
  (case l50 => k_is)
  (case c50 => k_is)
  (case k50 => k_is)
  (case mk49 => k_is)
  (case kc49 => k_is)
  (case i51 => k_is)
  (case j51 => k_is)
  (case l51 => k_is)
  (case c51 => k_is)
  (case k51 => k_is)
  (case i52 => k_is)
  (case j52 => k_is)
  (case l52 => k_is)
  (case c52 => k_is)
  (case k52 => k_is)
  (case i53 => k_is)
  (case j53 => k_is)
  (case l53 => k_is)
  (case c53 => k_is)
  (case k53 => k_is)
  (case i54 => k_is)
  (case j54 => k_is)
  (case l54 => k_is)
  (case c54 => k_is)
  (case k54 => k_is)
  (case i55 => k_is)
  (case j55 => k_is)
  (case l55 => k_is)
  (case c55 => k_is)
  (case k55 => k_is)
  (case i56 => k_is)
  (case j56 => k_is)
  (case l56 => k_is)
  (case c56 => k_is)
  (case k56 => k_is)
  (case z_all => k_is)
  (case z_bool => k_is)
  (case z_dict => k_is)
  (case z_enumerate => k_is)
  (case z_int => k_is)
  (case z_isinstance => k_is)
  (case z_len => k_is)
  (case z_list => k_is)
  (case z_range => k_is)
  (case z_set => k_is)
  (case z_sorted => k_is)
  (case z_str => k_is)
  (case z_sum => k_is)
  (case z_tuple => k_is)
  (case aL => k_is)
  (case lL => k_is)
  (case cL => k_is)
  (case kL => k_is)
