import PyProof.Rows.All
import Wide.All
import OpenK.AllK
import Wide.FinOn
import Lean
import PyProof.EqAt
import PyProof.EqKinds
import PyProof.TupleCall
import PyProof.NeKinds
import PySem.Challenge.RW_flowkinds_k14_asked_again
set_option Elab.async false
set_option linter.all false
set_option maxRecDepth 100000
set_option maxHeartbeats 4000000
set_option genInjectivity false
set_option genSizeOf false
set_option bootstrap.genMatcherCode false
set_option compiler.extract_closed false
open List renaming all_cons → ZaL, all_eq_true → ZaZ, all_map → ZaY, any_cons → ZaE, any_eq_true → ZaT, append_assoc → ZaP, append_cancel_left → Zbj, append_nil → Zas, cons_append → ZaF, dropLast_concat → ZbM, drop_eq_getElem_cons → Za6, drop_zero → Za7, eq_nil_of_length_eq_zero → Zbg, ext_getElem? → Za9, filterMap_cons → Zad, filter_append → Zbp, filter_cons_of_neg → ZbC, filter_cons_of_pos → Zbo, filter_eq_nil_iff → ZbA, find?_cons → ZaD, flatten_cons → ZaO, getD_eq_getElem?_getD → Za3, getElem?_append_left → Zay, getElem?_append_right → Zax, getElem?_cons_succ → Za2, getElem?_cons_zero → Zbk, getElem?_eq_getElem → Za0, getElem?_eq_none → Zba, getElem?_eq_none_iff → ZbL, getElem?_eq_some_iff → Zaj, getElem?_map → Zaz, getElem?_modify → ZbB, getElem?_range → Zbx, getElem?_set → ZbK, getElem?_set_ne → Zal, getElem?_set_self → Zak, getElem?_toArray → Zbc, getElem?_zip_eq_some → Zbw, getElem_mem → Za4, getElem_range → ZbO, getLast?_append → ZbE, getLast?_eq_getElem? → ZbD, length_append → ZaB, length_cons → Zao, length_drop → ZaJ, length_filter_le → Zbn, length_map → Zar, length_nil → ZaG, length_range → Zbm, length_replicate → ZaC, length_reverse → Zbb, length_set → ZaK, length_singleton → ZaQ, length_take → Zaw, length_zip → Zbv, lookup → Zap, lookup_cons → ZaW, map_append → ZaV, map_congr_left → Zbs, map_cons → Zaq, map_map → Zbr, map_nil → ZaH, map_replicate → Zby, map_set → ZbN, mem_append → Zah, mem_append_left → Zai, mem_append_right → Zan, mem_cons → Zag, mem_cons_of_mem → Zaf, mem_cons_self → Zae, mem_filter → Zab, mem_filterMap → Zam, mem_iff_getElem? → Zbt, mem_map → ZaS, mem_of_getElem? → ZaA, mem_range → Zac, mem_replicate → Zbu, mem_reverse → ZbH, mem_singleton → ZaU, mem_singleton_self → ZbJ, nil_append → ZaR, nodup_cons → Zat, nodup_nil → Zbq, not_mem_nil → Za1, of_mem_zip → Zau, pairwise_append → ZbF, pairwise_iff_getElem → ZbG, pairwise_lt_range → Zbi, pairwise_map → Zbh, pairwise_singleton → ZbI, range → Zaa, range' → Zbz, range_succ → Zbl, range_succ_eq_map → ZaX, replicate → Zav, replicate_succ → ZaN, reverse_cons → ZaM, set_set → Za5, size_toArray → ZaI, sum_append → Zbe, take_add_one → Zbd, take_length → Zbf, take_of_length_le → Za8
open Nat renaming add_sub_cancel → Zb2, le_of_eq → ZbX, le_of_lt → ZbT, le_refl → ZbV, le_succ → ZbZ, le_trans → ZbS, lt_irrefl → ZbQ, lt_of_lt_of_le → ZbP, lt_succ_of_lt → Zb0, lt_succ_self → ZbY, ne_of_gt → ZbU, ne_of_lt → ZbR, not_lt_zero → Zb1, sub_self → Zb3, zero_le → ZbW
open Option renaming isSome_iff_exists → Zb5, isSome_map → Zb7, map_eq_some_iff → Zb8, map_some → Zb6, some → Zb4
open PySem.W renaming any_some → Zcm, callWith_K → Zcx, cellsFrom_some → Zcy, check_slot → ZcE, clsIn → ZcD, codeIn → ZcA, emptyDict → Zcp, exmOne → ZcI, findIn → Zci, fnOf → Zcz, handedIn → Zcj, hasDictIn → Zch, hideAll → Zcb, hideAll_get → Zcc, hideAll_none → Zce, instObj → Zb9, keepIn → Zcw, kia_one → Zct, kitOne → Zcs, kitx_dict → Zcv, kitx_list → Zcu, lookIn → Zcf, looks_clsIn → Zcn, looks_findIn → Zcq, looks_subIn → ZcC, makesIn → Zco, methodObj → Zca, mg_none_of → ZcK, mg_of → ZcJ, nsIn → ZcF, nsOkIn → ZcG, of_hideAll → Zcd, plainGet → Zcg, plainOver → Zck, specialIn → Zcr, subIn → ZcB, tailIn → ZcH, takerIn → Zcl
open PySem.F renaming args_tuple_add_2 → ZcN, entry_tuple_add → ZcM, excBase_ValueError → ZcQ, plainAttrs_list → ZcR, slot_dict_update → ZcO, slot_list_append → ZcS, slot_list_extend → ZcU, slot_list_pop → ZcW, slot_tuple_add → ZcL, store_ValueError → ZcP, type_list_append → ZcT, type_list_extend → ZcV, type_list_pop → ZcX
open Bool renaming and_eq_true → Zc2, and_false → Zc3, eq_iff_iff → ZcZ, false_eq_true → Zc5, false_ne_true → ZcY, false_or → Zc1, false_xor → Zc4, or_eq_false_iff → Zc6, true_or → Zc0
open Array renaming getElem?_eq_getElem → Zc9, getElem?_toList → Zc8, length_toList → Zc7
open Int renaming emod_lt_of_pos → Zdd, emod_nonneg → Zdc, toNat_natCast → Zda, zero_add → Zdb
open PySem.Heap renaming get?_none_of_le → Zdg, get?_push_of_some → Zdh, get?_push_size → Zdf, get?_update_other → Zdk, get?_update_self → Zdj, lt_size → Zde, size_push → Zdi
open PyProof.Rows renaming callWith_type1 → Zdl, slot_tuple_getitem → Zdm
namespace L2.Internal
theorem auR (h : True = True := by rfl) : True := trivial
theorem auD (h : True := by decide) : True := trivial
theorem auI (h : True -> True = True := by intro _; rfl) : True := trivial
theorem auL (h : True = True \/ True := by first | exact .inl rfl | exact .inr rfl | assumption) : True := trivial
open PySem PySem.Spec PyProof.Rows
noncomputable abbrev Key := Sum Int Str
noncomputable def Zkx : Key -> Value -> Bool
 | .inl k, v => Value.isInt k v
 | .inr x, v => Value.isStrOf x v
noncomputable def keyH (w : World) : Key -> Int
 | .inl k => hashInt k
 | .inr x => hashStr w x
theorem ZeA : ∀ {k : Key} {v : Value}, Zkx k v = true -> (∃ i t, k = Sum.inl i /\ v = Value.int i t) \/ (∃ x t, k = Sum.inr x /\ v = Value.str x t)
 | .inl i, v, h => by
  obtain ⟨t, e⟩ := Value.isInt_shape (k := i) (v := v) h
  exact .inl ⟨i, t, rfl, e⟩
 | .inr x, v, h => by
  obtain ⟨t, e⟩ := Value.isStrOf_shape (x := x) (v := v) h
  exact .inr ⟨x, t, rfl, e⟩
theorem Zk4 (i : Int) (t : Tok) : Zkx (.inl i) (.int i t) = true := by simp [Zkx, Value.isInt]
theorem Zk5 (x : Str) (t : Tok) : Zkx (.inr x) (.str x t) = true := by simp [Zkx, Value.isStrOf]
theorem Zpj (a b : Int) : decide ((Sum.inl a : Key) = Sum.inl b) = (a == b) := by
 by_cases e : a = b
 ·subst e; simp
 ·have h : ¬ (Sum.inl a : Key) = Sum.inl b := fun q => e (Sum.inl.inj q)
  rw [decide_eq_false h]
  exact (beq_eq_false_iff_ne.mpr e).symm
theorem Zpk (a b : Str) : decide ((Sum.inr a : Key) = Sum.inr b) = decide (a = b) := by
 by_cases e : a = b
 ·subst e; simp
 ·have h : ¬ (Sum.inr a : Key) = Sum.inr b := fun q => e (Sum.inr.inj q)
  rw [decide_eq_false h, decide_eq_false e]
theorem Zpl (a : Int) (b : Str) : decide ((Sum.inl a : Key) = Sum.inr b) = false := decide_eq_false (fun q => nomatch q)
theorem Zpm (a : Str) (b : Int) : decide ((Sum.inr a : Key) = Sum.inl b) = false := decide_eq_false (fun q => nomatch q)
noncomputable def Ze3 (prog : Program) (w : World) : PySem.KeyKind prog w Key where
 is := Zkx
 hash := keyH w
 inj := fun v a b ha hb => by
  rcases ZeA ha with ⟨i, t, rfl, rfl⟩ | ⟨x, t, rfl, rfl⟩
  ·rcases ZeA hb with ⟨j, u, rfl, e⟩ | ⟨y, u, rfl, e⟩
   ·injection e with e1 _; rw [e1]
   ·exact nomatch e
  ·rcases ZeA hb with ⟨j, u, rfl, e⟩ | ⟨y, u, rfl, e⟩
   ·exact nomatch e
   ·injection e with e1 _; rw [e1]
 byValue := fun k v h => by
  rcases ZeA h with ⟨i, t, rfl, rfl⟩ | ⟨x, t, rfl, rfl⟩ <;> rfl
 pyHash := fun hv h => by
  rcases ZeA hv with ⟨i, t, rfl, rfl⟩ | ⟨x, t, rfl, rfl⟩
  ·exact wpAny_pyHash_int h
  ·exact wpAny_pyHash_str h
 eqBool := fun hu hv h => by
  rcases ZeA hu with ⟨i, t, rfl, rfl⟩ | ⟨x, t, rfl, rfl⟩
  ·rcases ZeA hv with ⟨j, u, rfl, rfl⟩ | ⟨y, u, rfl, rfl⟩
   ·rw [Zpj] at h; exact wpAny_eqBool_int h
   ·rw [Zpl] at h; exact SeqAt.EqAt.int_str i t y u _ _ _ _ h
  ·rcases ZeA hv with ⟨j, u, rfl, rfl⟩ | ⟨y, u, rfl, rfl⟩
   ·rw [Zpm] at h; exact SeqAt.EqAt.str_int x t j u _ _ _ _ h
   ·rw [Zpk] at h; exact wpAny_eqBool_str h
 «strs» := fun k x t v h => by
  rcases ZeA h with ⟨i, u, rfl, e⟩ | ⟨y, u, rfl, e⟩
  ·exact nomatch e
  ·injection e with e1 _
   subst e1
   cases v <;> rfl
theorem Zjv (prog : Program) (w : World) (i : Int) (t : Tok) : (Ze3 prog w).is (.inl i) (.int i t) = true := Zk4 i t
theorem Zjw (prog : Program) (w : World) (x : Str) (t : Tok) : (Ze3 prog w).is (.inr x) (.str x t) = true := Zk5 x t
end L2.Internal
namespace L2.Internal
open PySem PySem.Spec PyProof.Rows
set_option genInjectivity true in
inductive V where
 | non | bl (b : Bool) | int (i : Int) | str (x : Str) | byt (b : Array UInt8) | flt (b : UInt64) | ref (a : Addr) | ty (n : String)
 deriving DecidableEq
noncomputable def ZeB : V -> Value -> Prop
 | .non, u => u = Value.none
 | .bl b, u => u = Value.bool b
 | .int i, u => ∃ t, u = Value.int i t
 | .str x, u => ∃ t, u = Value.str x t
 | .byt b, u => ∃ t, u = Value.bytes b t
 | .flt b, u => ∃ t, u = Value.float b t
 | .ref a, u => u = Value.ref a
 | .ty n, u => u = Value.type n
noncomputable abbrev Zei : List V -> List Value -> Prop := Paired ZeB
theorem Zei.length {xs : List V} {us : List Value} (r : Zei xs us) : xs.length = us.length := Paired.length r
theorem Zei.get : ∀ {xs : List V} {us : List Value} {i : Nat} {x : V}, Zei xs us -> xs[i]? = some x -> ∃ u, us[i]? = some u /\ ZeB x u
 | _, _, _, _, .nil, e => by simp at e
 | _, _, 0, _, .cons r _, e => by simp at e; subst e; exact ⟨_, rfl, r⟩
 | _, _, i + 1, x, .cons _ t, e => by
  obtain ⟨u, h1, h2⟩ := Zei.get (i := i) (x := x) t (by simpa using e)
  exact ⟨u, by simpa using h1, h2⟩
theorem Zei.set {x : V} {u : Value} (r : ZeB x u) : ∀ {xs : List V} {us : List Value} (i : Nat), Zei xs us -> Zei (xs.set i x) (us.set i u)
 | _, _, _, .nil => .nil
 | _, _, 0, .cons _ t => .cons r t
 | _, _, i + 1, .cons q t => .cons q (Zei.set r i t)
theorem Zei.append : ∀ {xs ys : List V} {us ws : List Value}, Zei xs us -> Zei ys ws -> Zei (xs ++ ys) (us ++ ws)
 | _, _, _, _, .nil, s => s
 | _, _, _, _, .cons r t, s => .cons r (Zei.append t s)
theorem Zei.take : ∀ {xs : List V} {us : List Value} (n : Nat), Zei xs us -> Zei (xs.take n) (us.take n)
 | _, _, 0, _ => .nil
 | _, _, _ + 1, .nil => .nil
 | _, _, n + 1, .cons r t => .cons r (Zei.take n t)
theorem Zei.drop : ∀ {xs : List V} {us : List Value} (n : Nat), Zei xs us -> Zei (xs.drop n) (us.drop n)
 | _, _, 0, r => r
 | _, _, _ + 1, .nil => .nil
 | _, _, n + 1, .cons _ t => Zei.drop n t
noncomputable def ZiK : Option V -> Option Value -> Prop
 | some v, some u => ZeB v u
 | none, none => True
 | _, _ => False
noncomputable def KV {κ : Type} : List (κ × V) -> List (κ × Value) -> Prop := Paired fun (p : κ × V) (q : κ × Value) => p.1 = q.1 /\ ZeB p.2 q.2
noncomputable def kV : Key -> V
 | .inl i => .int i
 | .inr x => .str x
inductive HO where
 | lst (xs : List V)
 | tup (xs : List V)
 | dK (kvs : List (Key × V)) | dT (kvs : List (List Key × V))
 | set (S : Int -> Bool) (n : Nat)
 | ins (C dx : Addr) (fs : List (Str × V))
 | own (x : Addr)
 | xd (fs : List (Str × V))
 | met (f x : Addr)
 | rng (lo hi : Int)
 | frz (o : Obj) (u : HO)
 | tbl (ps : Array Value)
 | ext (φ : Heap -> Prop)
noncomputable abbrev Hp := Addr -> Option HO
def Zky (h : Heap) (a : Addr) (items : Array Value) : Prop := ∃ o, h.get? a = some o /\ o.cls = .type "tuple" /\ ∃ n, o.data = .seq items n /\ o.dict = none
theorem Zky.tup {h : Heap} {a : Addr} {items : Array Value} : Zky h a items -> IsTup h a items
 | ⟨o, h1, h2, n, h3, _⟩ => ⟨o, h1, h2, n, h3⟩
theorem Zky.lt {h : Heap} {a : Addr} {items : Array Value} (p : Zky h a items) : a < h.objs.size := by
 obtain ⟨o, e, _⟩ := p
 exact Zde e
theorem Zky.new (h : Heap) (items : Array Value) : Zky (h.push { cls := .type "tuple", data := .seq items }) h.objs.size items := ⟨_, Zdf _ rfl, rfl, _, rfl, rfl⟩
noncomputable def upd (H : Hp) (a : Addr) (o : HO) : Hp := fun b => if b = a then some o else H b
theorem Zdp {H : Hp} {a : Addr} {o : HO} : upd H a o a = some o := by unfold upd; rw [if_pos rfl]
theorem Zdt {H : Hp} {a b : Addr} {o : HO} (h : b ≠ a) : upd H a o b = H b := by unfold upd; rw [if_neg h]
theorem ZgT {H : Hp} {a : Addr} {o u : HO} : upd (upd H a o) a u = upd H a u := by
 funext b; unfold upd; split <;> rfl
theorem ZgC {H : Hp} {a b : Addr} {o u : HO} (h : H a = some o) (h' : H b = some u) (d : o ≠ u) : a ≠ b := by
 intro e; subst e; rw [h] at h'; exact d (Zb4.inj h')
theorem Zdv {H : Hp} {a b : Addr} {o : HO} (h : H a = some o) (h' : H b = none) : a ≠ b := by
 intro e; subst e; rw [h] at h'; cases h'
section
variable (P : Program) (w : World)
noncomputable def Zer (H : Hp) (h : Heap) (a : Addr) : HO -> Prop
 | .lst xs => xs.length <= sizeLine /\ ∃ (its : List Value) (n : Nat), Zei xs its /\ h.get? a = some { cls := .type "list", data := .seq its.toArray n }
 | .tup xs => xs.length <= sizeLine /\ ∃ its : List Value, Zei xs its /\ Zky h a its.toArray
 | .dK kvs => kvs.length <= sizeLine /\ (a == sysModules) = false /\ ∃ vs, KV kvs vs /\ h.DictOf (Ze3 P w) a vs
 | .dT kvs => kvs.length <= sizeLine /\ (a == sysModules) = false /\ ∃ xs : List (List Key × Addr × Value),
   Paired (fun (p : List Key × V) (q : List Key × Addr × Value) => p.1 = q.1 /\ H q.2.1 = some (.tup (p.1.map kV)) /\ ZeB p.2 q.2.2) kvs xs /\
   ∃ o es ep, h.get? a = some o /\ o.ExactDict /\ o.data = .dict es ep /\ es.toList = xs.map (entryOfKey (tupleKind (Ze3 P w))) /\ (xs.map (·.1)).Nodup
 | .set S n => h.SetOf (intKind P w) a S n
 | .ins C dx fs => H dx = some (.own a) /\ fs.length <= 1000 /\ dx ≠ a /\ h.get? a = some (Zb9 C dx) /\
   ∃ mA, h.Ns1 dx mA /\ (∀ f, ZiK (fs.lookup f) (mA f)) /\ PySem.Within mA (fs.map (·.1))
 | .own _ => ∃ o, h.get? a = some o
 | .xd fs => ∃ mA, h.Ns1 a mA /\ ∀ f, ZiK (fs.lookup f) (mA f)
 | .rng lo hi => ∃ t u v, h.get? a = some { cls := .type "range", data := .fields #[.int lo t, .int hi u, .int 1 v] }
 | .frz o u => h.get? a = some o /\ Zer H h a u
 | .tbl ps => h.get? a = some { cls := .none, data := .fields ps }
 | .met f x => h.get? a = some (Zca (.ref f) (.ref x))
 | .ext φ => φ h /\ (∃ o, h.get? a = some o) /\ ∀ h1 h2 : Heap, φ h1 -> (∀ o, h1.get? a = some o -> h2.get? a = some o) -> φ h2
def HOk (H : Hp) (h : Heap) : Prop := ∀ a o, H a = some o -> Zer P w H h a o
end
section
variable {P : Program} {w : World} {H H' : Hp} {h h' : Heap} {a : Addr} {o : HO}
theorem Zer.lt (x : Zer P w H h a o) : a < h.objs.size := by
 cases o with
 | lst xs => obtain ⟨_, _, _, _, e⟩ := x; exact Zde e
 | tup xs => obtain ⟨_, _, _, p⟩ := x; exact p.lt
 | dK kvs => obtain ⟨_, _, _, _, o, _, _, e, _⟩ := x; exact Zde e
 | dT kvs => obtain ⟨_, _, _, _, o, _, _, e, _⟩ := x; exact Zde e
 | set S n => obtain ⟨o, _, _, _, e, _⟩ := x; exact Zde e
 | ins C dx fs => obtain ⟨_, _, _, e, _⟩ := x; exact Zde e
 | own y => obtain ⟨_, e⟩ := x; exact Zde e
 | xd fs => obtain ⟨_, ⟨_, _, _, e, _⟩, _⟩ := x; exact Zde e
 | rng lo hi => obtain ⟨_, _, _, e⟩ := x; exact Zde e
 | frz ob u => obtain ⟨e, _⟩ := x; exact Zde e
 | tbl ps => exact Zde (show h.get? a = some _ from x)
 | met f y => exact Zde (show h.get? a = some _ from x)
 | ext φ => obtain ⟨_, ⟨_, e⟩, _⟩ := x; exact Zde e
theorem Paired.mapP {α β : Type} {F G : α -> β -> Prop} : ∀ {l₁ : List α} {l₂ : List β}, Paired F l₁ l₂ -> (∀ a b, F a b -> G a b) -> Paired G l₁ l₂
 | _, _, .nil, _ => .nil
 | _, _, .cons r t, f => .cons (f _ _ r) (Paired.mapP t f)
theorem Zer.stay (x : Zer P w H h a o) (k : ∀ b u, (b = a \/ H b = some (.own a)) -> h.get? b = some u -> h'.get? b = some u)
  (ho : ∀ b, H b = some (.own a) -> H' b = some (.own a)) (ht : ∀ b xs, H b = some (.tup xs) -> H' b = some (.tup xs)) : Zer P w H' h' a o := by
 induction o with
 | lst xs => obtain ⟨z, its, n, r, e⟩ := x; exact ⟨z, its, n, r, k _ _ (.inl rfl) e⟩
 | tup xs => obtain ⟨z, its, r, ob, e, c⟩ := x; exact ⟨z, its, r, ob, k _ _ (.inl rfl) e, c⟩
 | dK kvs => obtain ⟨z, y, vs, r, ob, es, ep, e, c⟩ := x; exact ⟨z, y, vs, r, ob, es, ep, k _ _ (.inl rfl) e, c⟩
 | dT kvs =>
  obtain ⟨z, y, xs, r, ob, es, ep, e, c⟩ := x
  exact ⟨z, y, xs, Paired.mapP r fun p q z => ⟨z.1, ht _ _ z.2.1, z.2.2⟩, ob, es, ep, k _ _ (.inl rfl) e, c⟩
 | set S n => obtain ⟨ob, es, ep, t, e, c⟩ := x; exact ⟨ob, es, ep, t, k _ _ (.inl rfl) e, c⟩
 | ins C dx fs =>
  obtain ⟨d, z, ne, e, mA, ⟨od, es, ep, e2, c⟩, r⟩ := x
  exact ⟨ho _ d, z, ne, k _ _ (.inl rfl) e, mA, ⟨od, es, ep, k _ _ (.inr d) e2, c⟩, r⟩
 | own y => obtain ⟨ob, e⟩ := x; exact ⟨ob, k _ _ (.inl rfl) e⟩
 | xd fs => obtain ⟨mA, ⟨od, es, ep, e, c⟩, r⟩ := x; exact ⟨mA, ⟨od, es, ep, k _ _ (.inl rfl) e, c⟩, r⟩
 | rng lo hi => obtain ⟨t, u, v, e⟩ := x; exact ⟨t, u, v, k _ _ (.inl rfl) e⟩
 | frz ob u ih => obtain ⟨e, q⟩ := x; exact ⟨k _ _ (.inl rfl) e, ih q⟩
 | tbl ps =>
  have e : h.get? a = some { cls := .none, data := .fields ps } := x
  show h'.get? a = some { cls := .none, data := .fields ps }
  exact k a _ (.inl rfl) e
 | met f y =>
  have e : h.get? a = some (Zca (.ref f) (.ref y)) := x
  show h'.get? a = some (Zca (.ref f) (.ref y))
  exact k a _ (.inl rfl) e
 | ext φ => obtain ⟨p, ⟨o, e⟩, st⟩ := x; exact ⟨st _ _ p fun o q => k _ _ (.inl rfl) q, ⟨o, k _ _ (.inl rfl) e⟩, st⟩
theorem HOk.lt (x : HOk P w H h) (e : H a = some o) : a < h.objs.size := (x a o e).lt
theorem HOk.fresh (x : HOk P w H h) (e : h.objs.size <= a) : H a = none := by
 cases q : H a with
 | none => rfl
 | some u => exact absurd (ZbP (x.lt q) e) (ZbQ _)
theorem HOk.kept (x : HOk P w H h) (k : ∀ b u, h.get? b = some u -> h'.get? b = some u) : HOk P w H h' := fun a o e =>
 (x a o e).stay (fun b u _ q => k b u q) (fun _ q => q) fun _ _ q => q
theorem HOk.laid (x : HOk P w H h) (k : ∀ b u, h.get? b = some u -> h'.get? b = some u) (hp : h.objs.size <= a) (new : Zer P w (upd H a o) h' a o) : HOk P w (upd H a o) h' := fun b u e => by
 have hn := x.fresh hp
 by_cases hb : b = a
 ·subst hb; rw [Zdp] at e; cases e; exact new
 ·rw [Zdt hb] at e
  exact (x b u e).stay (fun c v _ q => k c v q) (fun c q => by rw [Zdt (Zdv q hn)]; exact q) fun c xs q => by rw [Zdt (Zdv q hn)]; exact q
end
def Rd (H : Hp) (a : Addr) (u : HO) : Prop := H a = some u \/ ∃ o, H a = some (.frz o u)
theorem Rd.ok {P : Program} {w : World} {H : Hp} {h : Heap} {a : Addr} {u : HO} (r : Rd H a u) (x : HOk P w H h) : Zer P w H h a u := by
 rcases r with r | ⟨o, r⟩
 ·exact x a u r
 ·obtain ⟨_, q⟩ := x a _ r
  exact q
noncomputable def Mut : Option HO -> Prop
 | some (.lst _) => True
 | some (.dK _) => True
 | some (.dT _) => True
 | some (.set _ _) => True
 | some (.ins _ _ _) => True
 | some (.ext _) => True
 | _ => False
section
variable {P : Program} {w : World} {H : Hp} {h h' : Heap} {x e : Addr} {o' : HO}
theorem HOk.write (ok : HOk P w H h) (mu : Mut (H x)) (he : e = x \/ H e = some (.own x)) (k : ∀ b u, b ≠ e -> h.get? b = some u -> h'.get? b = some u) (heo : ∃ u, h'.get? e = some u)
  (new : Zer P w (upd H x o') h' x o') : HOk P w (upd H x o') h' := fun b u q => by
 have nown : ∀ c y, H c = some (.own y) -> c ≠ x := fun c y r z => by subst z; rw [r] at mu; exact mu
 have ntup : ∀ c xs, H c = some (.tup xs) -> c ≠ x := fun c xs r z => by subst z; rw [r] at mu; exact mu
 by_cases hb : b = x
 ·subst hb; rw [Zdp] at q; cases q; exact new
 ·rw [Zdt hb] at q
  by_cases hbe : b = e
  ·have q' : H b = some (.own x) := by
    rcases he with z | z
    ·exact absurd (hbe.trans z) hb
    ·rw [hbe]; exact z
   rw [q] at q'; cases q'
   obtain ⟨v, hv⟩ := heo
   exact ⟨v, by rw [hbe]; exact hv⟩
  ·refine (ok b u q).stay (fun c v hc r => k c v ?_ r) (fun c r => by rw [Zdt (nown c b r)]; exact r) fun c xs r => by rw [Zdt (ntup c xs r)]; exact r
   rcases hc with rfl | hc
   ·exact hbe
   ·rintro rfl
    rcases he with z | z
    ·exact nown c b hc z
    ·rw [hc] at z; cases z; exact hb rfl
end
structure Un (fs ex : List Addr) (H H' : Hp) (h h' : Heap) : Prop where
 keep : ∀ b o, h.get? b = some o -> H b = none -> b ∉ fs -> b ∉ ex -> h'.get? b = some o
 slot : ∀ b o, h.get? b = some o -> H b = none -> b ∈ fs -> b ∉ ex -> ∃ sl, h'.get? b = some { o with slots := sl }
 free : ∀ b o, h.get? b = some o -> H b = none -> b ∉ ex -> H' b = none
 there : ∀ b o, h.get? b = some o -> b ∉ ex -> ∃ o', h'.get? b = some o'
 tups : ∀ b xs, H b = some (.tup xs) -> H' b = some (.tup xs)
 frzs : ∀ b o u, H b = some (.frz o u) -> H' b = some (.frz o u)
 tbls : ∀ b ps, H b = some (.tbl ps) -> ∃ more, H' b = some (.tbl (ps ++ more))
section
variable {fs fs' ex ex' : List Addr} {H H1 H2 : Hp} {h h1 h2 h' : Heap} {a x e : Addr} {o : HO}
theorem Un.any (u : Un fs ex H H1 h h1) {b : Addr} {ob : Obj} (q : h.get? b = some ob) (n : H b = none) (hx : b ∉ ex) : ∃ sl, h1.get? b = some { ob with slots := sl } := by
 by_cases hb : b ∈ fs
 ·exact u.slot b ob q n hb hx
 ·exact ⟨ob.slots, u.keep b ob q n hb hx⟩
theorem Un.trans (a : Un fs ex H H1 h h1) (b : Un fs ex H1 H2 h1 h2) : Un fs ex H H2 h h2 where
 keep := fun c ob q n hc hx => b.keep c ob (a.keep c ob q n hc hx) (a.free c ob q n hx) hc hx
 slot := fun c ob q n hc hx => by
  obtain ⟨sl, e1⟩ := a.slot c ob q n hc hx
  obtain ⟨sl', e2⟩ := b.slot c _ e1 (a.free c ob q n hx) hc hx
  exact ⟨sl', e2⟩
 free := fun c ob q n hx => by
  obtain ⟨o', e1⟩ := a.there c ob q hx
  exact b.free c o' e1 (a.free c ob q n hx) hx
 there := fun c ob q hx => by
  obtain ⟨o', e1⟩ := a.there c ob q hx
  exact b.there c o' e1 hx
 tups := fun c xs q => b.tups c xs (a.tups c xs q)
 frzs := fun c ob xs q => b.frzs c ob xs (a.frzs c ob xs q)
 tbls := fun c ps q => by
  obtain ⟨m1, e1⟩ := a.tbls c ps q
  obtain ⟨m2, e2⟩ := b.tbls c _ e1
  exact ⟨m1 ++ m2, by rw [e2, Array.append_assoc]⟩
theorem Un.kept (k : ∀ b u, h.get? b = some u -> h'.get? b = some u) : Un fs ex H H h h' :=
 ⟨fun b ob q _ _ _ => k b ob q, fun b ob q _ _ _ => ⟨ob.slots, k b ob q⟩, fun _ _ _ n _ => n, fun b ob q _ => ⟨ob, k b ob q⟩, fun _ _ q => q, fun _ _ _ q => q, fun _ ps q => ⟨#[], by rw [q]; simp⟩⟩
theorem Un.refl : Un fs ex H H h h := Un.kept fun _ _ q => q
theorem Un.laid (k : ∀ b u, h.get? b = some u -> h'.get? b = some u) (hp : h.objs.size <= a) (hn : H a = none) : Un fs ex H (upd H a o) h h' where
 keep := fun b u q _ _ _ => k b u q
 slot := fun b u q _ _ _ => ⟨u.slots, k b u q⟩
 free := fun b u q n _ => by rw [Zdt (ZbR (ZbP (Zde q) hp))]; exact n
 there := fun b u q _ => ⟨u, k b u q⟩
 tups := fun b xs q => by rw [Zdt (Zdv q hn)]; exact q
 frzs := fun b u xs q => by rw [Zdt (Zdv q hn)]; exact q
 tbls := fun b ps q => ⟨#[], by rw [Zdt (Zdv q hn), q]; simp⟩
theorem Un.write (mu : Mut (H x)) (he : e = x \/ H e = some (.own x)) (k : ∀ b u, b ≠ e -> h.get? b = some u -> h'.get? b = some u) (heo : ∃ u, h'.get? e = some u) : Un fs ex H (upd H x o) h h' := by
 have hx : ∀ b, H b = none -> b ≠ x := fun b n z => by subst z; rw [n] at mu; exact mu
 have hb : ∀ b, H b = none -> b ≠ e := fun b n z => by
  subst z
  rcases he with r | r
  ·exact hx b n r
  ·rw [n] at r; cases r
 have hm : ∀ b u, H b = some u -> ¬ Mut (some u) -> b ≠ x := fun b u q nm z => by subst z; rw [q] at mu; exact nm mu
 refine ⟨fun b u q n _ _ => k b u (hb b n) q, fun b u q n _ _ => ⟨u.slots, k b u (hb b n) q⟩, fun b u q n _ => by rw [Zdt (hx b n)]; exact n, fun b u q _ => ?_,
  fun b xs q => by rw [Zdt (hm b _ q fun z => z)]; exact q, fun b u xs q => by rw [Zdt (hm b _ q fun z => z)]; exact q, fun b ps q => ⟨#[], by rw [Zdt (hm b _ q fun z => z), q]; simp⟩⟩
 by_cases hbe : b = e
 ·subst hbe; exact heo
 ·exact ⟨u, k b u hbe q⟩
end
noncomputable def trk (h : Heap) (H : Hp) : List Addr := (Zaa h.objs.size).filter fun a => (H a).isSome
noncomputable def ZmD (h : Heap) (H : Hp) : Heap := Zcb h (trk h H)
theorem Zk6 (h : Heap) (H : Hp) : (ZmD h H).objs.size = h.objs.size := PySem.W.hideAll_size _ _
theorem ZmE {h : Heap} {H : Hp} {b : Addr} {o : Obj} (e : h.get? b = some o) (n : H b = none) : (ZmD h H).get? b = some o :=
 Zcc _ e fun hm => by
  have q : (H b).isSome = true := (Zab.mp hm).2
  rw [n] at q; simp at q
theorem Zn6 {h : Heap} {H : Hp} {b : Addr} {o : Obj} (e : (ZmD h H).get? b = some o) : h.get? b = some o /\ H b = none := by
 have e' : h.get? b = some o := Zcd (trk h H) e
 refine ⟨e', ?_⟩
 cases q : H b with
 | none => rfl
 | some x =>
  have hm : b ∈ trk h H := Zab.mpr ⟨Zac.mpr (Zde e'), by simp [q]⟩
  have z : (ZmD h H).get? b = none := Zce (trk h H) hm
  rw [z] at e; cases e
end L2.Internal
namespace L2.Internal
open PySem PySem.Spec PyProof.Rows
structure Mod (K : PySem.W.Frag) (mg : Str -> Option Value) (base : Heap) : Prop where
 kin : K.In base
 glob : base.Ns mainGlobals mg
 blt : ∃ mb, base.Ns builtinsNs mb /\ ∀ x : Str, x ≠ "__name__" -> mb x = bootBuiltins x
 nolimit : base.NoLimit
structure Cx where
 prog : Program
 w : World
 K : PySem.W.Frag
 mg : Str -> Option Value
 base : Heap
 A : Around
 N : List Str
 s₀ : Shared
 H₀ : Hp
 env : Env
 outer : List Env
 stack : List Env
 ex : List Addr
 fn : Str -> Bool
 calm : Bool
 pn : List (Addr × Obj)
 xe : Value -> Shared -> Prop
noncomputable def frs (l : List Env) : List Addr := l.filterMap (·.frame)
noncomputable abbrev Cx.fs (X : Cx) : List Addr := frs X.outer
def Vis (sc : Scope) (x : Str) : Prop := sc.names.lookup x = some .local \/ sc.names.lookup x = some .cell \/ sc.names.lookup x = some .free
def Loc (sc : Scope) (x : Str) : Prop := sc.names.lookup x = some .local \/ sc.names.lookup x = some .cell
def Look (env : Env) (h : Heap) (m : Str -> Option Value) (x : Str) (u : Value) : Prop :=
 (env.kindOf x = some .local /\ m x = some u) \/ ((env.kindOf x = some .cell \/ env.kindOf x = some .free) /\ ∃ c, env.cells.lookup x = some c /\ h.IsCell c (some u))
structure Cx.Ok (X : Cx) : Prop where
 mod : Mod X.K X.mg X.base
 kind : X.env.scope.kind = .function
 glob : X.env.globals = mainGlobals
 blt : X.env.builtins = builtinsNs
 above : X.s₀.heap.objs.size <= X.env.locals
 inj : ∀ x y c, X.env.cells.lookup x = some c -> X.env.cells.lookup y = some c -> x = y
 has : ∀ x, (X.env.kindOf x = some .cell \/ X.env.kindOf x = some .free) -> ∃ c, X.env.cells.lookup x = some c
 cab : ∀ x c, X.fn x = true -> X.env.cells.lookup x = some c -> X.s₀.heap.objs.size <= c
 hd : X.calm = true -> X.A.handled = none
 frames : X.A.frames = some X.stack
 stk : X.stack = X.outer \/ (X.stack = X.env :: X.outer /\ X.env.frame = some X.env.locals)
 exf : ∀ b ∈ X.ex, b ≠ X.env.locals /\ ∀ x c, X.env.cells.lookup x = some c -> c ≠ b
 bs : ∀ b o, X.base.get? b = some o -> X.s₀.heap.get? b = some o /\ X.H₀ b = none
 bsz : X.base.objs.size <= X.s₀.heap.objs.size
 noex : ∀ b o, X.base.get? b = some o -> b ∉ X.ex
 exfs : ∀ b ∈ X.ex, b ∉ X.fs
 funs : X.s₀.heap.FunFrames X.base X.outer
 frf : ∀ b ∈ X.fs, X.H₀ b = none
structure Inv (X : Cx) (pins : List (Addr × Obj)) (σ : List (Option V)) (H : Hp) (s : Shared) : Prop where
 ok : X.Ok
 os : s.os = X.s₀.os
 bare : AllBare s.gens
 base : Un X.fs X.ex X.H₀ H X.s₀.heap s.heap
 loc : ∃ m, s.heap.Ns X.env.locals m /\ ∀ (i : Nat) (x : Str) (v : V), X.N[i]? = some x -> σ[i]? = some (some v) -> Vis X.env.scope x -> ∃ u, ZeB v u /\ Look X.env s.heap m x u
 cell : ∀ x c, X.env.cells.lookup x = some c -> ∃ v, s.heap.IsCell c v
 free : H X.env.locals = none
 freeC : ∀ x c, X.env.cells.lookup x = some c -> H c = none
 pin : ∀ p ∈ X.pn ++ pins, s.heap.get? p.1 = some p.2 /\ H p.1 = none /\ p.1 ≠ X.env.locals /\ p.1 ∉ X.fs /\ ∀ v, p.2.data ≠ .cell v
 hok : HOk X.prog X.w H s.heap
 len : σ.length = X.N.length
section
variable {X : Cx} {pins : List (Addr × Obj)} {σ : List (Option V)} {H H' : Hp} {s : Shared} {h' : Heap}
theorem Cx.Ok.nofr (ok : X.Ok) {b : Addr} {o : Obj} (e : X.base.get? b = some o) : b ∉ X.fs := fun hb => by
 have := (ok.funs.mem hb).1
 rw [e] at this; cases this
theorem Inv.bs (I : Inv X pins σ H s) : ∀ b o, X.base.get? b = some o -> s.heap.get? b = some o /\ H b = none := fun b o e =>
 ⟨I.base.keep b o (I.ok.bs b o e).1 (I.ok.bs b o e).2 (I.ok.nofr e) (I.ok.noex b o e), I.base.free b o (I.ok.bs b o e).1 (I.ok.bs b o e).2 (I.ok.noex b o e)⟩
theorem Inv.bk (I : Inv X pins σ H s) : ∀ b o, X.base.get? b = some o -> s.heap.get? b = some o := fun b o e => (I.bs b o e).1
theorem Inv.mod (I : Inv X pins σ H s) : Mod X.K X.mg X.base := I.ok.mod
theorem Inv.kIn (I : Inv X pins σ H s) : X.K.In s.heap := I.ok.mod.kin.keeps I.bk
theorem Inv.lt (I : Inv X pins σ H s) : X.env.locals < s.heap.objs.size := let ⟨_, hn, _⟩ := I.loc; hn.lt
theorem Inv.sz (I : Inv X pins σ H s) : X.s₀.heap.objs.size <= s.heap.objs.size := ZbS I.ok.above (ZbT I.lt)
theorem Inv.nofs (I : Inv X pins σ H s) {a : Addr} (h : s.heap.objs.size <= a) : a ∉ X.fs := fun hb => by
 obtain ⟨_, o, ho, _⟩ := I.ok.funs.mem hb
 exact absurd (ZbP (Zde ho) (ZbS I.sz h)) (ZbQ _)
theorem Inv.cne (I : Inv X pins σ H s) : ∀ x c, X.env.cells.lookup x = some c -> c ≠ X.env.locals := fun x c e z => by
 obtain ⟨v, o, ho, hd⟩ := I.cell x c e
 obtain ⟨m, ⟨o', es, ep, ho', hd', _⟩, _⟩ := I.loc
 rw [z, ho'] at ho; cases ho; rw [hd'] at hd; cases hd
theorem Inv.funs (I : Inv X pins σ H s) : s.heap.FunFrames X.base X.outer := by
 have all : ∀ (l : List Env), (∀ b ∈ frs l, b ∈ X.fs) -> X.s₀.heap.FunFrames X.base l -> s.heap.FunFrames X.base l := by
  intro l
  induction l with
  | nil => intro _ _; trivial
  | cons env r ih =>
   intro hs hl
   obtain ⟨hk, ⟨L, o, hf, hn, ho, hd⟩, hr⟩ := hl
   have hL : L ∈ X.fs := hs L (by unfold frs; rw [Zad, hf]; exact Zae)
   obtain ⟨sl, e⟩ := I.base.slot L o ho (I.ok.frf L hL) hL fun z => I.ok.exfs L z hL
   exact ⟨hk, ⟨L, _, hf, hn, e, hd⟩, ih (fun b hb => hs b (by unfold frs; rw [Zad, hf]; exact Zaf _ hb)) hr⟩
 exact all X.outer (fun _ hb => hb) I.ok.funs
theorem Inv.stack (I : Inv X pins σ H s) : s.heap.FunFrames X.base X.stack := by
 rcases I.ok.stk with e | ⟨e, hf⟩
 ·rw [e]; exact I.funs
 ·rw [e]
  obtain ⟨m, hn, _⟩ := I.loc
  refine .cons (by rw [I.ok.kind]; decide) hf hn ?_ I.funs
  exact Zdg (ZbS I.ok.bsz I.ok.above)
theorem Inv.stkSub (I : Inv X pins σ H s) : ∀ b ∈ frs X.stack, b ∈ X.env.locals :: X.fs := fun b hb => by
 rcases I.ok.stk with e | ⟨e, hf⟩
 ·rw [e] at hb; exact Zaf _ hb
 ·rw [e] at hb
  unfold frs at hb
  rw [Zad, hf] at hb
  exact hb
theorem Inv.stkFree (I : Inv X pins σ H s) : ∀ b ∈ frs X.stack, H b = none := fun b hb => by
 rcases Zag.mp (I.stkSub b hb) with e | hb
 ·rw [e]; exact I.free
 ·obtain ⟨_, o, ho, _⟩ := I.ok.funs.mem hb
  exact I.base.free b o ho (I.ok.frf b hb) fun z => I.ok.exfs b z hb
theorem Inv.step {g' : Array GenState} {t' : Nat} {d' : Drawn} {ch : List Addr} (I : Inv X pins σ H s)
  (hch : ∀ b ∈ ch, (b ∈ X.ex \/ X.s₀.heap.objs.size <= b) /\ b ≠ X.env.locals /\ (∀ x c, X.env.cells.lookup x = some c -> c ≠ b) /\ ∀ p ∈ X.pn ++ pins, p.1 ≠ b)
  (keep : ∀ b o, b ≠ X.env.locals -> b ∉ X.fs -> b ∉ ch -> s.heap.get? b = some o -> H b = none -> h'.get? b = some o)
  (slot : ∀ b o, b ≠ X.env.locals -> b ∈ X.fs -> b ∉ ch -> s.heap.get? b = some o -> H b = none -> ∃ sl, h'.get? b = some { o with slots := sl }) (free : ∀ b o, b ∉ ch -> s.heap.get? b = some o -> H b = none -> H' b = none)
  (there : ∀ b o, b ∉ ch -> s.heap.get? b = some o -> ∃ o', h'.get? b = some o')
  (tups : ∀ b xs, H b = some (.tup xs) -> H' b = some (.tup xs)) (frzs : ∀ b o u, H b = some (.frz o u) -> H' b = some (.frz o u)) (tbls : ∀ b ps, H b = some (.tbl ps) -> ∃ more, H' b = some (.tbl (ps ++ more)))
  (ns : ∀ m, s.heap.Ns X.env.locals m -> h'.Ns X.env.locals m) (hok : HOk X.prog X.w H' h') (hg : AllBare g') :
  Inv X pins σ H' { s with heap := h', gens := g', drawn := d', toks := t' } := by
 have neL : ∀ b o, X.s₀.heap.get? b = some o -> b ≠ X.env.locals := fun b o e => ZbR (ZbP (Zde e) I.ok.above)
 have neC : ∀ b o, X.s₀.heap.get? b = some o -> b ∉ X.ex -> b ∉ ch := fun b o e hx hb => by
  rcases (hch b hb).1 with z | z
  ·exact hx z
  ·exact absurd (ZbP (Zde e) z) (ZbQ _)
 have cellK : ∀ x c, X.env.cells.lookup x = some c -> ∀ v, s.heap.IsCell c v -> h'.IsCell c v := fun x c e v ⟨o, ho, hd⟩ => by
  have nch : c ∉ ch := fun z => (hch c z).2.2.1 x c e rfl
  by_cases hc : c ∈ X.fs
  ·obtain ⟨sl, q⟩ := slot c o (I.cne x c e) hc nch ho (I.freeC x c e)
   exact ⟨_, q, hd⟩
  ·exact ⟨o, keep c o (I.cne x c e) hc nch ho (I.freeC x c e), hd⟩
 refine ⟨I.ok, I.os, hg, ⟨fun b o e n hb hx => ?_, fun b o e n hb hx => ?_, fun b o e n hx => ?_, fun b o e hx => ?_, fun b xs e => tups b xs (I.base.tups b xs e), fun b o xs e => frzs b o xs (I.base.frzs b o xs e), fun b ps e => ?_⟩, ?_, fun x c e => ?_, ?_, fun x c e => ?_, fun p hp => ?_, hok, I.len⟩
 ·exact keep b o (neL b o e) hb (neC b o e hx) (I.base.keep b o e n hb hx) (I.base.free b o e n hx)
 ·obtain ⟨sl, e1⟩ := I.base.slot b o e n hb hx
  obtain ⟨sl', e2⟩ := slot b _ (neL b o e) hb (neC b o e hx) e1 (I.base.free b o e n hx)
  exact ⟨sl', e2⟩
 ·obtain ⟨o', e1⟩ := I.base.there b o e hx
  exact free b o' (neC b o e hx) e1 (I.base.free b o e n hx)
 ·obtain ⟨o', e1⟩ := I.base.there b o e hx
  exact there b o' (neC b o e hx) e1
 ·obtain ⟨m1, e1⟩ := I.base.tbls b ps e
  obtain ⟨m2, e2⟩ := tbls b _ e1
  exact ⟨m1 ++ m2, by rw [e2, Array.append_assoc]⟩
 ·obtain ⟨m, hn, hl⟩ := I.loc
  refine ⟨m, ns m hn, fun i x v e1 e2 e3 => ?_⟩
  obtain ⟨u, r, l⟩ := hl i x v e1 e2 e3
  refine ⟨u, r, ?_⟩
  rcases l with l | ⟨k, c, e, z⟩
  ·exact .inl l
  ·exact .inr ⟨k, c, e, cellK x c e _ z⟩
 ·obtain ⟨v, z⟩ := I.cell x c e
  exact ⟨v, cellK x c e v z⟩
 ·obtain ⟨m, ⟨o, _, _, ho, _⟩, _⟩ := I.loc
  exact free _ o (fun z => (hch _ z).2.1 rfl) ho I.free
 ·obtain ⟨v, o, ho, hd⟩ := I.cell x c e
  exact free c o (fun z => (hch c z).2.2.1 x c e rfl) ho (I.freeC x c e)
 ·obtain ⟨e, n, ne, nf, d⟩ := I.pin p hp
  have nch : p.1 ∉ ch := fun z => (hch p.1 z).2.2.2 p hp rfl
  exact ⟨keep p.1 p.2 ne nf nch e n, free p.1 p.2 nch e n, ne, nf, d⟩
theorem Inv.un {t' : Nat} (I : Inv X pins σ H s) (u : Un X.fs [] H H' s.heap h') (hok : HOk X.prog X.w H' h') : Inv X pins σ H' { s with heap := h', toks := t' } := by
 obtain ⟨m, ⟨o, es, ep, ho, r⟩, _⟩ := id I.loc
 obtain ⟨sl, hL⟩ := u.any ho I.free (by simp)
 exact I.step (g' := s.gens) (d' := s.drawn) (ch := []) (fun _ z => nomatch z) (fun b o _ hb _ e n => u.keep b o e n hb (by simp)) (fun b o _ hb _ e n => u.slot b o e n hb (by simp)) (fun b o _ e n => u.free b o e n (by simp)) (fun b o _ e => u.there b o e (by simp)) u.tups u.frzs u.tbls (fun m' hm => by
  obtain ⟨o', es', ep', ho', r'⟩ := hm
  rw [ho] at ho'; cases ho'
  exact ⟨_, es', ep', hL, r'⟩) hok I.bare
theorem Inv.call {g' : Array GenState} {t' : Nat} {d' : Drawn} {ch : List Addr} (I : Inv X pins σ H s) (u : Un (frs X.stack) ch H H' s.heap h') (hok : HOk X.prog X.w H' h') (hg : AllBare g')
  (hch : ∀ b ∈ ch, (b ∈ X.ex \/ X.s₀.heap.objs.size <= b) /\ b ≠ X.env.locals /\ (∀ x c, X.env.cells.lookup x = some c -> c ≠ b) /\ ∀ p ∈ X.pn ++ pins, p.1 ≠ b) :
  Inv X pins σ H' { s with heap := h', gens := g', drawn := d', toks := t' } := by
 obtain ⟨m, ⟨o, es, ep, ho, r⟩, _⟩ := id I.loc
 obtain ⟨sl, hL⟩ := u.any ho I.free fun z => (hch _ z).2.1 rfl
 exact I.step (ch := ch) hch (fun b o hL hb hc e n => u.keep b o e n (fun z => (Zag.mp (I.stkSub b z)).elim hL hb) hc) (fun b o _ _ hc e n => u.any e n hc) (fun b o hc e n => u.free b o e n hc) (fun b o hc e => u.there b o e hc) u.tups u.frzs u.tbls (fun m' hm => by
  obtain ⟨o', es', ep', ho', r'⟩ := hm
  rw [ho] at ho'; cases ho'
  exact ⟨_, es', ep', hL, r'⟩) hok hg
theorem Inv.turned {t' : Nat} {it : Addr} (I : Inv X pins σ H s) (k : ∀ b o, b ≠ it -> s.heap.get? b = some o -> h'.get? b = some o) (hn : H it = none) (hL : it ≠ X.env.locals)
  (h1 : it ∈ X.ex \/ X.s₀.heap.objs.size <= it) (h2 : ∀ x c, X.env.cells.lookup x = some c -> c ≠ it) (h3 : ∀ p ∈ X.pn ++ pins, p.1 ≠ it) : Inv X pins σ H { s with heap := h', toks := t' } := by
 have nit : ∀ b u, H b = some u -> b ≠ it := fun b u e z => by rw [z, hn] at e; cases e
 refine I.step (g' := s.gens) (d' := s.drawn) (ch := [it]) (fun b hb => ?_) (fun b o _ _ hc e _ => k b o (fun z => hc (by simp [z])) e) (fun b o _ _ hc e _ => ⟨o.slots, k b o (fun z => hc (by simp [z])) e⟩) (fun _ _ _ _ n => n)
  (fun b o hc e => ⟨o, k b o (fun z => hc (by simp [z])) e⟩) (fun _ _ e => e) (fun _ _ _ e => e) (fun b ps e => ⟨#[], by rw [e]; simp⟩) (fun m hm => ?_) (fun b u e => ?_) I.bare
 ·have e : b = it := by simpa using hb
  subst e
  exact ⟨h1, hL, h2, h3⟩
 ·obtain ⟨o, es, ep, ho, r⟩ := hm
  exact ⟨o, es, ep, k _ o (Ne.symm hL) ho, r⟩
 ·refine (I.hok b u e).stay (fun c v hc q => k c v ?_ q) (fun _ q => q) fun _ _ q => q
  rcases hc with z | z
  ·rw [z]; exact nit b u e
  ·exact nit c _ z
theorem Inv.tok (I : Inv X pins σ H s) (t : Nat) : Inv X pins σ H { s with toks := t } := I.un (h' := s.heap) (t' := t) Un.refl I.hok
theorem Inv.kept {t' : Nat} (I : Inv X pins σ H s) (k : ∀ b u, s.heap.get? b = some u -> h'.get? b = some u) : Inv X pins σ H { s with heap := h', toks := t' } := I.un (Un.kept k) (I.hok.kept k)
theorem Inv.laid {a : Addr} {o : HO} {t' : Nat} (I : Inv X pins σ H s) (k : ∀ b u, s.heap.get? b = some u -> h'.get? b = some u) (hp : s.heap.objs.size <= a) (new : Zer X.prog X.w (upd H a o) h' a o) :
  Inv X pins σ (upd H a o) { s with heap := h', toks := t' } := I.un (Un.laid k hp (I.hok.fresh hp)) (I.hok.laid k hp new)
theorem Inv.write {x e : Addr} {o : HO} {t' : Nat} (I : Inv X pins σ H s) (mu : Mut (H x)) (he : e = x \/ H e = some (.own x)) (k : ∀ b u, b ≠ e -> s.heap.get? b = some u -> h'.get? b = some u) (heo : ∃ u, h'.get? e = some u)
  (new : Zer X.prog X.w (upd H x o) h' x o) : Inv X pins σ (upd H x o) { s with heap := h', toks := t' } := I.un (Un.write mu he k heo) (I.hok.write mu he k heo new)
theorem Inv.pins_of {pins' : List (Addr × Obj)} (I : Inv X pins σ H s) (h : ∀ p ∈ pins', s.heap.get? p.1 = some p.2 /\ H p.1 = none /\ p.1 ≠ X.env.locals /\ p.1 ∉ X.fs /\ ∀ v, p.2.data ≠ .cell v) : Inv X pins' σ H s :=
 ⟨I.ok, I.os, I.bare, I.base, I.loc, I.cell, I.free, I.freeC, fun p hp => (Zah.mp hp).elim (fun z => I.pin p (Zai _ z)) (h p), I.hok, I.len⟩
theorem Zhd {N : List Str} (hN : N.Nodup) {i j : Nat} {x : Str} (a : N[i]? = some x) (b : N[j]? = some x) : i = j := by
 obtain ⟨h1, e1⟩ := Zaj.mp a
 obtain ⟨h2, e2⟩ := Zaj.mp b
 exact (List.getElem_inj hN).mp (e1.trans e2.symm)
theorem Zk7 {M : Model} {A : Around} {E : Value -> Shared -> Prop} {i : Nat} {x : Str} {v : V} {u : Value} {Q : Unit -> Shared -> Prop} (I : Inv X pins σ H s) (hN : X.N.Nodup) (hi : X.N[i]? = some x) (hx : Loc X.env.scope x) (r : ZeB v u)
  (h : ∀ s', Inv X pins (σ.set i (some v)) H s' -> (∃ a, Heap.SameBut a s.heap s'.heap /\ (a = X.env.locals \/ X.env.cells.lookup x = some a)) -> Q () s') (hf : autoParam (X.fn x = true \/ X.env.scope.names.lookup x = some .local) L2.Internal.auL._auto_1) : wpAny M A (storeName X.env x u) Q E s := by
 obtain ⟨m, hn, hl⟩ := id I.loc
 have hcls : (X.env.scope.kind == .class || (X.env.scope.kind == .module && X.env.locals != X.env.globals)) = false := by rw [I.ok.kind]; rfl
 have hiσ : i < σ.length := by rw [I.len]; exact (Zaj.mp hi).1
 have cne := I.cne
 have tracked : ∀ {a : Addr} {h' : Heap}, (∃ o, s.heap.get? a = some o /\ H a = none) -> Heap.SameBut a s.heap h' -> HOk X.prog X.w H h' := fun {a h'} ha hs b ob e => by
  obtain ⟨_, _, hfree⟩ := ha
  refine (I.hok b ob e).stay (fun c w' hc q => (hs.2 c ?_).trans q) (fun _ q => q) fun _ _ q => q
  rintro rfl
  rcases hc with rfl | hc
  ·rw [hfree] at e; cases e
  ·rw [hfree] at hc; cases hc
 rcases hx with hk | hk
 ·refine wpAny_storeName_local hk hn (fun h' hn' hs => ?_) hcls
  obtain ⟨oL, _, _, hoL, _⟩ := id hn
  refine h _ ⟨I.ok, I.os, I.bare, ⟨fun b o e n hb hx => ?_, fun b o e n hb hx => ?_, I.base.free, fun b o e hx => ?_, I.base.tups, I.base.frzs, I.base.tbls⟩, ⟨_, hn', fun j y v' e1 e2 e3 => ?_⟩, fun y c e => ?_, I.free, I.freeC, fun p hp => ?_, tracked ⟨oL, hoL, I.free⟩ hs, by simpa using I.len⟩ ⟨_, hs, .inl rfl⟩
  ·exact (hs.2 b (ZbR (ZbP (Zde e) I.ok.above))).trans (I.base.keep b o e n hb hx)
  ·obtain ⟨sl, e1⟩ := I.base.slot b o e n hb hx
   exact ⟨sl, (hs.2 b (ZbR (ZbP (Zde e) I.ok.above))).trans e1⟩
  ·obtain ⟨o', e1⟩ := I.base.there b o e hx
   exact ⟨o', (hs.2 b (ZbR (ZbP (Zde e) I.ok.above))).trans e1⟩
  ·by_cases hj : j = i
   ·subst hj
    rw [hi] at e1; cases e1
    rw [Zak hiσ] at e2
    cases e2
    exact ⟨u, r, .inl ⟨hk, by simp⟩⟩
   ·rw [Zal (Ne.symm hj)] at e2
    obtain ⟨u', r', q⟩ := hl j y v' e1 e2 e3
    refine ⟨u', r', ?_⟩
    rcases q with ⟨k, e⟩ | ⟨k, c, e, z⟩
    ·refine .inl ⟨k, ?_⟩
     have : y ≠ x := fun e => hj (Zhd hN e1 (e ▸ hi))
     simp [this, e]
    ·exact .inr ⟨k, c, e, z.sameBut hs (cne y c e)⟩
  ·obtain ⟨w', z⟩ := I.cell y c e
   exact ⟨w', z.sameBut hs (cne y c e)⟩
  ·obtain ⟨e, n, ne, nf, d⟩ := I.pin p hp
   exact ⟨(hs.2 p.1 ne).trans e, n, ne, nf, d⟩
 ·have hfn : X.fn x = true := by
   rcases hf with z | z
   ·exact z
   ·rw [z] at hk; cases hk
  obtain ⟨c, hc⟩ := I.ok.has x (.inl hk)
  obtain ⟨w', z⟩ := I.cell x c hc
  refine wpAny_storeName_cell I.ok.kind hk hc z (fun h' hc' hs => ?_)
  obtain ⟨oc, hoc, hocd⟩ := id z
  refine h { s with heap := h' } ⟨I.ok, I.os, I.bare, ⟨fun b o e n hb hx => ?_, fun b o e n hb hx => ?_, I.base.free, fun b o e hx => ?_, I.base.tups, I.base.frzs, I.base.tbls⟩, ⟨m, hn.sameBut hs (Ne.symm (cne x c hc)), fun j y v' e1 e2 e3 => ?_⟩, fun y c' e => ?_, I.free, I.freeC, fun p hp => ?_, tracked ⟨oc, hoc, I.freeC x c hc⟩ hs, by simpa using I.len⟩ ⟨c, hs, .inr hc⟩
  ·exact (hs.2 b (ZbR (ZbP (Zde e) (I.ok.cab x c hfn hc)))).trans (I.base.keep b o e n hb hx)
  ·obtain ⟨sl, e1⟩ := I.base.slot b o e n hb hx
   exact ⟨sl, (hs.2 b (ZbR (ZbP (Zde e) (I.ok.cab x c hfn hc)))).trans e1⟩
  ·obtain ⟨o', e1⟩ := I.base.there b o e hx
   exact ⟨o', (hs.2 b (ZbR (ZbP (Zde e) (I.ok.cab x c hfn hc)))).trans e1⟩
  ·by_cases hj : j = i
   ·subst hj
    rw [hi] at e1; cases e1
    rw [Zak hiσ] at e2
    cases e2
    exact ⟨u, r, .inr ⟨.inl hk, c, hc, hc'⟩⟩
   ·rw [Zal (Ne.symm hj)] at e2
    obtain ⟨u', r', q⟩ := hl j y v' e1 e2 e3
    refine ⟨u', r', ?_⟩
    rcases q with q | ⟨k, c', e, z'⟩
    ·exact .inl q
    ·refine .inr ⟨k, c', e, z'.sameBut hs ?_⟩
     rintro rfl
     exact hj (Zhd hN e1 (I.ok.inj _ _ _ e hc ▸ hi))
  ·by_cases hcc : c' = c
   ·subst hcc; exact ⟨_, hc'⟩
   ·obtain ⟨w2, z2⟩ := I.cell y c' e
    exact ⟨w2, z2.sameBut hs hcc⟩
  ·obtain ⟨e, n, ne, nf, d⟩ := I.pin p hp
   refine ⟨(hs.2 p.1 ?_).trans e, n, ne, nf, d⟩
   intro q
   rw [q, hoc] at e
   have q' : oc = p.2 := Zb4.inj e
   exact d w' (by rw [<- q']; exact hocd)
theorem ZfJ {M : Model} {A : Around} {E : Value -> Shared -> Prop} {i : Nat} {x : Str} {v : V} {u : Value} {Q : Unit -> Shared -> Prop} (I : Inv X pins σ H s) (hN : X.N.Nodup) (hi : X.N[i]? = some x) (hx : Loc X.env.scope x) (r : ZeB v u)
  (h : ∀ s', Inv X pins (σ.set i (some v)) H s' -> Q () s') (hf : autoParam (X.fn x = true \/ X.env.scope.names.lookup x = some .local) L2.Internal.auL._auto_1) : wpAny M A (storeName X.env x u) Q E s :=
 Zk7 I hN hi hx r (fun s' I' _ => h s' I') hf
theorem Inv.call' {s' : Shared} {ch : List Addr} (I : Inv X pins σ H s) (ho : s'.os = s.os) (u : Un (frs X.stack) ch H H' s.heap s'.heap) (hok : HOk X.prog X.w H' s'.heap) (hg : AllBare s'.gens)
  (hch : ∀ b ∈ ch, (b ∈ X.ex \/ X.s₀.heap.objs.size <= b) /\ b ≠ X.env.locals /\ (∀ x c, X.env.cells.lookup x = some c -> c ≠ b) /\ ∀ p ∈ X.pn ++ pins, p.1 ≠ b) : Inv X pins σ H' s' := by
 obtain ⟨h', g', d', t', o'⟩ := s'
 have e : o' = s.os := ho
 subst e
 exact I.call (g' := g') (t' := t') (d' := d') u hok hg hch
end
noncomputable abbrev XK := Value -> Option Addr -> Hp -> Prop
noncomputable abbrev St := List (Option V)
noncomputable abbrev VK := V -> Hp -> Prop
noncomputable abbrev TE := St -> Hp -> VK -> Prop
noncomputable abbrev TT := St -> Hp -> (Bool -> Hp -> Prop) -> Prop
noncomputable abbrev TA := St -> Hp -> (List V -> Hp -> Prop) -> Prop
structure ZfS where
 nx : St -> Hp -> Prop
 rt : VK
 bk : St -> Hp -> Prop := fun _ _ => False
 ct : St -> Hp -> Prop := fun _ _ => False
noncomputable abbrev TS := ZfS -> St -> Hp -> Prop
def EP (X : Cx) (pins : List (Addr × Obj)) (σ : St) (Q : VK) (u : Value) (s' : Shared) : Prop := ∃ v H', Inv X pins σ H' s' /\ ZeB v u /\ Q v H'
def TP (X : Cx) (pins : List (Addr × Obj)) (σ : St) (Q : Bool -> Hp -> Prop) (b : Bool) (s' : Shared) : Prop := ∃ H', Inv X pins σ H' s' /\ Q b H'
def AP (X : Cx) (pins : List (Addr × Obj)) (σ : St) (Q : List V -> Hp -> Prop) (us : List Value) (s' : Shared) : Prop := ∃ vs H', Inv X pins σ H' s' /\ Zei vs us /\ Q vs H'
def SP (X : Cx) (pins : List (Addr × Obj)) (D : ZfS) (f : Flow) (s' : Shared) : Prop :=
 match f with
 | .next => ∃ σ' H', Inv X pins σ' H' s' /\ D.nx σ' H'
 | .brk => ∃ σ' H', Inv X pins σ' H' s' /\ D.bk σ' H'
 | .cont => ∃ σ' H', Inv X pins σ' H' s' /\ D.ct σ' H'
 | .ret u => ∃ v σ' H', Inv X pins σ' H' s' /\ ZeB v u /\ D.rt v H'
def PE (X : Cx) (e : Expr) (t : TE) : Prop :=
 ∀ (pins : List (Addr × Obj)) (s : Shared) (σ : St) (H : Hp) (Q : VK), Inv X pins σ H s -> t σ H Q -> wpAny (model X.prog X.w) X.A (eval e X.env) (EP X pins σ Q) X.xe s
def PT (X : Cx) (e : Expr) (t : TT) : Prop :=
 ∀ (pins : List (Addr × Obj)) (s : Shared) (σ : St) (H : Hp) (Q : Bool -> Hp -> Prop), Inv X pins σ H s -> t σ H Q -> wpAny (model X.prog X.w) X.A (isTrue e X.env (eval e X.env)) (TP X pins σ Q) X.xe s
def PW (X : Cx) (e : Expr) (t : TT) : Prop :=
 ∀ (whole : Sem Value) (pins : List (Addr × Obj)) (s : Shared) (σ : St) (H : Hp) (Q : Bool -> Hp -> Prop), Inv X pins σ H s -> t σ H Q -> wpAny (model X.prog X.w) X.A (isTrue e X.env whole) (TP X pins σ Q) X.xe s
theorem PW.pt {X : Cx} {e : Expr} {t : TT} (h : PW X e t) : PT X e t := h _
def PA (X : Cx) (es : List Expr) (t : TA) : Prop :=
 ∀ (pos : Pos) (pins : List (Addr × Obj)) (s : Shared) (σ : St) (H : Hp) (Q : List V -> Hp -> Prop), Inv X pins σ H s -> t σ H Q -> wpAny (model X.prog X.w) X.A (spliced (backTo pos (starEach es X.env))) (AP X pins σ Q) X.xe s
def PS (X : Cx) (st : Stmt) (t : TS) : Prop :=
 ∀ (pins : List (Addr × Obj)) (s : Shared) (σ : St) (H : Hp) (D : ZfS), Inv X pins σ H s -> t D σ H -> wpAny (model X.prog X.w) X.A (exec st X.env) (SP X pins D) X.xe s
def PSs (X : Cx) (st : List Stmt) (t : TS) : Prop :=
 ∀ (pins : List (Addr × Obj)) (s : Shared) (σ : St) (H : Hp) (D : ZfS), Inv X pins σ H s -> t D σ H -> wpAny (model X.prog X.w) X.A (execs st X.env) (SP X pins D) X.xe s
theorem thn {α : Type} {t : Sem α} {Q Q' : α -> Shared -> Prop} {M : Model} {A : Around} {E : Value -> Shared -> Prop} {s : Shared} (h : wpAny M A t Q E s) (hQ : ∀ a s, Q a s -> Q' a s) : wpAny M A t Q' E s := wpAny_mono h hQ fun _ _ x => x
end L2.Internal
namespace L2.Internal
open PySem PySem.Spec PyProof.Rows
section
variable {X : Cx}
def Zrw (i : Nat) : TE := fun σ H Q => ∃ v, σ[i]? = some (some v) /\ Q v H
def tC (v : V) : TE := fun _ H Q => Q v H
theorem Zpn {i : Nat} {x : Str} {pos : Pos} (hN : X.N[i]? = some x) (hv : Vis X.env.scope x) (hd : autoParam ((x == ("__debug__" : Str)) = false) L2.Internal.auD._auto_1) (hcd : autoParam ((x == ("__classdict__" : Str)) = false) L2.Internal.auD._auto_1) : PE X (.Name x pos) (Zrw i) := by
 intro pins s σ H Q I h
 obtain ⟨v, e, h⟩ := h
 obtain ⟨m, hn, hl⟩ := I.loc
 obtain ⟨u, r, l⟩ := hl i x v hN e hv
 have fin : EP X pins σ Q u s := ⟨v, H, I, r, h⟩
 rcases l with ⟨hk, hm⟩ | ⟨hk, c, hc, hcell⟩
 ·exact wpAny_Name (wpAny_loadName_local I.ok.kind hk hn hm fin) hd
 ·rcases hk with hk | hk
  ·exact wpAny_Name (wpAny_loadName_cell I.ok.kind hk hc hcell fin) hd
  ·exact wpAny_Name (wpAny_loadName_free I.ok.kind hk hc hcell fin hcd) hd
theorem Zds {i j pos} : PE X (.Constant (.int i) j pos) (tC (.int i)) := fun _ _ _ H _ I h => wpAny_Constant_int ⟨.int i, H, I.tok _, ⟨_, rfl⟩, h⟩
theorem ZgU {b j pos} : PE X (.Constant (.bool b) j pos) (tC (.bl b)) := fun _ _ _ H _ I h => Constant_bool ⟨.bl b, H, I, rfl, h⟩
theorem Zgh {j pos} : PE X (.Constant .none j pos) (tC .non) := fun _ _ _ H _ I h => Constant_none ⟨.non, H, I, rfl, h⟩
theorem ZdJ {x j pos} : PE X (.Constant (.str x) j pos) (tC (.str x)) := fun _ _ _ H _ I h => Calls.Constant_str ⟨.str x, H, I.tok _, ⟨_, rfl⟩, h⟩
def Gl (X : Cx) (x : Str) : Prop := X.env.kindOf x = some .globalImplicit
theorem Zgm {E : Value -> Shared -> Prop} {pins : List (Addr × Obj)} {s : Shared} {σ : St} {H : Hp} {x : Str} {u : Value} {pos : Pos} {Q : Value -> Shared -> Prop} (I : Inv X pins σ H s) (hg : Gl X x) (hm : X.mg x = some u) (h : Q u s)
  (hd : autoParam ((x == ("__debug__" : Str)) = false) L2.Internal.auD._auto_1) : wpAny (model X.prog X.w) X.A (eval (.Name x pos) X.env) Q E s :=
 Calls.Name_function_global I.ok.kind hg (Calls.loadGlobal_global (by rw [I.ok.glob]; exact I.mod.glob.keeps I.bk) hm h) hd
theorem ZfT {E : Value -> Shared -> Prop} {pins : List (Addr × Obj)} {s : Shared} {σ : St} {H : Hp} {x : Str} {u : Value} {pos : Pos} {Q : Value -> Shared -> Prop} (I : Inv X pins σ H s) (hg : Gl X x) (hm : X.mg x = none) (hv : bootBuiltins x = some u) (h : Q u s)
  (hn : autoParam (x ≠ "__name__") L2.Internal.auD._auto_1) (hd : autoParam ((x == ("__debug__" : Str)) = false) L2.Internal.auD._auto_1) : wpAny (model X.prog X.w) X.A (eval (.Name x pos) X.env) Q E s := by
 obtain ⟨mb, h1, h2⟩ := I.mod.blt
 exact Calls.Name_function_global I.ok.kind hg (Calls.loadGlobal_builtin (by rw [I.ok.glob]; exact I.mod.glob.keeps I.bk) hm (by rw [I.ok.blt]; exact h1.keeps I.bk) ((h2 x hn).trans hv) h) hd
theorem Zk8 {x : Str} {v : V} {u : Value} {pos : Pos} (hg : Gl X x) (hm : X.mg x = some u) (r : ZeB v u) (hd : autoParam ((x == ("__debug__" : Str)) = false) L2.Internal.auD._auto_1) : PE X (.Name x pos) (tC v) :=
 fun _ _ _ H _ I h => Zgm I hg hm ⟨v, H, I, r, h⟩ hd
theorem Zn7 {x : Str} {v : V} {u : Value} {pos : Pos} (hg : Gl X x) (hm : X.mg x = none) (hv : bootBuiltins x = some u) (r : ZeB v u) (hn : autoParam (x ≠ "__name__") L2.Internal.auD._auto_1) (hd : autoParam ((x == ("__debug__" : Str)) = false) L2.Internal.auD._auto_1) : PE X (.Name x pos) (tC v) :=
 fun _ _ _ H _ I h => ZfT I hg hm hv ⟨v, H, I, r, h⟩ hn hd
variable {a b : Expr} {ta tb : TE} {pos : Pos}
def PC (X : Cx) (op : CmpOp) (a b : Expr) (t : TE) : Prop :=
 ∀ (pins : List (Addr × Obj)) (s : Shared) (σ : St) (H : Hp) (Q : VK), Inv X pins σ H s -> t σ H Q ->
  wpAny (model X.prog X.w) X.A (eval a X.env) (fun v s₁ => wpAny (model X.prog X.w) X.A (eval b X.env) (fun u s₂ => wpAny (model X.prog X.w) X.A (compareOp op v u) (EP X pins σ Q) X.xe s₂) X.xe s₁) X.xe s
theorem ZmF (b : Expr) {op : CmpOp} (h : op ≠ .In) (h2 : op ≠ .NotIn) : behindInMarks op b = false := by
 have e1 : (op == CmpOp.In) = false := by cases op <;> first | rfl | exact absurd rfl h
 have e2 : (op == CmpOp.NotIn) = false := by cases op <;> first | rfl | exact absurd rfl h2
 cases b <;> simp [behindInMarks, e1, e2]
def tIsN (ta : TE) : TE := fun σ H Q => ta σ H fun x H1 => Q (.bl (decide (x = .non))) H1
def ZqM (ta : TE) : TE := fun σ H Q => ta σ H fun x H1 => Q (.bl (!decide (x = .non))) H1
theorem ZeB.none_iff {x : V} {v : Value} (r : ZeB x v) : (v == Value.none) = decide (x = .non) := by
 cases x with
 | non => cases r; rfl
 | bl _ => cases r; rfl
 | int _ => obtain ⟨t, rfl⟩ := r; rfl
 | str _ => obtain ⟨t, rfl⟩ := r; rfl
 | byt _ => obtain ⟨t, rfl⟩ := r; rfl
 | flt _ => obtain ⟨t, rfl⟩ := r; rfl
 | ref _ => cases r; rfl
 | ty _ => cases r; rfl
theorem Zj7 {j pos'} (ha : PE X a ta) : PC X .Is a (.Constant .none j pos') (tIsN ta) := by
 intro pins s σ H Q I h
 refine thn (ha pins s σ H _ I h) fun v s1 ⟨x, H1, I1, r1, q1⟩ => ?_
 exact Constant_none (is_none_gen ⟨.bl _, H1, I1, by rw [r1.none_iff]; rfl, q1⟩)
theorem Zih {j pos'} (ha : PE X a ta) : PC X .IsNot a (.Constant .none j pos') (ZqM ta) := by
 intro pins s σ H Q I h
 refine thn (ha pins s σ H _ I h) fun v s1 ⟨x, H1, I1, r1, q1⟩ => ?_
 exact Constant_none (isnot_none_gen ⟨.bl _, H1, I1, by rw [r1.none_iff]; rfl, q1⟩)
def tB (t : TE) : TT := fun σ H Q => t σ H fun x H1 => ∃ c, x = .bl c /\ Q c H1
theorem Zgi {op : CmpOp} {t : TE} (h : PC X op a b t) (h1 : behindInMarks op b = false := by first | exact ZmF _ (by decide) (by decide) | rfl) : PT X (.Compare a [op] [b] pos) (tB t) := by
 intro pins s σ H Q I hw
 refine wpAny_isTrue_Compare1 (thn (h pins s σ H _ I hw) fun v s1 h1 => thn h1 fun u s2 h2 => thn h2 fun c s3 ⟨x, H1, I1, r1, q1⟩ => ?_) h1
 obtain ⟨d, rfl, q⟩ := q1
 cases r1
 exact wpAny_truthy_bool ⟨H1, I1, q⟩
theorem ZfB {e : Expr} {t : TE} (h : PE X e t) (he : autoParam (∀ whole, isTrue e X.env whole = (do let v <- whole; standAt e.pos; holding [v] (truthy v))) L2.Internal.auI._auto_1) : PT X e (tB t) := by
 intro pins s σ H Q I hw
 refine isTrue_plain (thn (h pins s σ H _ I hw) fun v s1 ⟨x, H1, I1, r1, q1⟩ => ?_) (he _)
 obtain ⟨d, rfl, q⟩ := q1
 cases r1
 exact wpAny_truthy_bool ⟨H1, I1, q⟩
variable {tA tB' : TT} {rest : List Expr}
def Zrx (t u : TT) : TT := fun σ H Q => t σ H fun c H1 => if c = true then u σ H1 Q else Q false H1
def tOr (t u : TT) : TT := fun σ H Q => t σ H fun c H1 => if c = true then Q true H1 else u σ H1 Q
def tNot (t : TT) : TT := fun σ H Q => t σ H fun c H1 => Q (!c) H1
theorem ZgV (ha : PT X a tA) : PW X (.BoolOp .And [a] pos) tA := by
 intro wh pins s σ H Q I h
 refine isTrue_and (thn (ha pins s σ H Q I h) fun c s1 e => ?_)
 cases c with
 | true => exact isTrue_and_nil e
 | false => exact e
theorem ZfQ (ha : PT X a tA) : PW X (.BoolOp .Or [a] pos) tA := by
 intro wh pins s σ H Q I h
 refine isTrue_or (thn (ha pins s σ H Q I h) fun c s1 e => ?_)
 cases c with
 | false => exact isTrue_or_nil e
 | true => exact e
theorem Zhk (ha : PT X a tA) (hb : PW X (.BoolOp .And (b :: rest) pos) tB') : PW X (.BoolOp .And (a :: b :: rest) pos) (Zrx tA tB') := by
 intro wh pins s σ H Q I h
 refine isTrue_and (thn (ha pins s σ H _ I h) fun c s1 ⟨H1, I1, q1⟩ => ?_)
 cases c with
 | true => exact hb wh pins s1 σ H1 Q I1 q1
 | false => exact ⟨H1, I1, q1⟩
theorem Zgn (ha : PT X a tA) (hb : PW X (.BoolOp .Or (b :: rest) pos) tB') : PW X (.BoolOp .Or (a :: b :: rest) pos) (tOr tA tB') := by
 intro wh pins s σ H Q I h
 refine isTrue_or (thn (ha pins s σ H _ I h) fun c s1 ⟨H1, I1, q1⟩ => ?_)
 cases c with
 | true => exact ⟨H1, I1, q1⟩
 | false => exact hb wh pins s1 σ H1 Q I1 q1
theorem Zgj (ha : PT X a tA) : PT X (.UnaryOp .Not a pos) (tNot tA) := by
 intro pins s σ H Q I h
 exact isTrue_not (ha pins s σ H (fun c H1 => Q (!c) H1) I h)
def ZqN (ta tb : TE) : TE := fun σ H Q => ta σ H fun x H1 => ∃ c, x = .bl c /\ if c = true then tb σ H1 Q else Q (.bl false) H1
def tOrV (ta tb : TE) : TE := fun σ H Q => ta σ H fun x H1 => ∃ c, x = .bl c /\ if c = true then Q (.bl true) H1 else tb σ H1 Q
theorem Znu {op} {t : TE} (h : PE X a t) : PE X (.BoolOp op [a] pos) t := fun pins s σ H Q I hw => BoolOp_one (h pins s σ H Q I hw)
theorem Znv (ha : PE X a ta) (hb : PE X (.BoolOp .And (b :: rest) pos) tb) : PE X (.BoolOp .And (a :: b :: rest) pos) (ZqN ta tb) := by
 intro pins s σ H Q I h
 refine BoolOp_and (thn (ha pins s σ H _ I h) fun v s1 ⟨x, H1, I1, r1, q1⟩ => ?_)
 obtain ⟨c, rfl, q1⟩ := q1
 cases r1
 refine wpAny_truthy_bool ?_
 cases c with
 | true => exact hb pins s1 σ H1 Q I1 q1
 | false => exact ⟨.bl false, H1, I1, rfl, q1⟩
theorem ZqO (ha : PE X a ta) (hb : PE X (.BoolOp .Or (b :: rest) pos) tb) : PE X (.BoolOp .Or (a :: b :: rest) pos) (tOrV ta tb) := by
 intro pins s σ H Q I h
 refine BoolOp_or (thn (ha pins s σ H _ I h) fun v s1 ⟨x, H1, I1, r1, q1⟩ => ?_)
 obtain ⟨c, rfl, q1⟩ := q1
 cases r1
 refine wpAny_truthy_bool ?_
 cases c with
 | false => exact hb pins s1 σ H1 Q I1 q1
 | true => exact ⟨.bl true, H1, I1, rfl, q1⟩
def tIf (t : TT) (ta tb : TE) : TE := fun σ H Q => t σ H fun c H1 => if c = true then ta σ H1 Q else tb σ H1 Q
theorem ZmG {c : Expr} (hc : PT X c tA) (ha : PE X a ta) (hb : PE X b tb) : PE X (.IfExp c a b pos) (tIf tA ta tb) := by
 intro pins s σ H Q I h
 refine wpAny_IfExp (thn (hc pins s σ H _ I h) fun d s1 ⟨H1, I1, q1⟩ => ?_)
 cases d with
 | true => exact ha pins s1 σ H1 Q I1 q1
 | false => exact hb pins s1 σ H1 Q I1 q1
end
end L2.Internal
namespace L2.Internal
open PySem PySem.Spec PyProof.Rows
def SqL (K : PySem.W.Frag) (H : Hp) (a : Addr) (xs : List V) : Prop :=
 Rd H a (.lst xs) \/
  ∃ (o : Obj) (its : Array Value) (n : Nat), K.lookup a = some o /\ o.cls = .type "list" /\ o.dict = none /\ o.data = .seq its n /\ its.size <= sizeLine /\ Zei xs its.toList
def SqT (K : PySem.W.Frag) (H : Hp) (a : Addr) (xs : List V) : Prop :=
 Rd H a (.tup xs) \/
  ∃ (o : Obj) (its : Array Value) (n : Nat), K.lookup a = some o /\ o.cls = .type "tuple" /\ o.data = .seq its n /\ its.size <= sizeLine /\ Zei xs its.toList
noncomputable def absV : Value -> Option V
 | .none => some .non
 | .bool b => some (.bl b)
 | .int i _ => some (.int i)
 | .str x _ => some (.str x)
 | .bytes b _ => some (.byt b)
 | .float b _ => some (.flt b)
 | .ref a => some (.ref a)
 | .type n => some (.ty n)
 | _ => none
theorem ZeB.abs {x : V} {u : Value} (r : ZeB x u) : absV u = some x := by
 cases x with
 | non => cases r; rfl
 | bl _ => cases r; rfl
 | int _ => obtain ⟨t, rfl⟩ := r; rfl
 | str _ => obtain ⟨t, rfl⟩ := r; rfl
 | byt _ => obtain ⟨t, rfl⟩ := r; rfl
 | flt _ => obtain ⟨t, rfl⟩ := r; rfl
 | ref _ => cases r; rfl
 | ty _ => cases r; rfl
theorem ZeB.inj {x y : V} {u : Value} (r : ZeB x u) (q : ZeB y u) : x = y := Zb4.inj (r.abs.symm.trans q.abs)
theorem Zei.inj : ∀ {xs ys : List V} {us : List Value}, Zei xs us -> Zei ys us -> xs = ys
 | _, _, _, .nil, .nil => rfl
 | _, _, _, .cons r t, .cons r' t' => by rw [r.inj r', Zei.inj t t']
section
variable {X : Cx} {pins : List (Addr × Obj)} {σ : St} {H : Hp} {s : Shared} {a : Addr} {xs ys : List V}
theorem SqL.of {K : PySem.W.Frag} (h : H a = some (.lst xs)) : SqL K H a xs := .inl (.inl h)
theorem SqT.of {K : PySem.W.Frag} (h : H a = some (.tup xs)) : SqT K H a xs := .inl (.inl h)
theorem Inv.list (I : Inv X pins σ H s) (h : SqL X.K H a xs) : ∃ its : List Value, Zei xs its /\ PlainL s.heap a its.toArray /\ xs.length <= sizeLine := by
 rcases h with h | ⟨o, its, n, hk, hc, hd, hs, hz, r⟩
 ·obtain ⟨z, its, n, r, e⟩ := h.ok I.hok
  exact ⟨its, r, ⟨_, n, e, rfl, rfl, rfl⟩, z⟩
 ·refine ⟨its.toList, r, ⟨o, n, I.kIn a o hk, hc, hd, by simpa using hs⟩, ?_⟩
  have e := r.length
  simp only [Zc7] at e
  omega
theorem Inv.tuple (I : Inv X pins σ H s) (h : SqT X.K H a xs) : ∃ its : List Value, Zei xs its /\ IsTup s.heap a its.toArray /\ xs.length <= sizeLine := by
 rcases h with h | ⟨o, its, n, hk, hc, hs, hz, r⟩
 ·obtain ⟨z, its, r, p⟩ := h.ok I.hok
  exact ⟨its, r, p.tup, z⟩
 ·refine ⟨its.toList, r, ⟨o, I.kIn a o hk, hc, n, by simpa using hs⟩, ?_⟩
  have e := r.length
  simp only [Zc7] at e
  omega
theorem Inv.list_inj (I : Inv X pins σ H s) (h : SqL X.K H a xs) (h' : SqL X.K H a ys) : xs = ys := by
 obtain ⟨its, r, ⟨o, n, e, _, _, d⟩, _⟩ := I.list h
 obtain ⟨its', r', ⟨o', n', e', _, _, d'⟩, _⟩ := I.list h'
 rw [e] at e'; cases e'
 rw [d] at d'
 injection d' with d1 _
 have : its = its' := by simpa using congrArg Array.toList d1
 subst this
 exact r.inj r'
theorem Inv.tuple_inj (I : Inv X pins σ H s) (h : SqT X.K H a xs) (h' : SqT X.K H a ys) : xs = ys := by
 obtain ⟨its, r, ⟨o, e, _, n, d⟩, _⟩ := I.tuple h
 obtain ⟨its', r', ⟨o', e', _, n', d'⟩, _⟩ := I.tuple h'
 rw [e] at e'; cases e'
 rw [d] at d'
 injection d' with d1 _
 have : its = its' := by simpa using congrArg Array.toList d1
 subst this
 exact r.inj r'
end
noncomputable abbrev Cx.wish (X : Cx) (E : Value -> Shared -> Prop) : Cx := { X with xe := E }
noncomputable abbrev Cx.nox (X : Cx) : Cx := X.wish fun _ _ => False
theorem Cx.Ok.wish {X : Cx} (ok : X.Ok) (E : Value -> Shared -> Prop) : (X.wish E).Ok :=
 ⟨ok.mod, ok.kind, ok.glob, ok.blt, ok.above, ok.inj, ok.has, ok.cab, ok.hd, ok.frames, ok.stk, ok.exf, ok.bs, ok.bsz, ok.noex, ok.exfs, ok.funs, ok.frf⟩
theorem Cx.Ok.unwish {X : Cx} {E : Value -> Shared -> Prop} (ok : (X.wish E).Ok) : X.Ok :=
 ⟨ok.mod, ok.kind, ok.glob, ok.blt, ok.above, ok.inj, ok.has, ok.cab, ok.hd, ok.frames, ok.stk, ok.exf, ok.bs, ok.bsz, ok.noex, ok.exfs, ok.funs, ok.frf⟩
section
variable {X : Cx} {pins : List (Addr × Obj)} {σ : St} {H : Hp} {s : Shared} {E : Value -> Shared -> Prop}
theorem Inv.wish (I : Inv X pins σ H s) (E : Value -> Shared -> Prop) : Inv (X.wish E) pins σ H s := ⟨I.ok.wish E, I.os, I.bare, I.base, I.loc, I.cell, I.free, I.freeC, I.pin, I.hok, I.len⟩
theorem Inv.unwish (I : Inv (X.wish E) pins σ H s) : Inv X pins σ H s := ⟨I.ok.unwish, I.os, I.bare, I.base, I.loc, I.cell, I.free, I.freeC, I.pin, I.hok, I.len⟩
theorem SP.unwish {D : ZfS} {f : Flow} {s' : Shared} (h : SP (X.wish E) pins D f s') : SP X pins D f s' := by
 cases f with
 | next => obtain ⟨σ', H', I, q⟩ := h; exact ⟨σ', H', I.unwish, q⟩
 | brk => obtain ⟨σ', H', I, q⟩ := h; exact ⟨σ', H', I.unwish, q⟩
 | cont => obtain ⟨σ', H', I, q⟩ := h; exact ⟨σ', H', I.unwish, q⟩
 | ret u => obtain ⟨v, σ', H', I, r, q⟩ := h; exact ⟨v, σ', H', I.unwish, r, q⟩
theorem PSs.nox {st : List Stmt} {t : TS} (h : PSs X.nox st t) : PSs X st t := fun pins s σ H D I hw =>
 wpAny_mono (h pins s σ H D (I.wish _) hw) (fun _ _ q => q.unwish) fun _ _ z => False.elim z
end
section
variable {X : Cx} {st : Stmt} {rest : List Stmt} {t u : TS} {e : Expr} {te : TE} {pos : Pos}
def ZgW : TS := fun D σ H => D.nx σ H
def Zjs (t u : TS) : TS := fun D σ H => t { D with nx := u D } σ H
theorem ZdI : PSs X [] ZgW := fun _ _ σ H _ I h => wpAny_execs_nil ⟨σ, H, I, h⟩
theorem Zdo (h1 : PS X st t) (h2 : PSs X rest u) : PSs X (st :: rest) (Zjs t u) := by
 intro pins s σ H D I h
 refine wpAny_execs_cons (thn (h1 pins s σ H { D with nx := u D } I h) fun f s1 q => ?_)
 cases f with
 | next =>
  obtain ⟨σ', H', I', q⟩ := q
  exact h2 pins s1 σ' H' D I' q
 | ret v => exact q
 | brk => exact q
 | cont => exact q
theorem Zdu (h1 : PS X st t) : PSs X [st] t := by
 intro pins s σ H D I h
 refine wpAny_execs_cons (thn (h1 pins s σ H D I h) fun f s1 q => ?_)
 cases f with
 | next => exact wpAny_execs_nil q
 | ret v => exact q
 | brk => exact q
 | cont => exact q
def Zpo : TS := fun D σ H => D.bk σ H
theorem ZmH : PS X (.Break pos) Zpo := fun _ _ σ H _ I h => wpAny_Break ⟨σ, H, I, h⟩
theorem Inv.quiet {pins : List (Addr × Obj)} {σ : St} {H : Hp} {s : Shared} (I : Inv X pins σ H s) : interactive X.env = false := by simp [interactive, I.ok.kind]
def Zpp (te : TE) : TS := fun D σ H => te σ H fun _ H1 => D.nx σ H1
theorem Zd6 (he : PE X e te) (hs : autoParam (swapsWith e none pos.line X.env = pure false) L2.Internal.auR._auto_1) : PS X (.Expr e pos) (Zpp te) := by
 intro pins s σ H D I h
 exact wpAny_Expr_any (thn (he pins s σ H _ I h) fun v s1 ⟨x, H1, I1, r1, q1⟩ => ⟨σ, H1, I1, q1⟩) I.quiet hs
def ZqG (te : TE) : TS := fun D σ H => te σ H D.rt
theorem ZdL (he : PE X e te) : PS X (.Return (some e) pos) (ZqG te) := by
 intro pins s σ H D I h
 exact wpAny_Return_some (thn (he pins s σ H _ I h) fun v s1 ⟨x, H1, I1, r1, q1⟩ => ⟨x, σ, H1, I1, r1, q1⟩)
def ZiL (c : TT) (t u : TS) : TS := fun D σ H => c σ H fun b H1 => if b = true then t D σ H1 else u D σ H1
theorem Zd0 {c : Expr} {a b : List Stmt} {tc : TT} (hc : PT X c tc) (ha : PSs X a t) (hb : PSs X b u) : PS X (.If c a b pos) (ZiL tc t u) := by
 intro pins s σ H D I h
 refine wpAny_If (thn (hc pins s σ H _ I h) fun d s1 ⟨H1, I1, q1⟩ => ?_)
 cases d with
 | true => exact ha pins s1 σ H1 D I1 q1
 | false => exact hb pins s1 σ H1 D I1 q1
def Zpq : TS := fun _ _ _ => False
theorem ZmI : PS X st Zpq := fun _ _ _ _ _ _ h => h.elim
end
noncomputable abbrev TG := V -> St -> Hp -> (St -> Hp -> Prop) -> Prop
noncomputable abbrev TGs := List V -> St -> Hp -> (St -> Hp -> Prop) -> Prop
def PG (X : Cx) (target : Expr) (t : TG) : Prop :=
 ∀ (pins : List (Addr × Obj)) (s : Shared) (σ : St) (H : Hp) (v : V) (u : Value) (Q : St -> Hp -> Prop), Inv X pins σ H s -> ZeB v u -> t v σ H Q ->
  wpAny (model X.prog X.w) X.A (assign target X.env u) (fun _ s' => ∃ σ' H', Inv X pins σ' H' s' /\ Q σ' H') X.xe s
def PGs (X : Cx) (ts : List Expr) (t : TGs) : Prop :=
 ∀ (pins : List (Addr × Obj)) (s : Shared) (σ : St) (H : Hp) (vs : List V) (us : List Value) (Q : St -> Hp -> Prop), Inv X pins σ H s -> Zei vs us -> t vs σ H Q ->
  wpAny (model X.prog X.w) X.A (assignInOrder ((assignEach ts X.env).map (·.2)) us) (fun _ s' => ∃ σ' H', Inv X pins σ' H' s' /\ Q σ' H') X.xe s
noncomputable abbrev ZqP := V -> V -> V -> Hp -> (Hp -> Prop) -> Prop
def Zry (X : Cx) (t : ZqP) : Prop :=
 ∀ (pins : List (Addr × Obj)) (s : Shared) (σ : St) (H : Hp) (o i v : V) (ov iv u : Value) (Q : Hp -> Prop), Inv X pins σ H s -> ZeB o ov -> ZeB i iv -> ZeB v u -> t o i v H Q ->
  wpAny (model X.prog X.w) X.A (setItem ov iv u) (fun _ s' => ∃ H', Inv X pins σ H' s' /\ Q H') X.xe s
section
variable {X : Cx} {pos : Pos}
def Zd1 (i : Nat) : TG := fun v σ H Q => Q (σ.set i (some v)) H
theorem ZdQ {i : Nat} {x : Str} (hN : X.N.Nodup) (hi : X.N[i]? = some x) (hx : Loc X.env.scope x) (hf : autoParam (X.fn x = true \/ X.env.scope.names.lookup x = some .local) L2.Internal.auL._auto_1) : PG X (.Name x pos) (Zd1 i) := by
 intro pins s σ H v u Q I r h
 exact wpAny_assign_Name (ZfJ I hN hi hx r (fun s' I' => ⟨_, H, I', h⟩) hf)
def ZqH : TGs := fun vs σ H Q => vs = [] /\ Q σ H
def Zjx (t : TG) (u : TGs) : TGs := fun vs σ H Q => ∃ v r, vs = v :: r /\ t v σ H fun σ' H' => u r σ' H' Q
theorem ZfF : PGs X [] ZqH := by
 intro pins s σ H vs us Q I r h
 obtain ⟨e, h⟩ := h
 subst e
 cases r
 exact assignInOrder_nil ⟨σ, H, I, h⟩
theorem ZdY {e : Expr} {es : List Expr} {t : TG} {u : TGs} (h1 : PG X e t) (h2 : PGs X es u)
  (hs : autoParam ((assignEach (e :: es) X.env).map (·.2) = assign e X.env :: (assignEach es X.env).map (·.2)) L2.Internal.auR._auto_1) : PGs X (e :: es) (Zjx t u) := by
 intro pins s σ H vs us Q I r h
 obtain ⟨v, vr, e1, h⟩ := h
 subst e1
 cases r with
 | cons r rr =>
  rw [hs]
  refine assignInOrder_cons (thn (h1 pins s σ H _ _ _ I r h) fun _ s1 ⟨σ1, H1, I1, q1⟩ => ?_)
  exact h2 pins s1 σ1 H1 _ _ Q I1 rr q1
def ZqI (K : PySem.W.Frag) (n : Nat) (t : TGs) : TG := fun v σ H Q => ∃ a xs, v = .ref a /\ SqT K H a xs /\ xs.length = n /\ t xs σ H Q
theorem Zg3 {es : List Expr} {k : Nat} {t : TGs} {n : Nat} (hc : X.calm = true) (h : PGs X es t)
  (hn : autoParam ((assignEach es X.env).length = n) L2.Internal.auR._auto_1) (hst : autoParam ((assignEach es X.env).findIdx? (·.1) = none) L2.Internal.auR._auto_1) : PG X (.Tuple es k pos) (ZqI X.K n t) := by
 intro pins s σ H v u Q I r hw
 obtain ⟨a, xs, e1, hq, hl, hw⟩ := hw
 subst e1
 cases r
 obtain ⟨its, rv, ht, hz⟩ := I.tuple hq
 refine assign_Tuple_tuple (I.ok.hd hc) ht (by simp [hn, <- hl, rv.length]) hst fun h' hx => ?_
 have I1 : Inv X pins σ H { s with heap := h' } := I.kept (t' := s.toks) fun b o e => hx b o (ZbR (Zde e)) e
 exact h pins _ σ H xs _ Q I1 (by simpa using rv) hw
def gSub (to ti : TE) (t : ZqP) : TG := fun v σ H Q => to σ H fun o H1 => ti σ H1 fun i H2 => t o i v H2 fun H3 => Q σ H3
theorem Zk9 {o i : Expr} {to ti : TE} {t : ZqP} (ho : PE X o to) (hi : PE X i ti) (hs : Zry X t)
  (ha : ∀ v, assign (.Subscript o i pos) X.env v = (do
   let ov <- holding [v] (eval o X.env)
   let iv <- holding [v, ov] (eval i X.env)
   standAt pos
   holding [v, ov, iv] (setItem ov iv v)
   release [v, ov, iv] []) := by intro _; rfl) : PG X (.Subscript o i pos) (gSub to ti t) := by
 intro pins s σ H v u Q I r h
 rw [ha]
 refine wpAny_bind (wpAny_holding (thn (ho pins s σ H _ I h) fun ov s1 ⟨x, H1, I1, r1, q1⟩ => ?_))
 refine wpAny_bind (wpAny_holding (thn (hi pins s1 σ H1 _ I1 q1) fun iv s2 ⟨y, H2, I2, r2, q2⟩ => ?_))
 refine wpAny_bind (wpAny_standAt (wpAny_bind (wpAny_holding (thn (hs pins s2 σ H2 x y v ov iv u _ I2 r1 r2 r q2) fun _ s3 ⟨H3, I3, q3⟩ => ?_))))
 exact wpAny_release ⟨σ, H3, I3, q3⟩
def Zpe (te : TE) (g : TG) : TS := fun D σ H => te σ H fun x H1 => g x σ H1 D.nx
theorem ZiM {tg e : Expr} {te : TE} {g : TG} (he : PE X e te) (hg : PG X tg g) (hs : autoParam (swapsWithSole [tg] e pos.line X.env = pure false) L2.Internal.auR._auto_1) (hw : autoParam (swappedStores [tg] e X.env = pure none) L2.Internal.auR._auto_1)
  (h1 : autoParam ((assignEach [tg] X.env).map (·.2) = [assign tg X.env]) L2.Internal.auR._auto_1) : PS X (.Assign [tg] e pos) (Zpe te g) := by
 intro pins s σ H D I h
 refine wpAny_Assign_stores (thn (he pins s σ H _ I h) fun v s1 ⟨x, H1, I1, r1, q1⟩ => ?_) hs hw
 rw [h1]
 exact thn (hg pins s1 σ H1 x v _ I1 r1 q1) fun _ s2 q => q
theorem ZdE {i : Nat} {x : Str} {e : Expr} {te : TE} {pos' : Pos} (hN : X.N.Nodup) (hi : X.N[i]? = some x) (hx : Loc X.env.scope x) (he : PE X e te) (hs : autoParam (swapsWith e (some (.Name x pos')) pos.line X.env = pure false) L2.Internal.auR._auto_1) (hf : autoParam (X.fn x = true \/ X.env.scope.names.lookup x = some .local) L2.Internal.auL._auto_1) :
  PS X (.Assign [.Name x pos'] e pos) (Zpe te (Zd1 i)) := by
 intro pins s σ H D I h
 refine wpAny_Assign_Name (thn (he pins s σ H _ I h) fun v s1 ⟨y, H1, I1, r1, q1⟩ => ?_) hs
 exact ZfJ I1 hN hi hx r1 (fun s2 I2 => ⟨_, H1, I2, q1⟩) hf
end
section
variable {X : Cx} {pos : Pos}
def Zla (c : TT) (tb : TS) : TS := fun D σ H => ∃ W : Nat -> St -> Hp -> Prop, (∃ m, W m σ H) /\ ∀ m σ H, W m σ H ->
 c σ H fun b H1 => if b = true then ∃ N : St -> Hp -> Prop, (∀ σ' H', N σ' H' -> ∃ m', m' < m /\ W m' σ' H') /\ tb { D with nx := N, ct := N, bk := D.nx } σ H1 else D.nx σ H1
theorem Zj8 {c : Expr} {body : List Stmt} {tc : TT} {tb : TS} (hp : PassesOwn (model X.prog X.w) X.A X.env X.xe) (hc : PT X c tc) (hb : PSs X body tb) : PS X (.While c body [] pos) (Zla tc tb) := by
 intro pins s σ H D I h
 obtain ⟨W, ⟨m0, w0⟩, turn⟩ := h
 refine wpAny_While (codeAny_whileLoop (fun n s' => ∃ σ' H', Inv X pins σ' H' s' /\ W n σ' H') ?_ m0 ⟨σ, H, I, w0⟩)
 rintro n s1 ⟨σ1, H1, I1, w1⟩
 refine wpAny_passesOwn hp (thn (hc pins s1 σ1 H1 _ I1 (turn n σ1 H1 w1)) fun b s2 ⟨H2, I2, q2⟩ => ?_)
 cases b with
 | true =>
  obtain ⟨N, hN, q2⟩ := q2
  rw [if_pos rfl]
  refine wpAny_passesOwn hp (thn (hb pins s2 σ1 H2 _ I2 q2) fun f s3 q3 => ?_)
  cases f with
  | next =>
   obtain ⟨σ3, H3, I3, n3⟩ := q3
   obtain ⟨m', hm, w3⟩ := hN σ3 H3 n3
   exact ⟨m', hm, σ3, H3, I3, w3⟩
  | cont =>
   obtain ⟨σ3, H3, I3, n3⟩ := q3
   obtain ⟨m', hm, w3⟩ := hN σ3 H3 n3
   exact ⟨m', hm, σ3, H3, I3, w3⟩
  | brk => exact q3
  | ret v => exact q3
 | false =>
  rw [if_neg ZcY]
  exact wpAny_execs_nil ⟨σ1, H2, I2, q2⟩
end
structure It where
 go : Nat -> Hp -> Prop
 yld : Nat -> Hp -> V -> Hp -> Prop
 stop : Nat -> Hp -> Prop
def Zjy (X : Cx) (pins : List (Addr × Obj)) (H : Hp) (b : Addr) : Prop :=
 H b = none /\ b ≠ X.env.locals /\ b ∉ X.fs /\ (b ∈ X.ex \/ X.s₀.heap.objs.size <= b) /\ (∀ x c, X.env.cells.lookup x = some c -> c ≠ b) /\ ∀ p ∈ X.pn ++ pins, p.1 ≠ b
theorem Inv.fpOk {X : Cx} {pins : List (Addr × Obj)} {σ : St} {H H' : Hp} {s : Shared} {b : Addr} (I : Inv X pins σ H s) (hb : s.heap.objs.size <= b) (hn : H' b = none) : Zjy X pins H' b := by
 refine ⟨hn, ZbU (ZbP I.lt hb), I.nofs hb, .inr (ZbS I.sz hb), fun x c e z => ?_, fun p hp z => ?_⟩
 ·obtain ⟨v, q⟩ := I.cell x c e
  exact absurd (ZbP q.lt (by rw [z]; exact hb)) (ZbQ _)
 ·exact absurd (ZbP (Zde (I.pin p hp).1) (by rw [z]; exact hb)) (ZbQ _)
structure Znw (P : Program) (w : World) (K : PySem.W.Frag) (tg : Expr) (J : It) (fp : List Addr) (it : Addr) (tn : Nat -> Heap -> Prop) : Prop where
 mem : it ∈ fp
 obj : ∀ i h, tn i h -> ∀ b ∈ fp, ∃ o, h.get? b = some o /\ ∀ v, o.data ≠ .cell v
 keep : ∀ i h h', tn i h -> (∀ b ∈ fp, ∀ o, h.get? b = some o -> h'.get? b = some o) -> tn i h'
 item : ∀ (X : Cx), X.prog = P -> X.w = w -> X.K = K -> X.calm = true -> ∀ (i : Nat) (pins : List (Addr × Obj)) (s : Shared) (σ : St) (H : Hp) (E : Value -> Shared -> Prop), Inv X pins σ H s -> (∀ b ∈ fp, Zjy X pins H b) -> tn i s.heap -> J.go i H ->
  wpAny (model P w) X.A (pyNext (.ref it)) (fun r s1 => ∃ u, r = some u /\
   wpAny (model P w) X.A (letOwnedTupleGo tg (.ref it) u) (fun _ s2 => ∃ x H', Inv X pins σ H' s2 /\ ZeB x u /\ J.yld i H x H' /\ tn (i + 1) s2.heap /\ ∀ b ∈ fp, H' b = none) E s1) E s
 done : ∀ (X : Cx), X.prog = P -> X.w = w -> X.K = K -> X.calm = true -> ∀ (i : Nat) (pins : List (Addr × Obj)) (s : Shared) (σ : St) (H : Hp) (E : Value -> Shared -> Prop), Inv X pins σ H s -> (∀ b ∈ fp, Zjy X pins H b) -> tn i s.heap -> J.stop i H ->
  wpAny (model P w) X.A (pyNext (.ref it)) (fun r s1 => r = none /\ Inv X pins σ H s1) E s
 self : ∀ (A : Around) (i : Nat) (s : Shared) (Q : Value -> Shared -> Prop) (E : Value -> Shared -> Prop), tn i s.heap -> Q (.ref it) s -> wpAny (model P w) A (pyIter (.ref it)) Q E s
noncomputable abbrev TI := St -> Hp -> (It -> Hp -> Prop) -> Prop
def PIE (X : Cx) (pins : List (Addr × Obj)) (σ : St) (tg : Expr) (R : It -> Hp -> Prop) (itv : Value) (s2 : Shared) : Prop :=
 ∃ (it : Addr) (fp : List Addr) (tn : Nat -> Heap -> Prop) (J : It) (H' : Hp), itv = .ref it /\ Inv X pins σ H' s2 /\ Znw X.prog X.w X.K tg J fp it tn /\ tn 0 s2.heap /\ (∀ b ∈ fp, Zjy X pins H' b) /\ R J H'
def PI (X : Cx) (tg iter : Expr) (wi : TI) : Prop :=
 ∀ (pins : List (Addr × Obj)) (s : Shared) (σ : St) (H : Hp) (R : It -> Hp -> Prop), Inv X pins σ H s -> wi σ H R ->
  wpAny (model X.prog X.w) X.A (eval iter X.env) (fun v s1 => wpAny (model X.prog X.w) X.A (pyIter v) (PIE X pins σ tg R) X.xe s1) X.xe s
theorem Zlb {M : Model} {A : Around} {E : Value -> Shared -> Prop} {s : Shared} {tg : Expr} {it : Addr} {u : Value} {o : Obj} {n : String} {vs : Array Value} {Q : Unit -> Shared -> Prop} (ho : s.heap.get? it = some o) (hc : o.cls = .type n) (hd : o.data = .fields vs)
  (hn : ["enumerate", "zip", "dict_itemiterator", "dict_reverseitemiterator", "odict_iterator", "itertools.zip_longest", "itertools.pairwise"].contains n = false) (hQ : Q () s) : wpAny M A (letOwnedTupleGo tg (.ref it) u) Q E s := by
 unfold letOwnedTupleGo
 cases tg <;> first
  | exact wpAny_pure hQ
  | (cases u <;> first
    | exact wpAny_pure hQ
    | (refine wpAny_bind (wpAny_load ho ?_)
       rw [hc, hd]
       show wpAny M A (if (["enumerate", "zip", "dict_itemiterator", "dict_reverseitemiterator", "odict_iterator", "itertools.zip_longest", "itertools.pairwise"].contains n && vs[0]? == some (rawInt _)) = true then _ else _) Q E s
       rw [if_neg (by intro h; rw [hn, Bool.false_and] at h; cases h)]
       exact wpAny_pure hQ))
noncomputable def Itl (K : PySem.W.Frag) (a : Addr) : It :=
 ⟨fun i H => ∃ xs x, SqL K H a xs /\ xs[i]? = some x, fun i H x H' => H' = H /\ ∀ xs, SqL K H a xs -> xs[i]? = some x, fun i H => ∃ xs, SqL K H a xs /\ xs.length <= i⟩
noncomputable def Itt (K : PySem.W.Frag) (a : Addr) : It :=
 ⟨fun i H => ∃ xs x, SqT K H a xs /\ xs[i]? = some x, fun i H x H' => H' = H /\ ∀ xs, SqT K H a xs -> xs[i]? = some x, fun i H => ∃ xs, SqT K H a xs /\ xs.length <= i⟩
noncomputable def Itr (lo : Int) (n : Nat) : It := ⟨fun i _ => i < n, fun i H x H' => H' = H /\ x = .int (lo + i), fun i _ => n <= i⟩
theorem Zlc {P : Program} {w : World} {K : PySem.W.Frag} {tg : Expr} (a it : Addr) : Znw P w K tg (Itl K a) [it] it (fun i h => h.IsListIter it a i) where
 mem := by simp
 obj := fun i h st b hb => by
  have e : b = it := by simpa using hb
  subst e
  obtain ⟨o, e, c, d⟩ := st
  exact ⟨o, e, fun v z => by rw [d] at z; cases z⟩
 keep := fun i h h' st k => st.at fun o e => k it (by simp) o e
 item := by
  intro X hP hw hK hc i pins s σ H E I hf st hg
  subst hP hw hK
  obtain ⟨xs, x, hq, hx⟩ := hg
  obtain ⟨its, rv, p, hz⟩ := I.list hq
  obtain ⟨u, hu, ru⟩ := rv.get hx
  obtain ⟨f0, f1, f2, f3, f4, f5⟩ := hf it (by simp)
  refine wpAny_pyNext_list_item st p.isList (x := u) (by simpa using hu) fun h' st' sb => ?_
  have I1 : Inv X pins σ H { s with heap := h' } := I.turned (t' := s.toks) (fun b o hb e => (sb.2 b hb).trans e) f0 f1 f3 f4 f5
  obtain ⟨o, e, c, d⟩ := id st'
  exact ⟨u, rfl, Zlb (s := { s with heap := h' }) e c d (by decide) ⟨x, H, I1, ru, ⟨rfl, fun ys hy => by rw [I.list_inj hy hq]; exact hx⟩, st', fun b hb => (hf b hb).1⟩⟩
 done := by
  intro X hP hw hK hc i pins s σ H E I hf st hg
  subst hP hw hK
  obtain ⟨xs, hq, hx⟩ := hg
  obtain ⟨its, rv, p, hz⟩ := I.list hq
  obtain ⟨f0, f1, f2, f3, f4, f5⟩ := hf it (by simp)
  have hl := rv.length
  exact wpAny_pyNext_list_end (I.ok.hd hc) st p.isList (by simp; omega) fun h' eb => ⟨rfl, I.turned (t' := s.toks) (fun b o hb e => eb b o hb e) f0 f1 f3 f4 f5⟩
 self := fun _ _ _ _ _ st h => wpAny_pyIter_listiter st h
theorem Zkz {P : Program} {w : World} {K : PySem.W.Frag} {tg : Expr} (a it : Addr) : Znw P w K tg (Itt K a) [it] it (fun i h => h.IsTupleIter it a i) where
 mem := by simp
 obj := fun i h st b hb => by
  have e : b = it := by simpa using hb
  subst e
  obtain ⟨o, e, c, d⟩ := st
  exact ⟨o, e, fun v z => by rw [d] at z; cases z⟩
 keep := fun i h h' st k => st.at fun o e => k it (by simp) o e
 item := by
  intro X hP hw hK hc i pins s σ H E I hf st hg
  subst hP hw hK
  obtain ⟨xs, x, hq, hx⟩ := hg
  obtain ⟨its, rv, p, hz⟩ := I.tuple hq
  obtain ⟨u, hu, ru⟩ := rv.get hx
  obtain ⟨f0, f1, f2, f3, f4, f5⟩ := hf it (by simp)
  refine wpAny_pyNext_tuple_item st (show s.heap.IsTuple a its.toArray from p) (x := u) (by simpa using hu) fun h' st' sb => ?_
  have I1 : Inv X pins σ H { s with heap := h' } := I.turned (t' := s.toks) (fun b o hb e => (sb.2 b hb).trans e) f0 f1 f3 f4 f5
  obtain ⟨o, e, c, d⟩ := id st'
  exact ⟨u, rfl, Zlb (s := { s with heap := h' }) e c d (by decide) ⟨x, H, I1, ru, ⟨rfl, fun ys hy => by rw [I.tuple_inj hy hq]; exact hx⟩, st', fun b hb => (hf b hb).1⟩⟩
 done := by
  intro X hP hw hK hc i pins s σ H E I hf st hg
  subst hP hw hK
  obtain ⟨xs, hq, hx⟩ := hg
  obtain ⟨its, rv, p, hz⟩ := I.tuple hq
  obtain ⟨f0, f1, f2, f3, f4, f5⟩ := hf it (by simp)
  have hl := rv.length
  exact wpAny_pyNext_tuple_end (I.ok.hd hc) st (show s.heap.IsTuple a its.toArray from p) (by simp; omega) fun h' eb => ⟨rfl, I.turned (t' := s.toks) (fun b o hb e => eb b o hb e) f0 f1 f3 f4 f5⟩
 self := fun _ _ _ _ _ st h => wpAny_pyIter_tupleiter st h
theorem ZkA {P : Program} {w : World} {K : PySem.W.Frag} {tg : Expr} (it : Addr) (lo : Int) (n : Nat) : Znw P w K tg (Itr lo n) [it] it (fun i h => IsRangeIter h it (lo + (i : Nat) * 1) ((n : Int) - (i : Nat)) 1) where
 mem := by simp
 obj := fun i h st b hb => by
  have e : b = it := by simpa using hb
  subst e
  exact ⟨_, st, fun v z => by
   have z' : Data.fields _ = Data.cell v := z
   cases z'⟩
 keep := fun i h h' st k => k it (by simp) _ st
 item := by
  intro X hP hw hK hc i pins s σ H E I hf st hg
  subst hP hw hK
  obtain ⟨f0, f1, f2, f3, f4, f5⟩ := hf it (by simp)
  have W := Walks.range (prog := X.prog) (w := X.w) (I.ok.hd hc) it lo 1 n
  refine W.item i s _ _ hg st fun v h' tk hv st' kk => ?_
  obtain ⟨t, rfl⟩ := hv
  have I1 : Inv X pins σ H { s with heap := h', toks := tk } := I.turned (fun b o hb e => kk b o (by simpa using hb) e) f0 f1 f3 f4 f5
  refine ⟨_, rfl, Zlb (s := { s with heap := h', toks := tk }) (n := "range_iterator") st' rfl rfl (by decide) ⟨.int (lo + i), H, I1, ⟨t, ?_⟩, ⟨rfl, rfl⟩, st', fun b hb => (hf b hb).1⟩⟩
  rw [Int.mul_one]
 done := by
  intro X hP hw hK hc i pins s σ H E I hf st hg
  subst hP hw hK
  obtain ⟨f0, f1, f2, f3, f4, f5⟩ := hf it (by simp)
  exact wpAny_pyNext_range_end (I.ok.hd hc) st (by have : n <= i := hg; omega) fun h' eb => ⟨rfl, I.turned (t' := s.toks) (fun b o hb e => eb b o hb e) f0 f1 f3 f4 f5⟩
 self := fun _ _ _ _ _ st h => wpAny_pyIter_rangeiter st h
end L2.Internal
namespace L2.Internal
open PySem PySem.Spec PyProof.Rows
section
variable {X : Cx} {tg : Expr}
def ZqQ (K : PySem.W.Frag) (tl : TE) : TI := fun σ H R => tl σ H fun x H1 => ∃ a, x = .ref a /\ (∃ xs, SqL K H1 a xs) /\ R (Itl K a) H1
def iTup (K : PySem.W.Frag) (tl : TE) : TI := fun σ H R => tl σ H fun x H1 => ∃ a, x = .ref a /\ (∃ xs, SqT K H1 a xs) /\ R (Itt K a) H1
theorem Zfo {l : Expr} {tl : TE} (hl : PE X l tl) : PI X tg l (ZqQ X.K tl) := by
 intro pins s σ H R I h
 refine thn (hl pins s σ H _ I h) fun v s1 ⟨x, H1, I1, r1, q1⟩ => ?_
 obtain ⟨a, e, ⟨xs, hq⟩, q⟩ := q1
 subst e
 cases r1
 obtain ⟨its, rv, p, hz⟩ := I1.list hq
 refine wpAny_pyIter_list p.isList ?_
 refine ⟨s1.heap.objs.size, [s1.heap.objs.size], _, _, H1, rfl, I1.kept (t' := s1.toks) fun b o e => Zdh _ e, Zlc a _, ⟨_, Zdf _ rfl, rfl, rfl⟩, fun b hb => ?_, q⟩
 have e : b = s1.heap.objs.size := by simpa using hb
 subst e
 exact I1.fpOk (ZbV _) (I1.hok.fresh (ZbV _))
theorem Zj9 {l : Expr} {tl : TE} (hl : PE X l tl) : PI X tg l (iTup X.K tl) := by
 intro pins s σ H R I h
 refine thn (hl pins s σ H _ I h) fun v s1 ⟨x, H1, I1, r1, q1⟩ => ?_
 obtain ⟨a, e, ⟨xs, hq⟩, q⟩ := q1
 subst e
 cases r1
 obtain ⟨its, rv, p, hz⟩ := I1.tuple hq
 refine wpAny_pyIter_tuple (show s1.heap.IsTuple a its.toArray from p) ?_
 refine ⟨s1.heap.objs.size, [s1.heap.objs.size], _, _, H1, rfl, I1.kept (t' := s1.toks) fun b o e => Zdh _ e, Zkz a _, ⟨_, Zdf _ rfl, rfl, rfl⟩, fun b hb => ?_, q⟩
 have e : b = s1.heap.objs.size := by simpa using hb
 subst e
 exact I1.fpOk (ZbV _) (I1.hok.fresh (ZbV _))
theorem ZmJ {pins : List (Addr × Obj)} {σ : St} {H : Hp} {s : Shared} {R : It -> Hp -> Prop} {E : Value -> Shared -> Prop} {lo hi : Int} {t u v : Tok} {tk : Nat} (I : Inv X pins σ H s) (h1 : -(2 ^ 62) <= lo) (h2 : lo < 2 ^ 62) (h3 : -(2 ^ 62) <= hi) (h4 : hi < 2 ^ 62)
  (q : R (Itr lo (hi - lo).toNat) H) : wpAny (model X.prog X.w) X.A (pyIter (.ref s.heap.objs.size)) (PIE X pins σ tg R) E { s with heap := s.heap.push { cls := .type "range", data := .fields #[.int lo t, .int hi u, .int 1 v] }, toks := tk } := by
 refine wpAny_pyIter_range (IsRange.new ..) (small_one h1 h2 h3 h4) ?_
 have I1 : Inv X pins σ H { s with heap := s.heap.push { cls := .type "range", data := .fields #[.int lo t, .int hi u, .int 1 v] }, toks := tk } := I.kept fun b o e => Zdh _ e
 refine ⟨(s.heap.push { cls := .type "range", data := .fields #[.int lo t, .int hi u, .int 1 v] }).objs.size, [(s.heap.push { cls := .type "range", data := .fields #[.int lo t, .int hi u, .int 1 v] }).objs.size], _, _, H, rfl,
  I1.kept (t' := tk) fun b o e => Zdh _ e, ZkA _ lo (hi - lo).toNat, ?_, fun b hb => ?_, q⟩
 ·have e1 : lo + ((0 : Nat) : Int) * 1 = lo := by simp
  have e2 : (((hi - lo).toNat : Nat) : Int) - ((0 : Nat) : Int) = Builtin.Range.rangeSize lo hi 1 := by rw [rangeSize_one]; split <;> omega
  show IsRangeIter _ _ (lo + ((0 : Nat) : Int) * 1) ((((hi - lo).toNat : Nat) : Int) - ((0 : Nat) : Int)) 1
  rw [e1, e2]
  exact Zdf _ rfl
 ·have e : b = (s.heap.push { cls := .type "range", data := .fields #[.int lo t, .int hi u, .int 1 v] }).objs.size := by simpa using hb
  subst e
  exact I1.fpOk (ZbV _) (I1.hok.fresh (ZbV _))
def ZqR (ta : TA) : TI := fun σ H R => ta σ H fun vs H1 => ∃ j : Int, vs = [.int j] /\ -(2 ^ 62) <= j /\ j < 2 ^ 62 /\ R (Itr 0 j.toNat) H1
theorem Zeu {a : Expr} {ta : TA} {p pos : Pos} (hg : Gl X "range") (hm : X.mg "range" = none) (ha : PA X [a] ta) (hs : autoParam (starEach [a] X.env = [(false, eval a X.env)]) L2.Internal.auR._auto_1) : PI X tg (.Call (.Name "range" p) [a] [] pos) (ZqR ta) := by
 intro pins s σ H R I h
 refine Call_ (ZfT I hg hm boot_range (Zdl (thn (ha pos pins s σ H _ I h) fun us s1 ⟨vs, H1, I1, r1, q1⟩ => ?_) hs rfl))
 obtain ⟨j, e, q1, q2, q⟩ := q1
 subst e
 cases r1 with
 | cons r rr =>
  cases rr
  obtain ⟨t, rfl⟩ := r
  exact call_range_1 (ZmJ I1 (by omega) (by omega) q1 q2 (by simpa using q))
def tFor (wi : TI) (g : TG) (tb : TS) : TS := fun D σ H => wi σ H fun J H1 => ∃ W : Nat -> Nat -> St -> Hp -> Prop, (∃ m, W 0 m σ H1) /\ ∀ i m σ H, W i m σ H ->
 (J.stop i H /\ D.nx σ H) \/ (J.go i H /\ ∃ N : St -> Hp -> Prop, (∀ σ' H', N σ' H' -> ∃ m', m' < m /\ W (i + 1) m' σ' H') /\ ∀ x H', J.yld i H x H' -> g x σ H' fun σ2 H2 => tb { D with nx := N, ct := N, bk := D.nx } σ2 H2)
noncomputable def Zhl (fp : List Addr) (h : Heap) : List (Addr × Obj) := fp.filterMap fun b => (h.get? b).map fun o => (b, o)
theorem Ze1 {fp : List Addr} {h : Heap} {b : Addr} {o : Obj} (hb : b ∈ fp) (e : h.get? b = some o) : (b, o) ∈ Zhl fp h := Zam.mpr ⟨b, hb, by rw [e]; rfl⟩
theorem Zld {fp : List Addr} {h : Heap} {p : Addr × Obj} (hp : p ∈ Zhl fp h) : p.1 ∈ fp /\ h.get? p.1 = some p.2 := by
 obtain ⟨b, hb, e⟩ := Zam.mp hp
 cases q : h.get? b with
 | none => rw [q] at e; cases e
 | some o =>
  rw [q] at e
  have e' : (b, o) = p := Zb4.inj e
  subst e'
  exact ⟨hb, q⟩
theorem Inv.pinned {pins : List (Addr × Obj)} {σ : St} {H : Hp} {s : Shared} {fp : List Addr} (I : Inv X pins σ H s) (hf : ∀ b ∈ fp, Zjy X pins H b) (ho : ∀ b ∈ fp, ∃ o, s.heap.get? b = some o /\ ∀ v, o.data ≠ .cell v) : Inv X (pins ++ Zhl fp s.heap) σ H s :=
 I.pins_of fun p hp => (Zah.mp hp).elim (fun z => I.pin p (Zan _ z)) fun z => by
  obtain ⟨hb, e⟩ := Zld z
  obtain ⟨f0, f1, f2, _⟩ := hf p.1 hb
  obtain ⟨o, e', d⟩ := ho p.1 hb
  rw [e] at e'; cases e'
  exact ⟨e, f0, f1, f2, d⟩
theorem Inv.unpinned {pins pl : List (Addr × Obj)} {σ : St} {H : Hp} {s : Shared} (I : Inv X (pins ++ pl) σ H s) : Inv X pins σ H s := I.pins_of fun p hp => I.pin p (Zan _ (Zai _ hp))
theorem Zfa {iter : Expr} {body : List Stmt} {wi : TI} {g : TG} {tb : TS} {pos : Pos} (hp : PassesOwn (model X.prog X.w) X.A X.env X.xe) (hc : X.calm = true) (hi : PI X tg iter wi) (hg : PG X tg g) (hb : PSs X body tb)
  (hs : autoParam (∀ x, foldedSetIterable iter X.env x = pure x) L2.Internal.auI._auto_1) : PS X (.For tg iter body [] pos) (tFor wi g tb) := by
 intro pins s σ H D I h
 refine wpAny_For (thn (hi pins s σ H _ I h) fun v s1 h1 => thn h1 fun itv s2 h2 => ?_) hs
 obtain ⟨it, fp, tn, J, H2, e, I2, T, st2, f2, W, ⟨m0, w0⟩, turn⟩ := h2
 subst e
 have stat : ∀ {H' : Hp}, (∀ b ∈ fp, H' b = none) -> ∀ b ∈ fp, Zjy X pins H' b := fun hn b hb => ⟨hn b hb, (f2 b hb).2⟩
 refine codeAny_forLoop_any (fun n s' => ∃ i σ' H', Inv X pins σ' H' s' /\ tn i s'.heap /\ (∀ b ∈ fp, H' b = none) /\ W i n σ' H') ?_ m0 ⟨0, σ, H2, I2, st2, fun b hb => (f2 b hb).1, w0⟩
 rintro n s3 ⟨i, σ3, H3, I3, st3, fr3, w3⟩
 rcases turn i n σ3 H3 w3 with ⟨stop, qn⟩ | ⟨go, N, hN, step⟩
 ·refine wpAny_passesOwn hp (thn (T.done X rfl rfl rfl hc i pins s3 σ3 H3 X.xe I3 (stat fr3) st3 stop) fun r s4 ⟨hr, I4⟩ => ?_)
  subst hr
  exact wpAny_execs_nil ⟨σ3, H3, I4, qn⟩
 ·refine wpAny_passesOwn hp (thn (T.item X rfl rfl rfl hc i pins s3 σ3 H3 X.xe I3 (stat fr3) st3 go) fun r s4 ⟨u, hr, h4⟩ => ?_)
  subst hr
  refine wpAny_passesOwn hp (thn h4 fun _ s5 ⟨x, H5, I5, r5, y5, st5, fr5⟩ => ?_)
  have I5' := I5.pinned (stat fr5) (T.obj _ _ st5)
  refine wpAny_passesOwn hp (thn (hg _ s5 σ3 H5 x u _ I5' r5 (step x H5 y5)) fun _ s6 ⟨σ6, H6, I6, q6⟩ => ?_)
  refine wpAny_passesOwn hp (thn (hb _ s6 σ6 H6 _ I6 q6) fun f s7 q7 => ?_)
  have again : ∀ {σ7 : St} {H7 : Hp}, Inv X (pins ++ Zhl fp s5.heap) σ7 H7 s7 -> N σ7 H7 -> ∃ m, m < n /\ ∃ i σ' H', Inv X pins σ' H' s7 /\ tn i s7.heap /\ (∀ b ∈ fp, H' b = none) /\ W i m σ' H' := fun {σ7 H7} I7 n7 => by
   obtain ⟨m', hm, w7⟩ := hN σ7 H7 n7
   refine ⟨m', hm, i + 1, σ7, H7, I7.unpinned, T.keep _ _ _ st5 fun b hb o e => (I7.pin (b, o) (Zan _ (Zan _ (Ze1 hb e)))).1, fun b hb => ?_, w7⟩
   obtain ⟨o, e, d⟩ := T.obj _ _ st5 b hb
   exact (I7.pin (b, o) (Zan _ (Zan _ (Ze1 hb e)))).2.1
  cases f with
  | next => obtain ⟨σ7, H7, I7, n7⟩ := q7; exact again I7 n7
  | cont => obtain ⟨σ7, H7, I7, n7⟩ := q7; exact again I7 n7
  | brk => obtain ⟨σ7, H7, I7, q7⟩ := q7; exact ⟨σ7, H7, I7.unpinned, q7⟩
  | ret v => obtain ⟨x7, σ7, H7, I7, r7, q7⟩ := q7; exact ⟨x7, σ7, H7, I7.unpinned, r7, q7⟩
end
theorem ZfK {K : PySem.W.Frag} {a : Addr} {xs : List V} {g : TG} {tb : TS} {D : ZfS} {σ : St} {H : Hp} (Pv : Nat -> St -> Hp -> Prop) (h0 : Pv 0 σ H) (hl : ∀ i σ H, i <= xs.length -> Pv i σ H -> SqL K H a xs)
  (hs : ∀ i x σ H, xs[i]? = some x -> Pv i σ H -> g x σ H fun σ2 H2 => tb { D with nx := Pv (i + 1), ct := Pv (i + 1), bk := D.nx } σ2 H2) (hd : ∀ σ H, Pv xs.length σ H -> D.nx σ H) :
  ∃ W : Nat -> Nat -> St -> Hp -> Prop, (∃ m, W 0 m σ H) /\ ∀ i m σ H, W i m σ H ->
   ((Itl K a).stop i H /\ D.nx σ H) \/ ((Itl K a).go i H /\ ∃ N : St -> Hp -> Prop, (∀ σ' H', N σ' H' -> ∃ m', m' < m /\ W (i + 1) m' σ' H') /\ ∀ x H', (Itl K a).yld i H x H' -> g x σ H' fun σ2 H2 => tb { D with nx := N, ct := N, bk := D.nx } σ2 H2) := by
 refine ⟨fun i m σ H => m = xs.length - i /\ i <= xs.length /\ Pv i σ H, ⟨xs.length, by simp, ZbW _, h0⟩, ?_⟩
 rintro i m σ H ⟨rfl, hi, p⟩
 have q := hl i σ H hi p
 by_cases hlt : i < xs.length
 ·refine .inr ⟨⟨xs, xs[i], q, by simp [hlt]⟩, Pv (i + 1), fun σ' H' p' => ⟨xs.length - (i + 1), by omega, rfl, hlt, p'⟩, fun x H' y => ?_⟩
  obtain ⟨e, y⟩ := y
  subst e
  exact hs i x σ _ (y xs q) p
 ·have e : i = xs.length := by omega
  subst e
  exact .inl ⟨⟨xs, q, ZbV _⟩, hd σ H p⟩
theorem Zle {K : PySem.W.Frag} {a : Addr} {xs : List V} {g : TG} {tb : TS} {D : ZfS} {σ : St} {H : Hp} (Pv : Nat -> St -> Hp -> Prop) (h0 : Pv 0 σ H) (hl : ∀ i σ H, i <= xs.length -> Pv i σ H -> SqT K H a xs)
  (hs : ∀ i x σ H, xs[i]? = some x -> Pv i σ H -> g x σ H fun σ2 H2 => tb { D with nx := Pv (i + 1), ct := Pv (i + 1), bk := D.nx } σ2 H2) (hd : ∀ σ H, Pv xs.length σ H -> D.nx σ H) :
  ∃ W : Nat -> Nat -> St -> Hp -> Prop, (∃ m, W 0 m σ H) /\ ∀ i m σ H, W i m σ H ->
   ((Itt K a).stop i H /\ D.nx σ H) \/ ((Itt K a).go i H /\ ∃ N : St -> Hp -> Prop, (∀ σ' H', N σ' H' -> ∃ m', m' < m /\ W (i + 1) m' σ' H') /\ ∀ x H', (Itt K a).yld i H x H' -> g x σ H' fun σ2 H2 => tb { D with nx := N, ct := N, bk := D.nx } σ2 H2) := by
 refine ⟨fun i m σ H => m = xs.length - i /\ i <= xs.length /\ Pv i σ H, ⟨xs.length, by simp, ZbW _, h0⟩, ?_⟩
 rintro i m σ H ⟨rfl, hi, p⟩
 have q := hl i σ H hi p
 by_cases hlt : i < xs.length
 ·refine .inr ⟨⟨xs, xs[i], q, by simp [hlt]⟩, Pv (i + 1), fun σ' H' p' => ⟨xs.length - (i + 1), by omega, rfl, hlt, p'⟩, fun x H' y => ?_⟩
  obtain ⟨e, y⟩ := y
  subst e
  exact hs i x σ _ (y xs q) p
 ·have e : i = xs.length := by omega
  subst e
  exact .inl ⟨⟨xs, q, ZbV _⟩, hd σ H p⟩
theorem Zhm {lo : Int} {n : Nat} {g : TG} {tb : TS} {D : ZfS} {σ : St} {H : Hp} (Pv : Nat -> St -> Hp -> Prop) (h0 : Pv 0 σ H)
  (hs : ∀ i σ H, i < n -> Pv i σ H -> g (.int (lo + i)) σ H fun σ2 H2 => tb { D with nx := Pv (i + 1), ct := Pv (i + 1), bk := D.nx } σ2 H2) (hd : ∀ σ H, Pv n σ H -> D.nx σ H) :
  ∃ W : Nat -> Nat -> St -> Hp -> Prop, (∃ m, W 0 m σ H) /\ ∀ i m σ H, W i m σ H ->
   ((Itr lo n).stop i H /\ D.nx σ H) \/ ((Itr lo n).go i H /\ ∃ N : St -> Hp -> Prop, (∀ σ' H', N σ' H' -> ∃ m', m' < m /\ W (i + 1) m' σ' H') /\ ∀ x H', (Itr lo n).yld i H x H' -> g x σ H' fun σ2 H2 => tb { D with nx := N, ct := N, bk := D.nx } σ2 H2) := by
 refine ⟨fun i m σ H => m = n - i /\ i <= n /\ Pv i σ H, ⟨n, by simp, ZbW _, h0⟩, ?_⟩
 rintro i m σ H ⟨rfl, hi, p⟩
 by_cases hlt : i < n
 ·refine .inr ⟨hlt, Pv (i + 1), fun σ' H' p' => ⟨n - (i + 1), by omega, rfl, hlt, p'⟩, fun x H' y => ?_⟩
  obtain ⟨e, y⟩ := y
  subst e y
  exact hs i σ _ hlt p
 ·have e : i = n := by omega
  subst e
  exact .inl ⟨ZbV _, hd σ H p⟩
end L2.Internal
namespace L2.Internal
open PySem PySem.Spec PyProof.Rows
noncomputable abbrev R2 := V -> V -> Hp -> VK -> Prop
def OpR (X : Cx) (f : Value -> Value -> Sem Value) (r : R2) : Prop :=
 ∀ (pins : List (Addr × Obj)) (s : Shared) (σ : St) (H : Hp) (x y : V) (v u : Value) (Q : VK), Inv X pins σ H s -> ZeB x v -> ZeB y u -> r x y H Q ->
  wpAny (model X.prog X.w) X.A (f v u) (EP X pins σ Q) X.xe s
def UnR (X : Cx) (f : Value -> Sem Value) (r : V -> Hp -> VK -> Prop) : Prop :=
 ∀ (pins : List (Addr × Obj)) (s : Shared) (σ : St) (H : Hp) (x : V) (v : Value) (Q : VK), Inv X pins σ H s -> ZeB x v -> r x H Q ->
  wpAny (model X.prog X.w) X.A (f v) (EP X pins σ Q) X.xe s
def Zg8 (X : Cx) (f : Value) (r : List V -> Hp -> VK -> Prop) : Prop :=
 ∀ (pins : List (Addr × Obj)) (s : Shared) (σ : St) (H : Hp) (xs : List V) (us : List Value) (Q : VK), Inv X pins σ H s -> Zei xs us -> r xs H Q ->
  wpAny (model X.prog X.w) X.A (call f us) (EP X pins σ Q) X.xe s
def tOp (r : R2) (ta tb : TE) : TE := fun σ H Q => ta σ H fun x H1 => tb σ H1 fun y H2 => r x y H2 Q
def tUn (r : V -> Hp -> VK -> Prop) (ta : TE) : TE := fun σ H Q => ta σ H fun x H1 => r x H1 Q
def rI (C : Int -> Int -> Prop) (g : Int -> Int -> V) : R2 := fun x y H Q => ∃ i j, x = .int i /\ y = .int j /\ C i j /\ Q (g i j) H
def rI0 (g : Int -> Int -> V) : R2 := fun x y H Q => ∃ i j, x = .int i /\ y = .int j /\ Q (g i j) H
def rU (g : Int -> V) : V -> Hp -> VK -> Prop := fun x H Q => ∃ i, x = .int i /\ Q (g i) H
section
variable {X : Cx} {a b c : Expr} {ta tb tc : TE} {pos : Pos}
theorem ZqS (ha : PE X a ta) (hb : PE X b tb) {pins : List (Addr × Obj)} {s : Shared} {σ : St} {H : Hp} {R : V -> V -> Hp -> Prop} (I : Inv X pins σ H s)
  (h : ta σ H fun x H1 => tb σ H1 fun y H2 => R x y H2) {Q : Value -> Shared -> Prop} {f : Value -> Value -> Sem Value}
  (hf : ∀ v u s2 x y H2, Inv X pins σ H2 s2 -> ZeB x v -> ZeB y u -> R x y H2 -> wpAny (model X.prog X.w) X.A (f v u) Q X.xe s2) :
  wpAny (model X.prog X.w) X.A (eval a X.env) (fun v s₁ => wpAny (model X.prog X.w) X.A (eval b X.env) (fun u s₂ => wpAny (model X.prog X.w) X.A (f v u) Q X.xe s₂) X.xe s₁) X.xe s := by
 refine thn (ha pins s σ H _ I h) fun v s1 ⟨x, H1, I1, r1, q1⟩ => ?_
 refine thn (hb pins s1 σ H1 _ I1 q1) fun u s2 ⟨y, H2, I2, r2, q2⟩ => ?_
 exact hf v u s2 x y H2 I2 r1 r2 q2
theorem ZdF {op : Operator} {r : R2} (ho : OpR X (binaryOp op) r) (ha : PE X a ta) (hb : PE X b tb) : PE X (.BinOp a op b pos) (tOp r ta tb) := by
 intro pins s σ H Q I h
 exact wpAny_BinOp (ZqS ha hb I h fun v u s2 x y H2 I2 rx ry q => ho pins s2 σ H2 x y v u Q I2 rx ry q)
theorem Zpr {op : UnaryOp} {r : V -> Hp -> VK -> Prop} (ho : UnR X (unaryOp op) r) (ha : PE X a ta) : PE X (.UnaryOp op a pos) (tUn r ta) := by
 intro pins s σ H Q I h
 exact UnaryOp_ (thn (ha pins s σ H _ I h) fun v s1 ⟨x, H1, I1, r1, q1⟩ => ho pins s1 σ H1 x v Q I1 r1 q1)
theorem opI {f : Value -> Value -> Sem Value} {C : Int -> Int -> Prop} {g : Int -> Int -> Int}
  (rule : ∀ (i j : Int) (t u : Tok) (s : Shared) (Q : Value -> Shared -> Prop) (E : Value -> Shared -> Prop), C i j -> Q (.int (g i j) s.toks) { s with toks := s.toks + 1 } -> wpAny (model X.prog X.w) X.A (f (.int i t) (.int j u)) Q E s) :
  OpR X f (rI C fun i j => .int (g i j)) := by
 intro pins s σ H x y v u Q I rx ry h
 obtain ⟨i, j, rfl, rfl, hc, q⟩ := h
 obtain ⟨t, rfl⟩ := rx
 obtain ⟨t', rfl⟩ := ry
 exact rule i j t t' s _ _ hc ⟨.int (g i j), H, I.tok _, ⟨_, rfl⟩, q⟩
theorem Zrz {f : Value -> Value -> Sem Value} {g : Int -> Int -> Int}
  (rule : ∀ (i j : Int) (t u : Tok) (s : Shared) (Q : Value -> Shared -> Prop) (E : Value -> Shared -> Prop), Q (.int (g i j) s.toks) { s with toks := s.toks + 1 } -> wpAny (model X.prog X.w) X.A (f (.int i t) (.int j u)) Q E s) :
  OpR X f (rI0 fun i j => .int (g i j)) := by
 intro pins s σ H x y v u Q I rx ry h
 obtain ⟨i, j, rfl, rfl, q⟩ := h
 obtain ⟨t, rfl⟩ := rx
 obtain ⟨t', rfl⟩ := ry
 exact rule i j t t' s _ _ ⟨.int (g i j), H, I.tok _, ⟨_, rfl⟩, q⟩
theorem ZqT {f : Value -> Value -> Sem Value} {g : Int -> Int -> Bool}
  (rule : ∀ (i j : Int) (t u : Tok) (s : Shared) (Q : Value -> Shared -> Prop) (E : Value -> Shared -> Prop), Q (.bool (g i j)) s -> wpAny (model X.prog X.w) X.A (f (.int i t) (.int j u)) Q E s) :
  OpR X f (rI0 fun i j => .bl (g i j)) := by
 intro pins s σ H x y v u Q I rx ry h
 obtain ⟨i, j, rfl, rfl, q⟩ := h
 obtain ⟨t, rfl⟩ := rx
 obtain ⟨t', rfl⟩ := ry
 exact rule i j t t' s _ _ ⟨.bl (g i j), H, I, rfl, q⟩
def ZqJ (i j : Int) : Prop := 0 < j /\ j < 1073741824
def ZrA (i j : Int) : Prop := 0 <= j /\ j <= 1000000 /\ i.natAbs < 2 ^ 64
def Zps (i j : Int) : Prop := (-(2 ^ 64) < i /\ i < 2 ^ 64) \/ (-(2 ^ 64) < j /\ j < 2 ^ 64)
theorem Zps.ok {i j : Int} (h : Zps i j) : IntMulOk i j := by
 rcases h with ⟨h1, h2⟩ | ⟨h1, h2⟩
 ·exact .of_left (intBits_le_64 h1 h2)
 ·exact .of_right (intBits_le_64 h1 h2)
theorem Zpt : OpR X (binaryOp .Add) (rI0 fun i j => .int (i + j)) := Zrz fun _ _ _ _ _ _ _ q => add_int q
theorem Zpu : OpR X (binaryOp .Sub) (rI0 fun i j => .int (i - j)) := Zrz fun _ _ _ _ _ _ _ q => sub_int q
theorem Zpv : OpR X (binaryOp .Mult) (rI Zps fun i j => .int (i * j)) := opI fun _ _ _ _ _ _ _ hc q => mul_int q hc.ok
theorem Zn8 : OpR X (binaryOp .FloorDiv) (rI ZqJ fun i j => .int (i / j)) := opI fun i j _ _ _ _ _ hc q => by
 have h1 : (0 : Int) < j := hc.1
 have h2 : j < 1073741824 := hc.2
 exact floordiv_int (by omega) (by rw [Int.fdiv_eq_ediv_of_nonneg i (by omega)]; exact q) (.inl (PyProof.noPylong_small (by omega)))
theorem Zpw : OpR X (binaryOp .Mod) (rI (fun _ j => 0 < j) fun i j => .int (i % j)) := opI fun i j _ _ _ _ _ hc q => by
 have h1 : (0 : Int) < j := hc
 exact mod_int' (by omega) (by rw [Int.fmod_eq_emod_of_nonneg i (by omega)]; exact q)
theorem Zpx : OpR X (binaryOp .Pow) (rI ZrA fun i j => .int (i ^ j.toNat)) := opI fun _ _ _ _ _ _ _ hc q => pow_int_small hc.1 hc.2.1 hc.2.2 q
theorem unI {f : Value -> Sem Value} {g : Int -> Int}
  (rule : ∀ (i : Int) (t : Tok) (s : Shared) (Q : Value -> Shared -> Prop) (E : Value -> Shared -> Prop), Q (.int (g i) s.toks) { s with toks := s.toks + 1 } -> wpAny (model X.prog X.w) X.A (f (.int i t)) Q E s) :
  UnR X f (rU fun i => .int (g i)) := by
 intro pins s σ H x v Q I rx h
 obtain ⟨i, rfl, q⟩ := h
 obtain ⟨t, rfl⟩ := rx
 exact rule i t s _ _ ⟨.int (g i), H, I.tok _, ⟨_, rfl⟩, q⟩
theorem Znx : UnR X (unaryOp .USub) (rU fun i => .int (-i)) := unI fun _ _ _ _ _ q => neg_int q
end
noncomputable def ZrB : V -> V -> Bool
 | .non, .non => true | .non, .int _ => true | .int _, .non => true | .non, .bl _ => true | .bl _, .non => true | .non, .str _ => true | .str _, .non => true
 | .int _, .int _ => true | .bl _, .bl _ => true | .str _, .str _ => true | .byt _, .byt _ => true
 | .int _, .str _ => true | .str _, .int _ => true | .bl _, .str _ => true | .str _, .bl _ => true
 | _, _ => false
def rEq : R2 := fun x y H Q => ZrB x y = true /\ Q (.bl (decide (x = y))) H
def rNe : R2 := fun x y H Q => ZrB x y = true /\ Q (.bl (!decide (x = y))) H
theorem Zlf {i j : Int} : decide (V.int i = V.int j) = (i == j) := by
 rw [ZcZ]
 simp
theorem Zny {i j : Bool} : decide (V.bl i = V.bl j) = (i == j) := by
 rw [ZcZ]
 simp
theorem Zlg {i j : Str} : decide (V.str i = V.str j) = (i == j) := by
 rw [ZcZ]
 simp
theorem Zlh {i j : Array UInt8} : decide (V.byt i = V.byt j) = (i.toList == j.toList) := by
 rw [ZcZ]
 cases i
 cases j
 simp
section
variable {X : Cx} {a b c : Expr} {ta tb tc : TE} {pos : Pos}
theorem Zeg {pins : List (Addr × Obj)} {σ : St} {H : Hp} {s : Shared} {Q : VK} {k k' : Bool} (I : Inv X pins σ H s) (q : Q (.bl k) H) (e : k = k') : EP X pins σ Q (.bool k') s := by
 subst e
 exact ⟨.bl k, H, I, rfl, q⟩
theorem ZqU : OpR X (compareOp .Eq) rEq := by
 intro pins s σ H x y v u Q I rx ry h
 obtain ⟨hs, q⟩ := h
 cases x with
 | non =>
  cases rx
  cases y with
  | non => cases ry; exact PySem.EqNone.eq_none_none (Zeg I q (by simp))
  | bl j => cases ry; exact PySem.EqNone.eq_none_bool (Zeg I q (by simp))
  | int j => obtain ⟨t', rfl⟩ := ry; exact PySem.EqNone.eq_none_int (Zeg I q (by simp))
  | str j => obtain ⟨t', rfl⟩ := ry; exact PySem.EqNone.eq_none_str (Zeg I q (by simp))
  | _ => exact absurd (show false = true from hs) ZcY
 | bl i =>
  cases rx
  cases y with
  | non => cases ry; exact PySem.EqNone.eq_bool_none (Zeg I q (by simp))
  | bl j => cases ry; exact eq_bool (Zeg I q Zny)
  | str j => obtain ⟨t', rfl⟩ := ry; exact PySem.EqMixed.eq_bool_str (Zeg I q (by simp))
  | _ => exact absurd (show false = true from hs) ZcY
 | int i =>
  obtain ⟨t, rfl⟩ := rx
  cases y with
  | non => cases ry; exact PySem.EqNone.eq_int_none (Zeg I q (by simp))
  | int j => obtain ⟨t', rfl⟩ := ry; exact eq_int (Zeg I q Zlf)
  | str j => obtain ⟨t', rfl⟩ := ry; exact PySem.EqMixed.eq_int_str (Zeg I q (by simp))
  | _ => exact absurd (show false = true from hs) ZcY
 | str i =>
  obtain ⟨t, rfl⟩ := rx
  cases y with
  | non => cases ry; exact PySem.EqNone.eq_str_none (Zeg I q (by simp))
  | bl j => cases ry; exact PySem.EqMixed.eq_str_bool (Zeg I q (by simp))
  | int j => obtain ⟨t', rfl⟩ := ry; exact PySem.EqMixed.eq_str_int (Zeg I q (by simp))
  | str j => obtain ⟨t', rfl⟩ := ry; exact eq_str (Zeg I q Zlg)
  | _ => exact absurd (show false = true from hs) ZcY
 | byt i =>
  obtain ⟨t, rfl⟩ := rx
  cases y with
  | byt j => obtain ⟨t', rfl⟩ := ry; exact PySem.W.eq_bytes (Zeg I q Zlh)
  | _ => exact absurd (show false = true from hs) ZcY
 | _ => cases y <;> exact absurd (show false = true from hs) ZcY
theorem Zjz : OpR X (compareOp .NotEq) rNe := by
 intro pins s σ H x y v u Q I rx ry h
 obtain ⟨hs, q⟩ := h
 cases x with
 | non =>
  cases rx
  cases y with
  | non => cases ry; exact PySem.EqNone.ne_none_none (Zeg I q (by simp))
  | bl j => cases ry; exact PySem.EqNone.ne_none_bool (Zeg I q (by simp))
  | int j => obtain ⟨t', rfl⟩ := ry; exact PySem.EqNone.ne_none_int (Zeg I q (by simp))
  | str j => obtain ⟨t', rfl⟩ := ry; exact PySem.EqNone.ne_none_str (Zeg I q (by simp))
  | _ => exact absurd (show false = true from hs) ZcY
 | bl i =>
  cases rx
  cases y with
  | non => cases ry; exact PySem.EqNone.ne_bool_none (Zeg I q (by simp))
  | bl j => cases ry; exact ne_bool (Zeg I q (congrArg not Zny))
  | str j => obtain ⟨t', rfl⟩ := ry; exact PySem.EqMixed.ne_bool_str (Zeg I q (by simp))
  | _ => exact absurd (show false = true from hs) ZcY
 | int i =>
  obtain ⟨t, rfl⟩ := rx
  cases y with
  | non => cases ry; exact PySem.EqNone.ne_int_none (Zeg I q (by simp))
  | int j => obtain ⟨t', rfl⟩ := ry; exact ne_int (Zeg I q (congrArg not Zlf))
  | str j => obtain ⟨t', rfl⟩ := ry; exact PySem.EqMixed.ne_int_str (Zeg I q (by simp))
  | _ => exact absurd (show false = true from hs) ZcY
 | str i =>
  obtain ⟨t, rfl⟩ := rx
  cases y with
  | non => cases ry; exact PySem.EqNone.ne_str_none (Zeg I q (by simp))
  | bl j => cases ry; exact PySem.EqMixed.ne_str_bool (Zeg I q (by simp))
  | int j => obtain ⟨t', rfl⟩ := ry; exact PySem.EqMixed.ne_str_int (Zeg I q (by simp))
  | str j => obtain ⟨t', rfl⟩ := ry; exact ne_str (Zeg I q (congrArg not Zlg))
  | _ => exact absurd (show false = true from hs) ZcY
 | byt i =>
  obtain ⟨t, rfl⟩ := rx
  cases y with
  | byt j => obtain ⟨t', rfl⟩ := ry; exact PySem.W.ne_bytes (Zeg I q (congrArg not Zlh))
  | _ => exact absurd (show false = true from hs) ZcY
 | _ => cases y <;> exact absurd (show false = true from hs) ZcY
theorem ZqV : OpR X (compareOp .Lt) (rI0 fun i j => .bl (decide (i < j))) := ZqT fun _ _ _ _ _ _ _ q => lt_int q
theorem ZqW : OpR X (compareOp .Gt) (rI0 fun i j => .bl (decide (j < i))) := ZqT fun _ _ _ _ _ _ _ q => gt_int q
theorem ZqX : OpR X (compareOp .GtE) (rI0 fun i j => .bl (decide (j <= i))) := ZqT fun _ _ _ _ _ _ _ q => ge_int q
theorem ZdK (b : Expr) {op : CmpOp} (h : autoParam (op ≠ .In) L2.Internal.auD._auto_1) (h2 : autoParam (op ≠ .NotIn) L2.Internal.auD._auto_1) : behindInMarks op b = false := by
 have e1 : (op == CmpOp.In) = false := by cases op <;> first | rfl | exact absurd rfl h
 have e2 : (op == CmpOp.NotIn) = false := by cases op <;> first | rfl | exact absurd rfl h2
 cases b <;> simp [behindInMarks, e1, e2]
theorem Zgo {op : CmpOp} {r : R2} (ho : OpR X (compareOp op) r) (ha : PE X a ta) (hb : PE X b tb) (hm : behindInMarks op b = false) : PE X (.Compare a [op] [b] pos) (tOp r ta tb) := by
 intro pins s σ H Q I h
 exact wpAny_Compare1 (ZqS ha hb I h fun v u s2 x y H2 I2 rx ry q => ho pins s2 σ H2 x y v u Q I2 rx ry q) hm
def ZqY (t : TE) : TT := fun σ H Q => t σ H fun x H' => ∃ k, x = .bl k /\ Q k H'
theorem Zn9 {op : CmpOp} {r : R2} (ho : OpR X (compareOp op) r) (ha : PE X a ta) (hb : PE X b tb) (hm : behindInMarks op b = false) : PT X (.Compare a [op] [b] pos) (ZqY (tOp r ta tb)) := by
 intro pins s σ H Q I h
 refine wpAny_isTrue_Compare1 (thn (ha pins s σ H _ I h) fun v s1 ⟨x, H1, I1, r1, q1⟩ => thn (hb pins s1 σ H1 _ I1 q1) fun u s2 ⟨y, H2, I2, r2, q2⟩ =>
  thn (ho pins s2 σ H2 x y v u _ I2 r1 r2 q2) fun c s3 ⟨z, H3, I3, r3, k, e, q3⟩ => ?_) hm
 subst e
 cases r3
 exact wpAny_truthy_bool ⟨H3, I3, q3⟩
theorem ZiN : (sizeLine : Nat) < 2 ^ 63 := by rw [sizeLine_eq]; decide
theorem ZkB : OpR X (binaryOp .Add) (fun x y H Q => ∃ i j, x = .str i /\ y = .str j /\ i.length + j.length <= sizeLine /\ Q (.str (i ++ j)) H) := by
 intro pins s σ H x y v u Q I rx ry h
 obtain ⟨i, j, rfl, rfl, hz, q⟩ := h
 obtain ⟨t, rfl⟩ := rx
 obtain ⟨t', rfl⟩ := ry
 exact add_str (fun t' tk => ⟨.str (i ++ j), H, I.tok _, ⟨_, rfl⟩, q⟩) hz
theorem ZgX {x : V} {us : List Value} (r : Zei [x] us) : ∃ u, us = [u] /\ ZeB x u := by
 cases r with
 | cons r1 r2 => cases r2; exact ⟨_, rfl, r1⟩
theorem ZmK {x y : V} {us : List Value} (r : Zei [x, y] us) : ∃ u w', us = [u, w'] /\ ZeB x u /\ ZeB y w' := by
 cases r with
 | cons r1 r2 =>
  cases r2 with
  | cons r3 r4 => cases r4; exact ⟨_, _, rfl, r1, r3⟩
theorem Zli (hc : X.calm = true) : Zg8 X (.builtin "max") (fun xs H Q => ∃ i j, xs = [.int i, .int j] /\ Q (.int (if j > i then j else i)) H) := by
 intro pins s σ H xs us Q I r h
 obtain ⟨i, j, rfl, q⟩ := h
 obtain ⟨u, w', rfl, ⟨t, rfl⟩, ⟨t', rfl⟩⟩ := ZmK r
 refine max_two_ints (I.ok.hd hc) fun h' tk k => ⟨_, H, I.kept k, ?_, q⟩
 by_cases hj : j > i
 ·rw [if_pos hj, if_pos hj]; exact ⟨_, rfl⟩
 ·rw [if_neg hj, if_neg hj]; exact ⟨_, rfl⟩
theorem ZiO : Zg8 X (.type "int") (fun xs H Q => (∃ i, xs = [.int i] /\ Q (.int i) H) \/ ∃ k, xs = [.bl k] /\ Q (.int (if k then 1 else 0)) H) := by
 intro pins s σ H xs us Q I r h
 rcases h with ⟨i, rfl, q⟩ | ⟨k, rfl, q⟩
 ·obtain ⟨u, rfl, t, rfl⟩ := ZgX r
  exact call_int_int ⟨.int i, H, I, ⟨_, rfl⟩, q⟩
 ·obtain ⟨u, rfl, r1⟩ := ZgX r
  cases r1
  exact call_int_bool ⟨.int (if k then 1 else 0), H, I.tok _, ⟨_, rfl⟩, q⟩
end
end L2.Internal
namespace L2.Internal
open PySem PySem.Spec PyProof.Rows
structure Zpf (h : Heap) (x dx C : Addr) (mA : Str -> Option Value) : Prop where
 obj : h.get? x = some (Zb9 C dx)
 ns : h.Ns1 dx mA
 ne : dx ≠ x
theorem Zlj {h : Heap} {dx : Addr} {mA : Str -> Option Value} (n : h.Ns1 dx mA) : ∃ od, h.get? dx = some od /\ ∀ name, Zcf name od = some (mA name) := by
 obtain ⟨o, es, ep, ho, hd, hk, _, hm⟩ := n
 refine ⟨o, ho, fun name => ?_⟩
 have e := hm name
 unfold nsFind findBy at e
 rw [<- Array.find?_toList] at e
 unfold Zcf
 rw [hd]
 dsimp only
 split
 ·rename_i y q
  rw [q] at e
  exact congrArg some e
 ·rename_i q
  rw [q] at e
  have a : es.toList.any (·.refKey) = false := by
   rw [List.any_eq_false]
   intro y hy
   obtain ⟨z, t, hkey⟩ := hk y (Array.mem_toList_iff.mp hy)
   simp [DictEntry.refKey, hkey]
  have a' : ¬ es.toList.any (·.refKey) = true := by rw [a]; exact ZcY
  rw [if_neg a']
  exact congrArg some e
theorem Zpf.look {h : Heap} {x dx C : Addr} {mA : Str -> Option Value} (I : Zpf h x dx C mA) : ∃ od, PySem.W.InstAt h x (Zb9 C dx) C (some od) /\ ∀ name, Zcf name od = some (mA name) :=
 let ⟨od, ho, hl⟩ := Zlj I.ns
 ⟨od, ⟨I.obj, rfl, rfl, ho⟩, hl⟩
section
variable {prog : Program} {w : World} {A : Around} {E : Value -> Shared -> Prop} {s : Shared} {K : PySem.W.Frag} {x dx C f : Addr} {mA : Str -> Option Value} {name : Str} {v : Value}
theorem Zoa {expr : Bool} {Q : Value -> Shared -> Prop} (X : K.In s.heap) (I : Zpf s.heap x dx C mA) (hg : Zcg K C name = true) (hh : Zch K C = true)
  (ha : Zci K (.ref C) name = some none) (hv : mA name = some v) (hv' : Zcj v = true) (h : Q v { s with toks := s.toks + 1 }) :
  wpAny (model prog w) A (getAttr (.ref x) name expr) Q E s := by
 obtain ⟨od, J, hl⟩ := I.look
 exact PySem.W.get_value X J (PySem.W.plainGet_of hg).1 (PySem.W.findObj_own hh ha rfl (by rw [hl, hv])) hv' h
theorem Zob {ns : List Str} {Q : Unit -> Shared -> Prop} (X : K.In s.heap) (I : Zpf s.heap x dx C mA)
  (hs : Zci K (.ref C) "__setattr__" = some (some (.builtin "object.__setattr__"))) (hp : Zck K C = true) (ht : Zcl K C name = some none) (hh : Zch K C = true)
  (hw : PySem.Within mA ns) (hsz : ns.length <= sizeLine)
  (h : ∀ h', Zpf h' x dx C (fun y => if y = name then some v else mA y) -> Heap.SameBut dx s.heap h' -> Q () { s with heap := h', toks := s.toks + 2 }) :
  wpAny (model prog w) A (setAttr (.ref x) name v) Q E s := by
 obtain ⟨od, J, hl⟩ := I.look
 refine PySem.W.set_plain X J hs (PySem.W.osa_open (s := { s with toks := s.toks + 1 }) (r := none) X J hp ht fun b => ?_)
 obtain ⟨cd, hc, hd'⟩ := Zcm hh
 have hx : s.heap.get? x = some ⟨.ref C, some dx, .plain, #[]⟩ := I.obj
 refine wpAny_bind (wpAny_pure (wpAny_bind (wpAny_bind (wpAny_loadPart hx (wpAny_bind (PySem.W.Looks.here (s := { s with toks := s.toks + 1 }) (Zcn X hc) ?_))))))
 rw [hd']
 refine wpAny_pure (a := some dx) (wpAny_bind (wpAny_pure (wpAny_bind ?_)))
 refine wpAny_nsSet1 (s := { s with toks := s.toks + 1 }) I.ns fun h' hn2 hs2 => ?_
 obtain ⟨oD, esD, epD, hoD, hdD, hcD⟩ := hn2.count (PySem.Within.cons name v hw)
 refine wpAny_bind (wpAny_lookBehind hoD (by rw [hdD]; exact pastItsLine_dict (ZbS hcD (by rw [Zao]; omega))) ?_)
 exact wpAny_pure (h _ ⟨(hs2.2 _ (Ne.symm I.ne)).trans I.obj, hn2, I.ne⟩ hs2)
theorem ZmL {R : Result -> Shared -> Prop} {vs : List Value} {kw : List (Str × Value)} (X : K.In s.heap) (hm : Zco K C = true)
  (hi : Zci K (.ref C) "__init__" = some (some (.ref f))) (hf : PySem.W.typeIn K (.ref f) = some (.type "function"))
  (h : codeAny (model prog w) (A.under (.builtin "type.__call__" ⟨.ref C :: vs, kw⟩)) (.call (.ref f) ⟨.ref (s.heap.objs.size + 1) :: vs, kw⟩) (PySem.W.InitBack (s.heap.objs.size + 1) R)
   { s with heap := (s.heap.push Zcp).push (Zb9 C s.heap.objs.size) }) :
  codeAny (model prog w) A (.call (.ref C) ⟨vs, kw⟩) R s := by
 obtain ⟨hh, g, d, t, os⟩ := s
 exact PySem.W.make_core (PySem.W.makes_of X hm) (Zcq X hi) (fun self => PySem.W.bind_fn X self hf) (.inl rfl) h
end
noncomputable def Zhe (f : Str) (v : V) : List (Str × V) -> List (Str × V)
 | [] => [(f, v)]
 | (g, x) :: r => if g = f then (g, v) :: r else (g, x) :: Zhe f v r
theorem Zgp (f g : Str) (v : V) : ∀ fs : List (Str × V), (Zhe f v fs).lookup g = if g = f then some v else fs.lookup g
 | [] => by
  show Zap g [(f, v)] = _
  by_cases h : g = f
  ·have hb : (g == f) = true := beq_iff_eq.mpr h
   simp only [Zap, hb, if_pos h]
  ·have hb : (g == f) = false := beq_eq_false_iff_ne.mpr h
   simp only [Zap, hb, if_neg h]
 | (k, x) :: r => by
  have ih := Zgp f g v r
  rw [show Zhe f v ((k, x) :: r) = (if k = f then (k, v) :: r else (k, x) :: Zhe f v r) from rfl]
  by_cases hk : k = f
  ·rw [if_pos hk]
   by_cases h : g = k
   ·have hb : (g == k) = true := beq_iff_eq.mpr h
    simp only [Zap, hb, if_pos (h.trans hk)]
   ·have hb : (g == k) = false := beq_eq_false_iff_ne.mpr h
    simp only [Zap, hb, if_neg (fun e : g = f => h (e.trans hk.symm))]
  ·rw [if_neg hk]
   by_cases h : g = k
   ·have hb : (g == k) = true := beq_iff_eq.mpr h
    simp only [Zap, hb, if_neg (fun e : g = f => hk (h.symm.trans e))]
   ·have hb : (g == k) = false := beq_eq_false_iff_ne.mpr h
    simp only [Zap, hb]
    exact ih
theorem ZfU (f : Str) (v : V) : ∀ fs : List (Str × V), f ∈ (Zhe f v fs).map (·.1) /\ ∀ g, g ∈ fs.map (·.1) -> g ∈ (Zhe f v fs).map (·.1)
 | [] => ⟨by simp [Zhe], fun g h => by simp at h⟩
 | (k, x) :: r => by
  obtain ⟨i1, i2⟩ := ZfU f v r
  rw [show Zhe f v ((k, x) :: r) = (if k = f then (k, v) :: r else (k, x) :: Zhe f v r) from rfl]
  by_cases hk : k = f
  ·rw [if_pos hk]
   subst hk
   exact ⟨by simp, fun g h => by simpa using h⟩
  ·rw [if_neg hk]
   refine ⟨?_, fun g h => ?_⟩
   ·rw [Zaq]
    exact Zaf _ i1
   ·rw [Zaq] at h ⊢
    rcases Zag.mp h with e | e
    ·exact Zag.mpr (.inl e)
    ·exact Zaf _ (i2 g e)
theorem Zgq (f : Str) (v : V) : ∀ fs : List (Str × V), (Zhe f v fs).length <= fs.length + 1
 | [] => by simp [Zhe]
 | (k, x) :: r => by
  have ih := Zgq f v r
  rw [show Zhe f v ((k, x) :: r) = (if k = f then (k, v) :: r else (k, x) :: Zhe f v r) from rfl]
  by_cases hk : k = f
  ·rw [if_pos hk, Zao, Zao]; omega
  ·rw [if_neg hk, Zao, Zao]; omega
theorem ZiK.some_of {v : V} {o : Option Value} (r : ZiK (some v) o) : ∃ u, o = some u /\ ZeB v u := by
 cases o with
 | none => exact (show False from r).elim
 | some u => exact ⟨u, rfl, r⟩
theorem ZiP {v : V} {u : Value} (r : ZeB v u) : Zcj u = true := by
 cases v with
 | non => cases (show u = Value.none from r); rfl
 | bl b => cases (show u = Value.bool b from r); rfl
 | int i => obtain ⟨t, e⟩ := (show ∃ t, u = Value.int i t from r); cases e; rfl
 | str x => obtain ⟨t, e⟩ := (show ∃ t, u = Value.str x t from r); cases e; rfl
 | byt b => obtain ⟨t, e⟩ := (show ∃ t, u = Value.bytes b t from r); cases e; rfl
 | flt b => obtain ⟨t, e⟩ := (show ∃ t, u = Value.float b t from r); cases e; rfl
 | ref a => cases (show u = Value.ref a from r); rfl
 | ty n => cases (show u = Value.type n from r); rfl
section
variable {P : Program} {w : World} {H H' : Hp} {h h' : Heap} {a C dx : Addr} {fs fs' : List (Str × V)}
theorem ZjA (hok : HOk P w H h) (e : H a = some (.ins C dx fs)) : ∃ mA, Zpf h a dx C mA /\ (∀ f, ZiK (fs.lookup f) (mA f)) /\ PySem.Within mA (fs.map (·.1)) /\ fs.length <= 1000 /\ H dx = some (.own a) := by
 obtain ⟨d, z, ne, ob, mA, n, r, q⟩ := (show Zer P w H h a (.ins C dx fs) from hok a _ e)
 exact ⟨mA, ⟨ob, n, ne⟩, r, q, z, d⟩
end
structure Cls (K : PySem.W.Frag) (C : Addr) : Prop where
 pg : Zcg K C Str.empty = true
 hd : Zch K C = true
 po : Zck K C = true
 sa : Zci K (.ref C) "__setattr__" = some (some (.builtin "object.__setattr__"))
theorem Cls.get {K : PySem.W.Frag} {C : Addr} (c : Cls K C) (f : Str) : Zcg K C f = true := c.pg
def ZfV (K : PySem.W.Frag) (C : Addr) (f : Str) : Prop := Zci K (.ref C) f = some none
theorem ZfV.taker {K : PySem.W.Frag} {C : Addr} {f : Str} (n : ZfV K C f) : Zcl K C f = some none := by
 unfold Zcl
 rw [show Zci K (.ref C) f = some none from n]
 rfl
section
variable {X : Cx} {pins : List (Addr × Obj)} {σ : St} {H : Hp} {s : Shared} {a C dx : Addr} {fs : List (Str × V)} {f : Str} {v : V} {A : Around} {E : Value -> Shared -> Prop}
theorem ZkC {b : Bool} {Q : Value -> Shared -> Prop} (I : Inv X pins σ H s) (e : H a = some (.ins C dx fs)) (c : Cls X.K C) (n : ZfV X.K C f) (l : fs.lookup f = some v)
  (h : ∀ u s', Inv X pins σ H s' -> ZeB v u -> Q u s') : wpAny (model X.prog X.w) A (getAttr (.ref a) f b) Q E s := by
 obtain ⟨mA, O, r, _, _, _⟩ := ZjA I.hok e
 obtain ⟨u, hu, ru⟩ := ZiK.some_of (v := v) (o := mA f) (by rw [<- l]; exact r f)
 exact Zoa I.kIn O (c.get f) c.hd n hu (ZiP ru) (h u _ (I.tok _) ru)
theorem ZkD {y : V} {u : Value} {Q : Unit -> Shared -> Prop} (I : Inv X pins σ H s) (e : H a = some (.ins C dx fs)) (c : Cls X.K C) (n : ZfV X.K C f) (hl : fs.length < 1000) (ry : ZeB y u)
  (h : ∀ s', Inv X pins σ (upd H a (.ins C dx (Zhe f y fs))) s' -> Q () s') : wpAny (model X.prog X.w) A (setAttr (.ref a) f u) Q E s := by
 obtain ⟨mA, O, r, wi, _, ho⟩ := ZjA I.hok e
 have hz : (fs.map (·.1)).length <= sizeLine := by rw [Zar, sizeLine_eq]; omega
 refine Zob I.kIn O c.sa c.po n.taker c.hd wi hz fun h' O' sb => h _ ?_
 have hd : ∃ o, h'.get? dx = some o := let ⟨o, _, _, e', _⟩ := O'.ns; ⟨o, e'⟩
 refine I.write (x := a) (e := dx) (by rw [e]; exact True.intro) (.inr ho) (fun b q hb z => (sb.2 b hb).trans z) hd ?_
 refine ⟨by rw [Zdt O.ne]; exact ho, ?_, O.ne, O'.obj, _, O'.ns, fun g => ?_, fun g hg => ?_⟩
 ·have := Zgq f y fs; omega
 ·show ZiK ((Zhe f y fs).lookup g) (if g = f then some u else mA g)
  rw [Zgp]
  by_cases q : g = f
  ·rw [if_pos q, if_pos q]; exact ry
  ·rw [if_neg q, if_neg q]; exact r g
 ·by_cases q : g = f
  ·rw [q]; exact (ZfU f y fs).1
  ·refine (ZfU f y fs).2 g (wi g fun z => hg ?_)
   show (if g = f then some u else mA g) = none
   rw [if_neg q]; exact z
theorem Inv.made (I : Inv X pins σ H s) : Inv X pins σ (upd (upd H s.heap.objs.size (.own (s.heap.objs.size + 1))) (s.heap.objs.size + 1) (.ins C s.heap.objs.size []))
  { s with heap := (s.heap.push Zcp).push (Zb9 C s.heap.objs.size) } := by
 have e1 : (s.heap.push Zcp).get? s.heap.objs.size = some Zcp := Zdf s.heap rfl
 have e2 : ((s.heap.push Zcp).push (Zb9 C s.heap.objs.size)).get? (s.heap.objs.size + 1) = some (Zb9 C s.heap.objs.size) := by
  have := Zdf (s.heap.push Zcp) (o := Zb9 C s.heap.objs.size) rfl
  rwa [Zdi] at this
 have e3 : (s.heap.push Zcp).Ns s.heap.objs.size (fun _ => none) := ⟨Zcp, #[], _, e1, rfl, (fun e he => absurd he (by simp)), fun _ => rfl⟩
 have I1 := I.laid (a := s.heap.objs.size) (o := .own (s.heap.objs.size + 1)) (h' := s.heap.push Zcp) (t' := s.toks) (fun b u q => Zdh _ q) (ZbV _) ⟨_, e1⟩
 refine I1.laid (a := s.heap.objs.size + 1) (o := .ins C s.heap.objs.size []) (t' := s.toks) (fun b u q => Zdh _ q) (ZbX (Zdi _ _)) ?_
 have ne : s.heap.objs.size ≠ s.heap.objs.size + 1 := ZbR (ZbY _)
 refine ⟨by rw [Zdt ne, Zdp], ZbW _, ne, e2, fun _ => none, (Heap.Ns1.of_empty e3).at fun o q => Zdh _ q, fun _ => True.intro, fun y hy => absurd rfl hy⟩
theorem Zlk {prog : Program} {w : World} {env : Env} {e : Expr} {f : Str} {pos : Pos} {s : Shared} {Q : Value -> Shared -> Prop} (hb : attributeBase e f env (eval e env) = eval e env)
  (h : wpAny (model prog w) A (eval e env) (fun o s₁ => wpAny (model prog w) A (getAttr o f true) Q E s₁) E s) : wpAny (model prog w) A (eval (.Attribute e f pos) env) Q E s :=
 Attribute_any_ h (by rw [arm_eval_Attribute, hb])
end
def tFld (K : PySem.W.Frag) (ta : TE) (f : Str) : TE := fun σ H Q => ta σ H fun x H1 => ∃ a C dx fs v, x = .ref a /\ H1 a = some (.ins C dx fs) /\ Cls K C /\ ZfV K C f /\ fs.lookup f = some v /\ Q v H1
def ZrC (K : PySem.W.Frag) (ta tv : TE) (f : Str) : TS := fun D σ H => tv σ H fun y H1 => ta σ H1 fun x H2 => ∃ a C dx fs, x = .ref a /\ H2 a = some (.ins C dx fs) /\ Cls K C /\ ZfV K C f /\ fs.length < 1000 /\
 D.nx σ (upd H2 a (.ins C dx (Zhe f y fs)))
section
variable {X : Cx} {o e value : Expr} {f : Str} {pos pos' tpos : Pos} {ta tv : TE}
theorem Zpy (he : PE X e ta) (hb : attributeBase e f X.env (eval e X.env) = eval e X.env) : PE X (.Attribute e f pos) (tFld X.K ta f) := by
 intro pins s σ H Q I h
 refine Zlk hb (thn (he pins s σ H _ I h) fun u s1 ⟨x, H1, I1, rx, a, C, dx, fs, v, ex, ea, c, n, l, q⟩ => ?_)
 subst ex
 obtain rfl : u = Value.ref a := rx
 exact ZkC I1 ea c n l fun u' s2 I2 ru => ⟨v, H1, I2, ru, q⟩
theorem Zll (ha : PE X o ta) (hv : PE X value tv) (hs : swapsWith value (some (.Attribute o f pos')) pos.line X.env = pure false) : PS X (.Assign [.Attribute o f pos'] value pos) (ZrC X.K ta tv f) := by
 intro pins s σ H D I h
 refine plainObj_wpAny_Assign_Attribute (thn (hv pins s σ H _ I h) fun u s1 ⟨y, H1, I1, ry, q⟩ => thn (ha pins s1 σ H1 _ I1 q) fun ov s2 ⟨x, H2, I2, rx, a, C, dx, fs, ex, ea, c, n, l, q2⟩ => ?_) hs
 subst ex
 obtain rfl : ov = Value.ref a := rx
 exact ZkD I2 ea c n l ry fun s3 I3 => ⟨σ, _, I3, q2⟩
end
section
variable {X : Cx} {pins : List (Addr × Obj)} {σ : St} {H : Hp} {s : Shared} {A : Around} {E : Value -> Shared -> Prop} {Q : Value -> Shared -> Prop} {c : Value} {b : Bool}
inductive ZjB (K : PySem.W.Frag) (H : Hp) : V -> Value -> Prop where
 | non : ZjB K H .non (.type "NoneType")
 | bl (x : Bool) : ZjB K H (.bl x) (.type "bool")
 | int (i : Int) : ZjB K H (.int i) (.type "int")
 | str (x : Str) : ZjB K H (.str x) (.type "str")
 | flt (x : UInt64) : ZjB K H (.flt x) (.type "float")
 | lst {a : Addr} {xs : List V} (e : H a = some (.lst xs)) : ZjB K H (.ref a) (.type "list")
 | frz {a : Addr} {o : Obj} {xs : List V} (e : H a = some (.frz o (.lst xs))) : ZjB K H (.ref a) (.type "list")
 | tup {a : Addr} {xs : List V} (e : H a = some (.tup xs)) : ZjB K H (.ref a) (.type "tuple")
 | dK {a : Addr} {kvs : List (Key × V)} (e : H a = some (.dK kvs)) : ZjB K H (.ref a) (.type "dict")
 | dT {a : Addr} {kvs : List (List Key × V)} (e : H a = some (.dT kvs)) : ZjB K H (.ref a) (.type "dict")
 | ins {a C dx : Addr} {fs : List (Str × V)} (e : H a = some (.ins C dx fs)) (cl : Cls K C) (ha : Zci K (.ref C) "__class__" = some (some (.builtin "object.__class__")))
   (hn : Zcr K (.builtin "object.__class__") "__get__" = some (some (.builtin "getset_descriptor.__get__"))) (htk : PySem.W.takesIn K (.builtin "object.__class__") = some true)
   (hm : PySem.W.mroIn K C (.type "object") = some true) : ZjB K H (.ref a) (.ref C)
theorem Zlm {x : V} {u t : Value} (I : Inv X pins σ H s) (rx : ZeB x u) (ty : ZjB X.K H x t) (e : Zcs X.K t c = some b) (h : ∀ tk, Q (.bool b) { s with toks := tk }) :
  wpAny (model X.prog X.w) A (call (.builtin "isinstance") [u, c]) Q E s := by
 cases ty with
 | non => cases (show u = Value.none from rx); exact Zct PySem.W.kitx_none I.kIn True.intro e (fun z => nomatch z) h
 | bl y => cases (show u = Value.bool y from rx); exact Zct PySem.W.kitx_bool I.kIn True.intro e (fun z => nomatch z) h
 | int i => obtain ⟨t, q⟩ := (show ∃ t, u = Value.int i t from rx); cases q; exact Zct PySem.W.kitx_int I.kIn True.intro e (fun z => nomatch z) h
 | str y => obtain ⟨t, q⟩ := (show ∃ t, u = Value.str y t from rx); cases q; exact Zct PySem.W.kitx_str I.kIn True.intro e (fun z => nomatch z) h
 | flt y => obtain ⟨t, q⟩ := (show ∃ t, u = Value.float y t from rx); cases q; exact Zct PySem.W.kitx_float I.kIn True.intro e (fun z => nomatch z) h
 | @lst a xs ea =>
  cases (show u = Value.ref a from rx)
  obtain ⟨_, _, n, _, h1⟩ := (show Zer X.prog X.w H s.heap a (.lst xs) from I.hok a _ ea)
  exact Zct Zcu I.kIn ⟨_, h1, rfl⟩ e (fun z => nomatch z) h
 | @frz a ob xs ea =>
  cases (show u = Value.ref a from rx)
  obtain ⟨_, _, _, n, _, h1⟩ := (show Zer X.prog X.w H s.heap a (.frz ob (.lst xs)) from I.hok a _ ea)
  exact Zct Zcu I.kIn ⟨_, h1, rfl⟩ e (fun z => nomatch z) h
 | @tup a xs ea =>
  cases (show u = Value.ref a from rx)
  obtain ⟨_, _, _, p⟩ := (show Zer X.prog X.w H s.heap a (.tup xs) from I.hok a _ ea)
  obtain ⟨o, h1, h2, _⟩ := p
  exact Zct PySem.W.kitx_tuple I.kIn ⟨o, h1, h2⟩ e (fun z => nomatch z) h
 | @dK a kvs ea =>
  cases (show u = Value.ref a from rx)
  obtain ⟨_, _, vs, _, p⟩ := (show Zer X.prog X.w H s.heap a (.dK kvs) from I.hok a _ ea)
  obtain ⟨o, es, ep, h1, h2, _⟩ := p
  exact Zct Zcv I.kIn ⟨o, h1, h2.1⟩ e (fun z => nomatch z) h
 | @dT a kvs ea =>
  cases (show u = Value.ref a from rx)
  obtain ⟨_, _, xs, _, o, es, ep, h1, h2, _⟩ := (show Zer X.prog X.w H s.heap a (.dT kvs) from I.hok a _ ea)
  exact Zct Zcv I.kIn ⟨o, h1, h2.1⟩ e (fun z => nomatch z) h
 | @ins a C dx fs ea cl ha hn htk hm =>
  cases (show u = Value.ref a from rx)
  obtain ⟨mA, O, _⟩ := ZjA I.hok ea
  obtain ⟨od, J, _⟩ := O.look
  exact Zct (PySem.W.kitx_own (cl.get _) cl.hd ha hn htk hm) I.kIn J e (fun z => nomatch z) h
end
end L2.Internal
namespace L2.Internal
open PySem PySem.Spec PyProof.Rows
structure Zgr (k : Nat) (A : Around) : Prop where
 hd : A.handled = none
 dp : A.depth + 3 * k + 5 < recursionLimit
 un : A.units + 16 * k + 200 < cLine
theorem Zgr.mono {j k : Nat} {A : Around} (r : Zgr k A) (h : j <= k) : Zgr j A := ⟨r.hd, by have := r.dp; omega, by have := r.un; omega⟩
theorem Zgr.deeper {k : Nat} {A : Around} (r : Zgr (k + 1) A) (env : Env) : Zgr k (A.deeper env) :=
 ⟨r.hd, by have := r.dp; show A.depth + 1 + 3 * k + 5 < _; omega, by have := r.un; show A.units + 3 + 16 * k + 200 < _; omega⟩
theorem ZkE {A : Around} {C : Addr} {us : List Value} {kw : List (Str × Value)} : (A.under (.builtin "type.__call__" ⟨.ref C :: us, kw⟩)).depth = A.depth + 1 := by
 first | rfl | simp [Around.under, Code.weight, Code.isCreation, Code.isGuard, Code.isCaller, Code.frames, Code.isFrame, guardIds]
theorem ZkF {A : Around} {C : Addr} {us : List Value} {kw : List (Str × Value)} : (A.under (.builtin "type.__call__" ⟨.ref C :: us, kw⟩)).units = A.units + 1 := by
 first | rfl | simp [Around.under, Code.cUnits, Code.frames, Code.isFrame]
theorem Zgr.make {k : Nat} {A : Around} (r : Zgr (k + 1) A) (C : Addr) (us : List Value) (kw : List (Str × Value)) : Zgr k (A.under (.builtin "type.__call__" ⟨.ref C :: us, kw⟩)) :=
 ⟨r.hd, by have := r.dp; rw [ZkE]; omega, by have := r.un; rw [ZkF]; omega⟩
theorem Zgr.depth {k : Nat} {A : Around} (r : Zgr k A) : A.depth < recursionLimit := by have := r.dp; omega
theorem Zgr.units {k : Nat} {A : Around} (r : Zgr k A) : A.units + 64 < cLine := by have := r.un; omega
theorem Zgr.units0 {k : Nat} {A : Around} (r : Zgr k A) : A.units < cLine := by have := r.un; omega
def Zpz : TA := fun _ H Q => Q [] H
def Zln (ta : TE) (tr : TA) : TA := fun σ H Q => ta σ H fun x H1 => tr σ H1 fun xs H2 => Q (x :: xs) H2
section
variable {X : Cx} {e : Expr} {es : List Expr} {te : TE} {t : TA} {pos : Pos}
theorem Zdq : PA X [] Zpz := fun _ _ _ _ H Q I h => Calls.spliced_nil ⟨[], H, I, .nil, h⟩
theorem Zdn (ha : PE X e te) (hr : PA X es t) (hs : autoParam (starEach (e :: es) X.env = (false, eval e X.env) :: starEach es X.env) L2.Internal.auR._auto_1) : PA X (e :: es) (Zln te t) := by
 intro pos pins s σ H Q I h
 rw [hs]
 show wpAny _ _ (spliced ((false, eval e X.env) :: backTo pos (starEach es X.env))) _ _ s
 refine Calls.spliced_cons (thn (ha pins s σ H _ I h) fun u s1 ⟨x, H1, I1, r1, q1⟩ => ?_)
 exact thn (hr pos pins s1 σ H1 _ I1 q1) fun us s2 ⟨xs, H2, I2, r2, q2⟩ => ⟨x :: xs, H2, I2, .cons r1 r2, q2⟩
def tTup (t : TA) : TE := fun σ H Q => t σ H fun xs H1 => xs.length <= sizeLine /\ ∀ p, H1 p = none -> Q (.ref p) (upd H1 p (.tup xs))
def ZqZ (t : TA) : TE := fun σ H Q => t σ H fun xs H1 => xs.length <= sizeLine /\ ∀ p, H1 p = none -> Q (.ref p) (upd H1 p (.lst xs))
theorem Zey {x1} (h : PA X es t) : PE X (.Tuple es x1 pos) (tTup t) := by
 intro pins s σ H Q I hq
 refine wpAny_Tuple_spliced (thn (h pos pins s σ H _ I hq) fun us s1 ⟨xs, H1, I1, r, z, q⟩ => ⟨by rw [<- r.length]; exact z, ?_⟩)
 have hf : H1 s1.heap.objs.size = none := I1.hok.fresh (ZbV _)
 refine ⟨.ref s1.heap.objs.size, upd H1 s1.heap.objs.size (.tup xs), I1.laid (t' := s1.toks) (fun b u e => Zdh _ e) (ZbV _) ?_, rfl, q _ hf⟩
 exact ⟨z, us, r, ⟨_, Zdf _ rfl, rfl, _, rfl, rfl⟩⟩
theorem ZdN (h : PA X es t) : PE X (.List es pos) (ZqZ t) := by
 intro pins s σ H Q I hq
 refine wpAny_List_spliced (thn (h pos pins s σ H _ I hq) fun us s1 ⟨xs, H1, I1, r, z, q⟩ => ⟨by rw [<- r.length]; exact z, ?_⟩)
 have hf : H1 s1.heap.objs.size = none := I1.hok.fresh (ZbV _)
 refine ⟨.ref s1.heap.objs.size, upd H1 s1.heap.objs.size (.lst xs), I1.laid (t' := s1.toks) (fun b u e => Zdh _ e) (ZbV _) ?_, rfl, q _ hf⟩
 exact ⟨z, us, 0, r, Zdf _ rfl⟩
end
noncomputable abbrev Sp := List V -> Hp -> VK -> XK -> Prop
noncomputable abbrev CXT := List Env -> Hp -> Shared -> XK -> Value -> Shared -> Prop
structure Zoc (P : Program) (w : World) (K : PySem.W.Frag) (mg : Str -> Option Value) (base : Heap) (A : Around) (outer : List Env) (s : Shared) (H : Hp) : Prop where
 frames : A.frames = some outer
 mod : Mod K mg base
 bs : ∀ b o, base.get? b = some o -> s.heap.get? b = some o /\ H b = none
 bsz : base.objs.size <= s.heap.objs.size
 funs : s.heap.FunFrames base outer
 frf : ∀ b ∈ frs outer, H b = none
 hok : HOk P w H s.heap
 bare : AllBare s.gens
def CE (outer : List Env) (P : Program) (w : World) (H : Hp) (s : Shared) (Q : VK) (u : Value) (s' : Shared) : Prop :=
 ∃ v H', s'.os = s.os /\ AllBare s'.gens /\ Un (frs outer) [] H H' s.heap s'.heap /\ HOk P w H' s'.heap /\ ZeB v u /\ Q v H'
def CR (CX : CXT) (outer : List Env) (P : Program) (w : World) (H : Hp) (s : Shared) (Q : VK) (E : XK) (r : Result) (s' : Shared) : Prop :=
 match r with
 | .ok (.ret u) => CE outer P w H s Q u s'
 | .ok _ => False
 | .error e => CX outer H s E e s'
structure ZfA (P : Program) (w : World) (K : PySem.W.Frag) (mg : Str -> Option Value) (base : Heap) (CX : CXT) (k : Nat) (f : Addr) (fd : FuncData) (ps : List Str) (sp : Sp) : Prop where
 len : ∀ vs H Q E, sp vs H Q E -> vs.length = ps.length
 run : ∀ (A : Around) (outer : List Env) (s : Shared) (H : Hp) (args : Args) (us : List Value) (vs : List V) (Q : VK) (E : XK), Zgr k A -> Zoc P w K mg base A outer s H -> BindsTo s fd args (ps.zip us) -> Zei vs us -> sp vs H Q E ->
  codeAny (model P w) A (.call (.ref f) args) (CR CX outer P w H s Q E) s
theorem Zoc.make {P : Program} {w : World} {K : PySem.W.Frag} {mg : Str -> Option Value} {base : Heap} {A : Around} {outer : List Env} {s : Shared} {H : Hp} (e : Zoc P w K mg base A outer s H) (C : Addr) (us : List Value) (kw : List (Str × Value)) :
  Zoc P w K mg base (A.under (.builtin "type.__call__" ⟨.ref C :: us, kw⟩)) outer s H := ⟨by first | exact e.frames | (simpa [Around.under, Code.envs, Code.isFrame, pushEnvs] using e.frames), e.mod, e.bs, e.bsz, e.funs, e.frf, e.hok, e.bare⟩
section
variable {X : Cx} {pins : List (Addr × Obj)} {σ : St} {H : Hp} {s s' : Shared}
theorem Inv.env0 (I : Inv X pins σ H s) : Zoc X.prog X.w X.K X.mg X.base X.A X.stack s H :=
 ⟨I.ok.frames, I.ok.mod, I.bs, ZbS I.ok.bsz I.sz, I.stack, I.stkFree, I.hok, I.bare⟩
theorem Inv.after {Q : VK} {u : Value} (I : Inv X pins σ H s) (h : CE X.stack X.prog X.w H s Q u s') : EP X pins σ Q u s' := by
 obtain ⟨v, H', os, bare, un, hok, r, q⟩ := h
 obtain ⟨hh, g, d, t, os'⟩ := s'
 obtain rfl : os' = s.os := os
 exact ⟨v, H', I.call (h' := hh) (g' := g) (d' := d) (t' := t) (ch := []) un hok bare (fun b z => absurd z (by simp)), r, q⟩
end
def ZpA (sp : Sp) (dvs : List V) (E : XK) (t : TA) : TE := fun σ H Q => t σ H fun vs H1 => sp (vs ++ dvs) H1 Q E
def Zq0 (C : Addr) (sp : Sp) (dvs : List V) (E : XK) (t : TA) : TE := fun σ H Q => t σ H fun vs H1 => ∀ x dx, H1 x = none -> H1 dx = none -> dx ≠ x ->
 sp (.ref x :: (vs ++ dvs)) (upd (upd H1 dx (.own x)) x (.ins C dx [])) (fun v H2 => v = .non /\ Q (.ref x) H2) E
def Zex (K : PySem.W.Frag) (fd : FuncData) (ps : List Str) (ds : List Value) : Prop :=
 ∀ (s : Shared) (us : List Value), K.In s.heap -> (us ++ ds).length = ps.length -> BindsTo s fd ⟨us, []⟩ (ps.zip (us ++ ds))
theorem Zex.all {K : PySem.W.Frag} {fd : FuncData} {ps : List Str} (h : ∀ us : List Value, us.length = ps.length -> bindArgs fd ⟨us, []⟩ = pure (ps.zip us)) : Zex K fd ps [] := fun s us _ hl => by
 rw [Zas] at hl ⊢
 exact .of_eq (h us hl)
def Zhn (CX : CXT) (X : Cx) (E : XK) : Prop := ∀ (pins : List (Addr × Obj)) (σ : St) (H : Hp) (s : Shared) (e : Value) (s' : Shared), Inv X pins σ H s -> CX X.stack H s E e s' -> X.xe e s'
section
variable {X : Cx} {CX : CXT} {k : Nat} {f C : Addr} {fd : FuncData} {ps : List Str} {sp : Sp} {dvs : List V} {ds : List Value} {E : XK} {x m : Str} {p pos apos : Pos} {e o : Expr} {es : List Expr} {ta : TE} {t : TA}
theorem ZpB {pins : List (Addr × Obj)} {σ : St} {H : Hp} {s : Shared} {Q : VK} {us : List Value} {vs : List V} (F : ZfA X.prog X.w X.K X.mg X.base CX k f fd ps sp) (hr : Zgr k X.A) (hb : Zex X.K fd ps ds) (hd : Zei dvs ds) (hx : Zhn CX X E)
  (I : Inv X pins σ H s) (r : Zei vs us) (h : sp (vs ++ dvs) H Q E) : wpAny (model X.prog X.w) X.A (call (.ref f) us) (EP X pins σ Q) X.xe s := by
 have r2 : Zei (vs ++ dvs) (us ++ ds) := r.append hd
 have hl : (us ++ ds).length = ps.length := by rw [<- r2.length]; exact F.len _ _ _ _ h
 refine wpAny_call (codeAny_mono (F.run X.A X.stack s H ⟨us, []⟩ (us ++ ds) (vs ++ dvs) Q E hr I.env0 (hb s us I.kIn hl) r2 h) fun r s' hq => ?_)
 cases r with
 | error e => exact hx pins σ H s e s' I hq
 | ok fl =>
  cases fl with
  | ret u => exact I.after hq
  | next => exact False.elim hq
  | brk => exact False.elim hq
  | cont => exact False.elim hq
theorem ZdO (F : ZfA X.prog X.w X.K X.mg X.base CX k f fd ps sp) (hr : Zgr k X.A) (hg : Gl X x) (hm : X.mg x = some (.ref f)) (hk : Zcw X.K (.ref f) = true) (hb : Zex X.K fd ps ds) (hd : Zei dvs ds) (hx : Zhn CX X E)
  (ha : PA X (e :: es) t) (hdb : autoParam ((x == ("__debug__" : Str)) = false) L2.Internal.auD._auto_1) (he : autoParam (starEach (e :: es) X.env = (false, eval e X.env) :: starEach es X.env) L2.Internal.auR._auto_1) (hpl : autoParam ((backTo pos (starEach es X.env)).any (·.1) = false) L2.Internal.auR._auto_1) :
  PE X (.Call (.Name x p) (e :: es) [] pos) (ZpA sp dvs E t) := by
 intro pins s σ H Q I h
 refine wpAny_Call_Name_kw (Zgm I hg hm ?_ hdb)
 refine Zcx (h₀ := X.base) I.ok.mod.kin hk (thn (ha pos pins s σ H _ I h) fun us s1 ⟨vs, H1, I1, r, q⟩ => ⟨I1.kIn, ?_⟩) he hpl
 exact ZpB F hr hb hd hx I1 r q
structure Mk (K : PySem.W.Frag) (C f : Addr) : Prop where
 makes : Zco K C = true
 init : Zci K (.ref C) "__init__" = some (some (.ref f))
 fn : PySem.W.isFn K (.ref f) = true
 kp : Zcw K (.ref C) = true
theorem ZmM {pins : List (Addr × Obj)} {σ : St} {H : Hp} {s : Shared} {Q : VK} {us : List Value} {vs : List V} (M : Mk X.K C f) (F : ZfA X.prog X.w X.K X.mg X.base CX k f fd ps sp) (hr : Zgr (k + 1) X.A) (hb : Zex X.K fd ps ds) (hd : Zei dvs ds)
  (hx : Zhn CX X E) (I : Inv X pins σ H s) (r : Zei vs us)
  (h : ∀ x dx, H x = none -> H dx = none -> dx ≠ x -> sp (.ref x :: (vs ++ dvs)) (upd (upd H dx (.own x)) x (.ins C dx [])) (fun v H2 => v = .non /\ Q (.ref x) H2) E) :
  wpAny (model X.prog X.w) X.A (call (.ref C) us) (EP X pins σ Q) X.xe s := by
 have hq := h (s.heap.objs.size + 1) s.heap.objs.size (I.hok.fresh (ZbZ _)) (I.hok.fresh (ZbV _)) (ZbR (ZbY _))
 have I2 := Inv.made (C := C) I
 have r2 : Zei (V.ref (s.heap.objs.size + 1) :: (vs ++ dvs)) (Value.ref (s.heap.objs.size + 1) :: (us ++ ds)) := .cons rfl (r.append hd)
 have hl : (Value.ref (s.heap.objs.size + 1) :: us ++ ds).length = ps.length := by
  have e := r2.length
  rw [F.len _ _ _ _ hq] at e
  exact e.symm
 refine wpAny_call (ZmL (f := f) I.kIn M.makes M.init (beq_iff_eq.mp M.fn) (codeAny_mono (F.run _ X.stack _ _ ⟨Value.ref (s.heap.objs.size + 1) :: us, []⟩ (Value.ref (s.heap.objs.size + 1) :: (us ++ ds)) _ _ E (hr.make C us [])
  (I2.env0.make C us []) (hb _ (Value.ref (s.heap.objs.size + 1) :: us) I2.kIn hl) r2 hq) fun r s' hq' => ?_))
 cases r with
 | error e => exact hx pins σ _ _ e s' I2 hq'
 | ok fl =>
  cases fl with
  | ret u =>
   obtain ⟨v, H', I3, rv, ev, q3⟩ := I2.after hq'
   subst ev
   exact ⟨rv, ⟨V.ref (s.heap.objs.size + 1), H', I3, rfl, q3⟩⟩
  | next => exact False.elim hq'
  | brk => exact False.elim hq'
  | cont => exact False.elim hq'
theorem Zod (M : Mk X.K C f) (F : ZfA X.prog X.w X.K X.mg X.base CX k f fd ps sp) (hr : Zgr (k + 1) X.A) (hg : Gl X x) (hm : X.mg x = some (.ref C)) (hb : Zex X.K fd ps ds) (hd : Zei dvs ds) (hx : Zhn CX X E)
  (ha : PA X (e :: es) t) (hdb : autoParam ((x == ("__debug__" : Str)) = false) L2.Internal.auD._auto_1) (he : autoParam (starEach (e :: es) X.env = (false, eval e X.env) :: starEach es X.env) L2.Internal.auR._auto_1) (hpl : autoParam ((backTo pos (starEach es X.env)).any (·.1) = false) L2.Internal.auR._auto_1) :
  PE X (.Call (.Name x p) (e :: es) [] pos) (Zq0 C sp dvs E t) := by
 intro pins s σ H Q I h
 refine wpAny_Call_Name_kw (Zgm I hg hm ?_ hdb)
 refine Zcx (h₀ := X.base) I.ok.mod.kin M.kp (thn (ha pos pins s σ H _ I h) fun us s1 ⟨vs, H1, I1, r, q⟩ => ⟨I1.kIn, ?_⟩) he hpl
 exact ZmM M F hr hb hd hx I1 r q
end
section
variable {X : Cx} {CX : CXT} {k : Nat} {f C : Addr} {fd : FuncData} {ps ks : List Str} {sp : Sp} {E : XK} {x m : Str} {p pos apos kpos : Pos} {e o : Expr} {es : List Expr} {kws : List Keyword} {te ta : TE} {t tk : TA} {nm : Option Str}
variable {g : List Value -> List Value -> List Value} {gV : List V -> List V -> List V}
end
structure ZdW (N P : List Str) (sc : Scope) : Prop where
 kind : sc.kind = .function
 co : sc.isCoroutine = false
 gen : sc.isGenerator = false
 nd : N.Nodup
 pre : N.take P.length = P
 par : ∀ x ∈ P, sc.names.lookup x = some .local \/ sc.names.lookup x = some .cell
 nofree : ∀ y ∈ sc.names, y.2 ≠ .free
theorem ZiQ {kindOf : Str -> Option NameKind} {x : Str} : ∀ {binds : List (Str × Value)} {m : Str -> Option Value}, (∀ v, (x, v) ∉ binds) -> bindL kindOf binds m x = m x
 | [], _, _ => rfl
 | (n, v) :: r, m, h => by
  unfold bindL
  rw [ZiQ fun w hw => h w (Zaf _ hw)]
  split
  ·have : x ≠ n := by rintro rfl; exact h v Zae
   simp [this]
  ·rfl
theorem ZiR {kindOf : Str -> Option NameKind} {x : Str} : ∀ {binds : List (Str × Value)} {m : Str -> Option Value}, (∀ v, (x, v) ∉ binds) -> bindC kindOf binds m x = m x
 | [], _, _ => rfl
 | (n, v) :: r, m, h => by
  unfold bindC
  rw [ZiR fun w hw => h w (Zaf _ hw)]
  split
  ·rfl
  ·have : x ≠ n := by rintro rfl; exact h v Zae
   simp [this]
theorem ZiS {kindOf : Str -> Option NameKind} {x : Str} {v : Value} : ∀ {P : List Str} {vs : List Value} {i : Nat} {m : Str -> Option Value}, P.Nodup -> P[i]? = some x -> vs[i]? = some v -> kindOf x = some .local ->
  bindL kindOf (P.zip vs) m x = some v
 | [], _, _, _, _, h, _, _ => by simp at h
 | _ :: _, [], _, _, _, _, h, _ => by simp at h
 | p :: P, w :: vs, 0, m, nd, h1, h2, hk => by
  simp at h1 h2; subst h1; subst h2
  show bindL kindOf ((p, w) :: P.zip vs) m p = _
  unfold bindL
  rw [ZiQ fun v hv => (Zat.mp nd).1 (Zau hv).1, if_pos hk]
  simp
 | p :: P, w :: vs, i + 1, m, nd, h1, h2, hk => by
  show bindL kindOf ((p, w) :: P.zip vs) m x = _
  unfold bindL
  exact ZiS (i := i) (Zat.mp nd).2 (by simpa using h1) (by simpa using h2) hk
theorem ZiT {kindOf : Str -> Option NameKind} {x : Str} {v : Value} : ∀ {P : List Str} {vs : List Value} {i : Nat} {m : Str -> Option Value}, P.Nodup -> P[i]? = some x -> vs[i]? = some v -> kindOf x ≠ some .local ->
  bindC kindOf (P.zip vs) m x = some v
 | [], _, _, _, _, h, _, _ => by simp at h
 | _ :: _, [], _, _, _, _, h, _ => by simp at h
 | p :: P, w :: vs, 0, m, nd, h1, h2, hk => by
  simp at h1 h2; subst h1; subst h2
  show bindC kindOf ((p, w) :: P.zip vs) m p = _
  unfold bindC
  rw [ZiR fun v hv => (Zat.mp nd).1 (Zau hv).1, if_neg hk]
  simp
 | p :: P, w :: vs, i + 1, m, nd, h1, h2, hk => by
  show bindC kindOf ((p, w) :: P.zip vs) m x = _
  unfold bindC
  exact ZiT (i := i) (Zat.mp nd).2 (by simpa using h1) (by simpa using h2) hk
noncomputable def start (N : List Str) (vs : List V) : St := vs.map some ++ Zav (N.length - vs.length) none
noncomputable def ZmC (CX : CXT) (P : Program) (w : World) (K : PySem.W.Frag) (mg : Str -> Option Value) (base : Heap) (N : List Str) (qual : Str) (scope : Scope) (f : Addr) (cd : Value) (A : Around) (outer : List Env) (s : Shared) (H : Hp) (E : XK) : Cx where
 prog := P
 w := w
 K := K
 mg := mg
 base := base
 A := A.deeper (envOfC qual scope s.heap.objs.size f cd)
 N := N
 s₀ := s
 H₀ := H
 env := envOfC qual scope s.heap.objs.size f cd
 outer := outer
 stack := envOfC qual scope s.heap.objs.size f cd :: outer
 ex := []
 calm := true
 fn := fun _ => true
 pn := []
 xe := fun e s' => wpAny (model P w) (A.deeper (envOfC qual scope s.heap.objs.size f cd)) (leaving (envOfC qual scope s.heap.objs.size f cd) e) (fun _ s'' => CX outer H s E e s'') (fun e' s'' => CX outer H s E e' s'') s'
theorem Zka {sc : Scope} {n : Nat} {x : Str} (h : sc.names.lookup x = some .cell) : ∃ c, (cellsFrom n sc.names []).lookup x = some c := by
 have q := Zcy sc.names n [] (.inl h)
 exact Zb5.mp q
theorem Zlo {CX : CXT} {P : Program} {w : World} {K : PySem.W.Frag} {mg : Str -> Option Value} {base : Heap} {N ps : List Str} {qual : Str} {scope : Scope} {f : Addr} {cd : Value} {A : Around} {outer : List Env} {s s1 : Shared} {H : Hp} {E : XK} {us : List Value} {vs : List V}
  (S : ZdW N ps scope) (hd : A.handled = none) (e0 : Zoc P w K mg base A outer s H) (hl : vs.length = ps.length) (r : Zei vs us)
  (x : InCallC s s.heap.objs.size (bindL (envOfC qual scope s.heap.objs.size f cd).kindOf (ps.zip us) fun _ => none) (cellsFrom (s.heap.objs.size + 1) scope.names []) (bindC (envOfC qual scope s.heap.objs.size f cd).kindOf (ps.zip us) fun _ => none) s1) :
  Inv (ZmC CX P w K mg base N qual scope f cd A outer s H E) [] (start N vs) H s1 := by
 have hpl : ps.length <= N.length := by have := congrArg List.length S.pre; rw [Zaw] at this; omega
 obtain ⟨h1, tk, rfl, hk⟩ := x.done
 have noA : ∀ b : Addr, b ∉ (ZmC CX P w K mg base N qual scope f cd A outer s H E).ex := fun b z => absurd (show b ∈ ([] : List Addr) from z) (by simp)
 refine ⟨⟨e0.mod, S.kind, rfl, rfl, ZbV _, fun y z c h1 h2 => ?_, fun y hy => ?_, fun y c _ h => ?_, fun _ => hd, Around.frames_deeper e0.frames, .inr ⟨rfl, rfl⟩, fun b z => absurd z (noA b), e0.bs, e0.bsz, fun b _ _ => noA b, fun b z => absurd z (noA b), e0.funs, e0.frf⟩,
  rfl, e0.bare, Un.kept hk, ⟨_, x.toInCall.ns, fun i y v h1 h2 h3 => ?_⟩, fun y c h => ⟨_, x.cell y c h⟩, e0.hok.fresh (ZbV _), fun y c h => ?_, fun p hp => absurd (show p ∈ ([] : List (Addr × Obj)) from hp) (by simp), e0.hok.kept hk, ?_⟩
 ·exact name_of_addr x.apart (PySem.mem_of_lookup h1) (PySem.mem_of_lookup h2)
 ·have hy : scope.names.lookup y = some .cell \/ scope.names.lookup y = some .free := hy
  rcases hy with hy | hy
  ·exact Zka hy
  ·exact absurd rfl (S.nofree _ (PySem.mem_of_lookup hy))
 ·exact ZbT (x.above y c (PySem.mem_of_lookup h))
 ·have hi : i < vs.length := by
   unfold start at h2
   by_cases hi : i < vs.length
   ·exact hi
   ·rw [Zax (by simpa using hi)] at h2
    rw [List.getElem?_replicate] at h2
    split at h2 <;> cases h2
  have ha : vs[i]? = some v := by
   unfold start at h2
   rw [Zay (by simpa using hi), Zaz] at h2
   cases e : vs[i]? with
   | none => rw [e] at h2; cases h2
   | some a => rw [e] at h2; cases h2; rfl
  obtain ⟨u, hu, rv⟩ := r.get ha
  have hp : ps[i]? = some y := by
   rw [<- S.pre, List.getElem?_take_of_lt (by omega)]; exact h1
  have ndP : ps.Nodup := by rw [<- S.pre]; exact S.nd.sublist (List.take_sublist _ _)
  refine ⟨u, rv, ?_⟩
  rcases S.par y (ZaA hp) with k | k
  ·exact .inl ⟨k, ZiS ndP hp hu k⟩
  ·obtain ⟨c, e⟩ := Zka (n := s.heap.objs.size + 1) k
   refine .inr ⟨.inl k, c, e, ?_⟩
   have q := x.cell y c e
   rw [ZiT ndP hp hu (by show scope.names.lookup y ≠ _; rw [k]; decide)] at q
   exact q
 ·exact e0.hok.fresh (ZbT (x.above y c (PySem.mem_of_lookup h)))
 ·unfold start
  show _ = N.length
  rw [ZaB, Zar, ZaC]
  omega
theorem ZpC {CX : CXT} {P : Program} {w : World} {K : PySem.W.Frag} {mg : Str -> Option Value} {base : Heap} {k : Nat} {f : Addr} {name qual : Str} {params : Arguments} {body : List Stmt} {scope : Scope} {dV kV doc pm cdv ct oc : Value} {an od : Option Addr}
  {osl : Array (Option Value)} {N ps : List Str} {sp : Sp} (lk : K.lookup f = some ⟨oc, od, .func (Zcz name qual params body scope dV kV doc pm an cdv ct), osl⟩) (hcd : ZcA K cdv qual = true) (S : ZdW N ps scope)
  (len : ∀ vs H Q E, sp vs H Q E -> vs.length = ps.length)
  (hbody : ∀ (A : Around) (outer : List Env) (s : Shared) (H : Hp) (vs : List V) (Q : VK) (E : XK), Zgr k (A.deeper (envOfC qual scope s.heap.objs.size f cdv)) -> sp vs H Q E ->
   ∃ t, PSs (ZmC CX P w K mg base N qual scope f cdv A outer s H E) body t /\ t { nx := fun _ H' => Q .non H', rt := Q } (start N vs) H) :
  ZfA P w K mg base CX (k + 1) f (Zcz name qual params body scope dV kV doc pm an cdv ct) ps sp := by
 refine ⟨len, fun A outer s H args us vs Q E hr e0 hb r hsp => ?_⟩
 have hl := len _ _ _ _ hsp
 have KX : K.In s.heap := e0.mod.kin.keeps fun b o e => (e0.bs b o e).1
 have lim : s.heap.NoLimit := e0.mod.nolimit.keeps fun b o e => (e0.bs b o e).1
 have hkind : ∀ y ∈ ps.zip us, scope.names.lookup y.1 = some .local \/ (scope.names.lookup y.1 = some .cell /\ ((cellsFrom (s.heap.objs.size + 1) scope.names []).lookup y.1).isSome = true) := fun ⟨n, v⟩ hy => by
  rcases S.par n (Zau hy).1 with q | q
  ·exact .inl q
  ·exact .inr ⟨q, Zcy _ _ _ (.inl q)⟩
 refine codeAny_call_function hr.depth (KX _ _ lk) rfl S.co S.gen rfl (PySem.W.codeRec_of KX hcd) (hb _ _ _ _ ?_)
 refine wpAny_newFunctionEnv_cells S.kind hkind fun env he s1 x => ?_
 subst he
 refine ⟨lim.keeps x.toInCall.keep, codeAny_func ?_⟩
 obtain ⟨t, ht, hq⟩ := hbody A outer s H vs Q E (hr.deeper _) hsp
 have I : Inv (ZmC CX P w K mg base N qual scope f cdv A outer s H E) [] (start N vs) H s1 := Zlo S hr.hd e0 hl r x
 refine wpAny_mono (ht [] s1 (start N vs) H _ I hq) (fun fl s' hs => ?_) fun e s' hs => hs
 have fin : ∀ {σ' : St} {H' : Hp} {v : V} {u : Value}, Inv (ZmC CX P w K mg base N qual scope f cdv A outer s H E) [] σ' H' s' -> ZeB v u -> Q v H' -> CE outer P w H s Q u s' :=
  fun {σ' H' v u} J rv q => ⟨v, H', J.os, J.bare, J.base, J.hok, rv, q⟩
 cases fl with
 | ret u =>
  obtain ⟨v, σ', H', J, rv, q⟩ := hs
  exact fin J rv q
 | next =>
  obtain ⟨σ', H', J, q⟩ := hs
  exact fin (v := V.non) (u := Value.none) J rfl q
 | brk =>
  obtain ⟨_, _, _, q⟩ := hs
  exact False.elim q
 | cont =>
  obtain ⟨_, _, _, q⟩ := hs
  exact False.elim q
end L2.Internal
namespace L2.Internal
open PySem PySem.Spec PyProof.Rows
section
variable {X : Cx} {x : Str} {p pos : Pos} {e : Expr} {es : List Expr} {t : TA} {id T : String} {r : List V -> Hp -> VK -> Prop}
def tCB (r : List V -> Hp -> VK -> Prop) (t : TA) : TE := fun σ H Q => t σ H fun vs H1 => r vs H1 Q
theorem ZdC (hc : Zg8 X (.builtin id) r) (hg : Gl X x) (hm : X.mg x = none) (hv : bootBuiltins x = some (.builtin id)) (ha : PA X (e :: es) t) (hn : autoParam (x ≠ "__name__") L2.Internal.auD._auto_1) (hdb : autoParam ((x == ("__debug__" : Str)) = false) L2.Internal.auD._auto_1)
  (he : autoParam (starEach (e :: es) X.env = (false, eval e X.env) :: starEach es X.env) L2.Internal.auR._auto_1) (hpl : autoParam ((backTo pos (starEach es X.env)).any (·.1) = false) L2.Internal.auR._auto_1) : PE X (.Call (.Name x p) (e :: es) [] pos) (tCB r t) := by
 intro pins s σ H Q I h
 refine wpAny_Call_Name_kw (ZfT I hg hm hv ?_ hn hdb)
 exact PyProof.Rows.callWith_builtin1 (thn (ha pos pins s σ H _ I h) fun us s1 ⟨vs, H1, I1, r1, q1⟩ => hc pins s1 σ H1 vs us Q I1 r1 q1) he hpl
theorem Zfl (hc : Zg8 X (.type T) r) (hg : Gl X x) (hm : X.mg x = none) (hv : bootBuiltins x = some (.type T)) (ha : PA X (e :: es) t) (hn : autoParam (x ≠ "__name__") L2.Internal.auD._auto_1) (hdb : autoParam ((x == ("__debug__" : Str)) = false) L2.Internal.auD._auto_1)
  (he : autoParam (starEach (e :: es) X.env = (false, eval e X.env) :: starEach es X.env) L2.Internal.auR._auto_1) (hpl : autoParam ((backTo pos (starEach es X.env)).any (·.1) = false) L2.Internal.auR._auto_1) : PE X (.Call (.Name x p) (e :: es) [] pos) (tCB r t) := by
 intro pins s σ H Q I h
 refine wpAny_Call_Name_kw (ZfT I hg hm hv ?_ hn hdb)
 exact Zdl (thn (ha pos pins s σ H _ I h) fun us s1 ⟨vs, H1, I1, r1, q1⟩ => hc pins s1 σ H1 vs us Q I1 r1 q1) he hpl
end
end L2.Internal
namespace L2.Internal
open PySem PySem.Spec PyProof.Rows
section
variable {κ : Type} [DecidableEq κ]
noncomputable def Zfp (kvs : List (κ × V)) (k : κ) : Option V := (kvs.find? fun kv => decide (kv.1 = k)).map (·.2)
noncomputable def Zgz (kvs : List (κ × V)) (k : κ) (v : V) : List (κ × V) :=
 if (kvs.any fun kv => decide (kv.1 = k)) = true then kvs.map (fun kv => if kv.1 = k then (kv.1, v) else kv) else kvs ++ [(k, v)]
theorem ZeT {p : κ × V} {r : List (κ × V)} {k : κ} (e : p.1 = k) : Zfp (p :: r) k = some p.2 := by simp [Zfp, ZaD, e]
theorem ZeU {p : κ × V} {r : List (κ × V)} {k : κ} (e : ¬ p.1 = k) : Zfp (p :: r) k = Zfp r k := by simp [Zfp, ZaD, e]
theorem ZfC (k : κ) : ∀ kvs : List (κ × V), (kvs.any fun kv => decide (kv.1 = k)) = (Zfp kvs k).isSome
 | [] => rfl
 | p :: r => by
  rw [ZaE]
  by_cases e : p.1 = k
  ·simp only [ZeT e, decide_eq_true e, Zc0, Option.isSome_some]
  ·rw [ZeU e, decide_eq_false e, Zc1]; exact ZfC k r
theorem Zkb (k j : κ) (y : V) : ∀ kvs : List (κ × V), Zfp (kvs.map fun kv => if kv.1 = k then (kv.1, y) else kv) j = (Zfp kvs j).map fun x => if j = k then y else x
 | [] => rfl
 | p :: r => by
  have ih := Zkb k j y r
  rw [Zaq]
  by_cases h : p.1 = k
  ·rw [if_pos h]
   by_cases e : p.1 = j
   ·rw [ZeT (p := (p.1, y)) e, ZeT e, Zb6, if_pos (e.symm.trans h)]
   ·rw [ZeU (p := (p.1, y)) e, ZeU e, ih]
  ·rw [if_neg h]
   by_cases e : p.1 = j
   ·rw [ZeT (p := p) e, ZeT e, Zb6, if_neg (fun z => h (e.trans z))]
   ·rw [ZeU (p := p) e, ZeU e, ih]
theorem ZiU (k j : κ) (y : V) : ∀ kvs : List (κ × V), Zfp kvs k = none -> Zfp (kvs ++ [(k, y)]) j = if j = k then some y else Zfp kvs j
 | [], _ => by
  by_cases e : k = j
  ·rw [if_pos e.symm]; exact ZeT (p := (k, y)) e
  ·rw [if_neg (fun z => e z.symm)]; exact ZeU (p := (k, y)) e
 | p :: r, hn => by
  rw [ZaF]
  have hk : ¬ p.1 = k := fun z => by rw [ZeT z] at hn; cases hn
  rw [ZeU hk] at hn
  have ih := ZiU k j y r hn
  by_cases e : p.1 = j
  ·rw [ZeT e, ZeT e, if_neg (fun z => hk (e.trans z))]
  ·rw [ZeU e, ZeU e, ih]
theorem Zes (kvs : List (κ × V)) (k j : κ) (y : V) : Zfp (Zgz kvs k y) j = if j = k then some y else Zfp kvs j := by
 unfold Zgz
 by_cases a : (kvs.any fun kv => decide (kv.1 = k)) = true
 ·rw [if_pos a, Zkb]
  rw [ZfC] at a
  by_cases e : j = k
  ·obtain ⟨x, hx⟩ := Zb5.mp a
   rw [if_pos e, e, hx, Zb6, if_pos rfl]
  ·rw [if_neg e]
   cases Zfp kvs j with
   | none => rfl
   | some x => rw [Zb6, if_neg e]
 ·rw [if_neg a]
  refine ZiU k j y kvs ?_
  rw [ZfC] at a
  cases q : Zfp kvs k with
  | none => rfl
  | some x => rw [q] at a; exact (a rfl).elim
theorem Zej (kvs : List (κ × V)) (k : κ) (v : V) : (Zgz kvs k v).length <= kvs.length + 1 := by
 unfold Zgz
 split
 ·rw [Zar]; omega
 ·rw [ZaB, Zao, ZaG]; omega
theorem ZmN {kvs : List (κ × V)} {k : κ} (v : V) (h : Zfp kvs k = none) : Zgz kvs k v = kvs ++ [(k, v)] := by
 unfold Zgz
 rw [ZfC, h]
 exact if_neg (by decide)
theorem ZiK.isSome_eq {o : Option V} {u : Option Value} (r : ZiK o u) : o.isSome = u.isSome := by
 cases o with
 | none => cases u with
  | none => rfl
  | some _ => exact (show False from r).elim
 | some _ => cases u with
  | none => exact (show False from r).elim
  | some _ => rfl
theorem KV.val {kvs : List (κ × V)} {vs : List (κ × Value)} (r : KV kvs vs) (k : κ) : ZiK (Zfp kvs k) (valueAt vs k) := by
 unfold KV at r
 induction r with
 | nil => exact True.intro
 | @cons p q ps qs h t ih =>
  obtain ⟨h1, h2⟩ := h
  by_cases e : p.1 = k
  ·have e' : q.1 = k := h1.symm.trans e
   have b : valueAt (q :: qs) k = some q.2 := by simp [valueAt, ZaD, e']
   rw [ZeT e, b]; exact h2
  ·have e' : ¬ q.1 = k := fun z => e (h1.trans z)
   have b : valueAt (q :: qs) k = valueAt qs k := by simp [valueAt, ZaD, e']
   rw [ZeU e, b]; exact ih
theorem KV.any {kvs : List (κ × V)} {vs : List (κ × Value)} (r : KV kvs vs) (k : κ) : (kvs.any fun kv => decide (kv.1 = k)) = vs.any fun kv => decide (kv.1 = k) := by
 unfold KV at r
 induction r with
 | nil => rfl
 | cons h t ih => rw [ZaE, ZaE, ih, h.1]
theorem KV.repl {kvs : List (κ × V)} {vs : List (κ × Value)} (r : KV kvs vs) (k : κ) {y : V} {u : Value} (ry : ZeB y u) :
  KV (kvs.map fun kv => if kv.1 = k then (kv.1, y) else kv) (vs.map fun kv => if kv.1 = k then (kv.1, u) else kv) := by
 unfold KV at r ⊢
 induction r with
 | nil => exact .nil
 | @cons p q ps qs h t ih =>
  rw [Zaq, Zaq]
  refine .cons ?_ ih
  obtain ⟨h1, h2⟩ := h
  by_cases e : p.1 = k
  ·rw [if_pos e, if_pos (h1.symm.trans e)]; exact ⟨h1, ry⟩
  ·rw [if_neg e, if_neg (fun z => e (h1.trans z))]; exact ⟨h1, h2⟩
theorem KV.put {kvs : List (κ × V)} {vs : List (κ × Value)} (r : KV kvs vs) (k : κ) {y : V} {u : Value} (ry : ZeB y u) : KV (Zgz kvs k y) (stored vs k u) := by
 unfold Zgz stored
 rw [r.any k]
 by_cases e : (vs.any fun kv => decide (kv.1 = k)) = true
 ·rw [if_pos e, if_pos e]; exact r.repl k ry
 ·rw [if_neg e, if_neg e]; exact Paired.snoc r ⟨rfl, ry⟩
theorem KV.length {kvs : List (κ × V)} {vs : List (κ × Value)} (r : KV kvs vs) : kvs.length = vs.length := Paired.length r
end
theorem Zlp {P : Program} {w : World} {k : Key} {u : Value} (r : ZeB (kV k) u) : (Ze3 P w).is k u = true := by
 cases k with
 | inl i => obtain ⟨t, e⟩ := (show ∃ t, u = Value.int i t from r); subst e; exact Zjv P w i t
 | inr x => obtain ⟨t, e⟩ := (show ∃ t, u = Value.str x t from r); subst e; exact Zjw P w x t
theorem ZiV {P : Program} {w : World} : ∀ {ks : List Key} {us : List Value}, Zei (ks.map kV) us -> ItemsAre (Ze3 P w) ks us
 | [], _, r => by rw [ZaH] at r; cases r; exact .nil
 | k :: ks, _, r => by
  rw [Zaq] at r
  cases r with
  | cons h t => exact .cons (Zlp h) (ZiV t)
noncomputable abbrev KT (H : Hp) : List (List Key × V) -> List (List Key × Addr × Value) -> Prop := Paired fun p q => p.1 = q.1 /\ H q.2.1 = some (.tup (p.1.map kV)) /\ ZeB p.2 q.2.2
theorem KT.val {H : Hp} {kvs : List (List Key × V)} {xs : List (List Key × Addr × Value)} (r : KT H kvs xs) (k : List Key) : ZiK (Zfp kvs k) ((atKey xs k).map (·.2)) := by
 induction r with
 | nil => exact True.intro
 | @cons p q ps qs h t ih =>
  obtain ⟨h1, _, h2⟩ := h
  by_cases e : p.1 = k
  ·have e' : q.1 = k := h1.symm.trans e
   have b : atKey (q :: qs) k = some q.2 := by simp [atKey, ZaD, e']
   rw [ZeT e, b]; exact h2
  ·have e' : ¬ q.1 = k := fun z => e (h1.trans z)
   have b : atKey (q :: qs) k = atKey qs k := by simp [atKey, ZaD, e']
   rw [ZeU e, b]; exact ih
theorem KT.repl {H : Hp} {kvs : List (List Key × V)} {xs : List (List Key × Addr × Value)} (r : KT H kvs xs) (k : List Key) {y : V} {u : Value} (ry : ZeB y u) :
  KT H (kvs.map fun kv => if kv.1 = k then (kv.1, y) else kv) (xs.map (putAt k u)) := by
 induction r with
 | nil => exact .nil
 | @cons p q ps qs h t ih =>
  rw [Zaq, Zaq]
  refine .cons ?_ ih
  obtain ⟨h1, h2, h3⟩ := h
  unfold putAt
  by_cases e : p.1 = k
  ·rw [if_pos e, if_pos (h1.symm.trans e)]; exact ⟨h1, h2, ry⟩
  ·rw [if_neg e, if_neg (fun z => e (h1.trans z))]; exact ⟨h1, h2, h3⟩
theorem KT.put {H : Hp} {kvs : List (List Key × V)} {xs : List (List Key × Addr × Value)} (r : KT H kvs xs) (k : List Key) {b : Addr} {y : V} {u : Value} (hb : H b = some (.tup (k.map kV))) (ry : ZeB y u) :
  KT H (Zgz kvs k y) (storedH xs k b u) := by
 have e : (kvs.any fun kv => decide (kv.1 = k)) = (atKey xs k).isSome := by
  rw [ZfC, (r.val k).isSome_eq, Zb7]
 unfold Zgz storedH
 rw [e]
 by_cases q : (atKey xs k).isSome = true
 ·rw [if_pos q, if_pos q]; exact r.repl k ry
 ·rw [if_neg q, if_neg q]; exact Paired.snoc r ⟨rfl, hb, ry⟩
theorem KT.keeps {H H' : Hp} {kvs : List (List Key × V)} {xs : List (List Key × Addr × Value)} (r : KT H kvs xs) (ht : ∀ b ys, H b = some (.tup ys) -> H' b = some (.tup ys)) : KT H' kvs xs :=
 Paired.mapP r fun _ _ z => ⟨z.1, ht _ _ z.2.1, z.2.2⟩
section
variable {P : Program} {w : World} {H : Hp} {h : Heap} {a : Addr}
theorem ZpD {u : HO} (ok : HOk P w H h) (e : Rd H a u) : Zer P w H h a u := e.ok ok
theorem Zlq {kvs : List (Key × V)} (ok : HOk P w H h) (e : Rd H a (.dK kvs)) : kvs.length <= sizeLine /\ (a == sysModules) = false /\ ∃ vs, KV kvs vs /\ h.DictOf (Ze3 P w) a vs :=
 show Zer P w H h a (.dK kvs) from ZpD ok e
theorem ZmO {kvs : List (Key × V)} (ok : HOk P w H h) (e : H a = some (.dK kvs)) : kvs.length <= sizeLine /\ (a == sysModules) = false /\ ∃ vs, KV kvs vs /\ h.DictOf (Ze3 P w) a vs := Zlq ok (.inl e)
theorem ZiW {ks : List Key} (ok : HOk P w H h) (e : H a = some (.tup (ks.map kV))) : (tupleKind (Ze3 P w)).is h ks a := by
 obtain ⟨_, its, r, o, h1, h2, n, h3, _⟩ := (show Zer P w H h a (.tup (ks.map kV)) from ok a _ e)
 exact ⟨o, its.toArray, n, h1, h2, h3, by simpa using ZiV r⟩
theorem Zlr {kvs : List (List Key × V)} (ok : HOk P w H h) (e : Rd H a (.dT kvs)) : kvs.length <= sizeLine /\ (a == sysModules) = false /\
  ∃ xs, KT H kvs xs /\ h.DictOfH (tupleKind (Ze3 P w)) a xs := by
 obtain ⟨z, y, xs, r, o, es, ep, h1, h2, h3, h4, h5⟩ := (show Zer P w H h a (.dT kvs) from ZpD ok e)
 refine ⟨z, y, xs, r, o, es, ep, h1, h2, h3, h4, fun x hx => ?_, h5⟩
 have all : ∀ {l : List (List Key × V)} {m : List (List Key × Addr × Value)}, KT H l m -> ∀ x ∈ m, (tupleKind (Ze3 P w)).is h x.1 x.2.1 := by
  intro l m q
  induction q with
  | nil => intro x hx; exact nomatch hx
  | @cons p q ps qs hq t ih =>
   intro x hx
   rcases Zag.mp hx with e | hx
   ·subst e
    exact ZiW ok (by rw [<- hq.1]; exact hq.2.1)
   ·exact ih x hx
 exact all r x hx
theorem Zq1 {kvs : List (List Key × V)} (ok : HOk P w H h) (e : H a = some (.dT kvs)) : kvs.length <= sizeLine /\ (a == sysModules) = false /\
  ∃ xs, KT H kvs xs /\ h.DictOfH (tupleKind (Ze3 P w)) a xs := Zlr ok (.inl e)
end
def Zk0 (H : Hp) (a : Addr) (y : V) (r : Option V) : Prop :=
 (∃ kvs k, Rd H a (.dK kvs) /\ y = kV k /\ r = Zfp kvs k) \/ ∃ kvs k b, Rd H a (.dT kvs) /\ y = .ref b /\ H b = some (.tup (k.map kV)) /\ r = Zfp kvs k
def Zk1 (H : Hp) (a : Addr) (y v : V) (H' : Hp) : Prop :=
 (∃ kvs k, H a = some (.dK kvs) /\ y = kV k /\ kvs.length < sizeLine /\ H' = upd H a (.dK (Zgz kvs k v))) \/
 ∃ kvs k b, H a = some (.dT kvs) /\ y = .ref b /\ H b = some (.tup (k.map kV)) /\ kvs.length < sizeLine /\ H' = upd H a (.dT (Zgz kvs k v))
theorem Zk0.k {H : Hp} {a : Addr} {kvs : List (Key × V)} {k : Key} (e : H a = some (.dK kvs)) : Zk0 H a (kV k) (Zfp kvs k) := .inl ⟨kvs, k, .inl e, rfl, rfl⟩
theorem Zk1.k {H : Hp} {a : Addr} {kvs : List (Key × V)} {k : Key} {v : V} (e : H a = some (.dK kvs)) (hl : kvs.length < sizeLine) : Zk1 H a (kV k) v (upd H a (.dK (Zgz kvs k v))) := .inl ⟨kvs, k, e, rfl, hl, rfl⟩
section
variable {X : Cx} {pins : List (Addr × Obj)} {σ : St} {H : Hp} {s : Shared} {a : Addr} {y v : V} {u r : Value} {o : Option V} {A : Around} {E : Value -> Shared -> Prop}
theorem Inv.big (I : Inv X pins σ H s) : sysModules < s.heap.objs.size := by
 have h : mainGlobals < s.heap.objs.size := (I.mod.glob.keeps I.bk).lt
 exact Nat.lt_trans (by decide) h
theorem Zls {Q : Value -> Shared -> Prop} (hu : A.units + 1 < cLine) (I : Inv X pins σ H s) (g : Zk0 H a y (some v)) (ry : ZeB y u) (h : ∀ w' s', Inv X pins σ H s' -> ZeB v w' -> Q w' s') :
  wpAny (model X.prog X.w) A (getItem (.ref a) u) Q E s := by
 rcases g with ⟨kvs, k, e, ey, l⟩ | ⟨kvs, k, b, e, ey, eb, l⟩
 ·subst ey
  obtain ⟨z, hd, vs, rel, dd⟩ := Zlq I.hok e
  obtain ⟨w', hw, rw'⟩ := ZiK.some_of (v := v) (o := valueAt vs k) (by rw [l]; exact rel.val k)
  exact wpAny_getItem_of (Zlp ry) dd.mapOf hw (h w' _ (I.tok _) rw')
 ·subst ey
  cases (show u = Value.ref b from ry)
  obtain ⟨z, hd, xs, rel, dd⟩ := Zlr I.hok e
  obtain ⟨w', hw, rw'⟩ := ZiK.some_of (v := v) (o := (atKey xs k).map (·.2)) (by rw [l]; exact rel.val k)
  obtain ⟨p, hp, hp2⟩ := Zb8.mp hw
  refine wpAny_getItem_heap (tupleKind_room_in1 hu) (ZiW I.hok eb) dd hp ?_
  rw [hp2]
  exact h w' _ (I.tok _) rw'
theorem d_in {Q : Value -> Shared -> Prop} (hu : A.units + 1 < cLine) (I : Inv X pins σ H s) (g : Zk0 H a y o) (ry : ZeB y u) (h : ∀ s', Inv X pins σ H s' -> Q (.bool o.isSome) s') :
  wpAny (model X.prog X.w) A (compareOp .In u (.ref a)) Q E s := by
 rcases g with ⟨kvs, k, e, ey, l⟩ | ⟨kvs, k, b, e, ey, eb, l⟩
 ·subst ey
  obtain ⟨z, hd, vs, rel, dd⟩ := Zlq I.hok e
  refine wpAny_in_of (Zlp ry) hd dd.mapOf ?_
  rw [<- (rel.val k).isSome_eq, <- l]
  exact h _ (I.tok _)
 ·subst ey
  cases (show u = Value.ref b from ry)
  obtain ⟨z, hd, xs, rel, dd⟩ := Zlr I.hok e
  refine wpAny_in_heap (tupleKind_room_in1 hu) (ZiW I.hok eb) hd dd ?_
  have q := (rel.val k).isSome_eq
  rw [Zb7] at q
  rw [<- q, <- l]
  exact h _ (I.tok _)
theorem Zoe {Q : Value -> Shared -> Prop} (hu : A.units + 1 < cLine) (I : Inv X pins σ H s) (g : Zk0 H a y o) (ry : ZeB y u) (h : ∀ s', Inv X pins σ H s' -> Q (.bool (!o.isSome)) s') :
  wpAny (model X.prog X.w) A (compareOp .NotIn u (.ref a)) Q E s := by
 rcases g with ⟨kvs, k, e, ey, l⟩ | ⟨kvs, k, b, e, ey, eb, l⟩
 ·subst ey
  obtain ⟨z, hd, vs, rel, dd⟩ := Zlq I.hok e
  refine wpAny_notIn_of (Zlp ry) hd dd.mapOf ?_
  rw [<- (rel.val k).isSome_eq, <- l]
  exact h _ (I.tok _)
 ·subst ey
  cases (show u = Value.ref b from ry)
  obtain ⟨z, hd, xs, rel, dd⟩ := Zlr I.hok e
  refine wpAny_notIn_heap (tupleKind_room_in1 hu) (ZiW I.hok eb) hd dd ?_
  have q := (rel.val k).isSome_eq
  rw [Zb7] at q
  rw [<- q, <- l]
  exact h _ (I.tok _)
theorem ZjC {h' : Heap} {t' : Nat} {ob : HO} (I : Inv X pins σ H s) (mu : Mut (H a)) (hs : Heap.SameBut a s.heap h') (he : ∃ q, h'.get? a = some q) (new : Zer X.prog X.w (upd H a ob) h' a ob) :
  Inv X pins σ (upd H a ob) { s with heap := h', toks := t' } :=
 I.write (x := a) (e := a) mu (.inl rfl) (fun b q hb z => (hs.2 b hb).trans z) he new
theorem Zlt {P : Program} {w : World} {H' : Hp} {h' : Heap} {kvs : List (Key × V)} {vs : List (Key × Value)} (z : kvs.length <= sizeLine) (hd : (a == sysModules) = false) (rel : KV kvs vs) (dd : h'.DictOf (Ze3 P w) a vs) :
  Zer P w H' h' a (.dK kvs) := ⟨z, hd, vs, rel, dd⟩
theorem Zlu {H' : Hp} {Q : Unit -> Shared -> Prop} (hu : A.units + 1 < cLine) (I : Inv X pins σ H s) (g : Zk1 H a y v H') (ry : ZeB y u) (rv : ZeB v r) (h : ∀ s', Inv X pins σ H' s' -> Q () s') :
  wpAny (model X.prog X.w) A (setItem (.ref a) u r) Q E s := by
 rcases g with ⟨kvs, k, e, ey, l, eH⟩ | ⟨kvs, k, b, e, ey, eb, l, eH⟩
 ·subst ey eH
  obtain ⟨z, hd, vs, rel, dd⟩ := ZmO I.hok e
  have hz : vs.length <= sizeLine := by rw [<- rel.length]; exact z
  have hl : (Zgz kvs k v).length <= sizeLine := by have := Zej kvs k v; omega
  refine wpAny_setItem_pairs (hsz := hz) (Zlp ry) dd fun h' dd' hs => h _ ?_
  have he : ∃ q, h'.get? a = some q := let ⟨q, _, _, hq, _⟩ := dd'; ⟨q, hq⟩
  exact ZjC I (by rw [e]; exact True.intro) hs he (Zlt hl hd (rel.put k rv) dd')
 ·subst ey eH
  cases (show u = Value.ref b from ry)
  obtain ⟨z, hd, xs, rel, dd⟩ := Zq1 I.hok e
  have hz : xs.length <= sizeLine := by rw [<- Paired.length rel]; exact z
  have hl : (Zgz kvs k v).length <= sizeLine := by have := Zej kvs k v; omega
  refine wpAny_setItem_heap (hsz := hz) (tupleKind_room_in1 hu) (ZiW I.hok eb) dd fun h' dd' hs => h _ ?_
  obtain ⟨q, es, ep, hq, h2, h3, h4, _, h5⟩ := dd'
  refine ZjC I (by rw [e]; exact True.intro) hs ⟨q, hq⟩ ⟨hl, hd, _, (rel.put k eb rv).keeps fun c ys ec => ?_, q, es, ep, hq, h2, h3, h4, h5⟩
  rw [Zdt (ZgC ec e (fun z => nomatch z))]
  exact ec
end
section
variable {X : Cx} {pins : List (Addr × Obj)} {σ : St} {H : Hp} {s : Shared} {a : Addr} {kvs : List (Key × V)} {k : Key} {u : Value} {A : Around} {E : Value -> Shared -> Prop}
end
def ZrD (i : Expr) : Prop := ∀ ov iv, subscripted i false ov iv = operate [ov, iv] (getItem ov iv)
theorem Zof {prog : Program} {w : World} {A : Around} {E : Value -> Shared -> Prop} {s : Shared} {env : Env} {value slice : Expr} {pos : Pos} {T id : String} {Q : Value -> Shared -> Prop}
  (hl : typeLookup (.type T) "__getitem__" = pure (some (.builtin id))) (hs : ZrD slice)
  (h : wpAny (model prog w) A (eval value env) (fun o s₁ => wpAny (model prog w) A (eval slice env) (fun i s₂ => s₂.TypeIs o T /\ wpAny (model prog w) A (getItem o i) Q E s₂) E s₁) E s) :
  wpAny (model prog w) A (eval (.Subscript value slice pos) env) Q E s := by
 refine Subscript_ (wpAny_mono h (fun o s₁ h₁ => wpAny_mono h₁ (fun i s₂ h₂ => ?_) fun _ _ x => x) fun _ _ x => x)
 obtain ⟨hT, h₂⟩ := h₂
 unfold subscriptTail
 refine wpAny_bind ?_
 rw [getitemInPython_of_ne hT.not_modules]
 refine wpAny_bind (wpAny_specialOf hT hl ?_)
 have fin : wpAny (model prog w) A (subscripted slice false o i) (fun r s₃ => wpAny (model prog w) A (letTemporaryGo value o r >>= fun _ => pure r) Q E s₃) E s₂ := by
  rw [hs o i]
  exact wpAny_operating (wpAny_mono h₂ (fun r s₃ h₃ => wpAny_bind (wpAny_letTemporaryGo (wpAny_pure h₃))) fun _ _ x => x)
 first
  | exact wpAny_pure (wpAny_bind fin)
  | exact wpAny_bind (wpAny_pure (wpAny_bind fin))
  | exact wpAny_bind fin
theorem ZjD {X : Cx} {pins : List (Addr × Obj)} {σ : St} {H : Hp} {s : Shared} {a : Addr} {y : V} {o : Option V} (I : Inv X pins σ H s) (g : Zk0 H a y o) : s.TypeIs (.ref a) "dict" := by
 rcases g with ⟨kvs, k, e, _, _⟩ | ⟨kvs, k, b, e, _, _, _⟩
 ·obtain ⟨_, _, vs, _, dd⟩ := Zlq I.hok e
  exact dd.typeIs
 ·obtain ⟨_, _, xs, _, dd⟩ := Zlr I.hok e
  exact dd.typeIs
def Zq2 (td ty : TE) : TE := fun σ H Q => td σ H fun x H1 => ty σ H1 fun y H2 => ∃ a v, x = .ref a /\ Zk0 H2 a y (some v) /\ Q v H2
def tDIn (ty td : TE) : TE := fun σ H Q => ty σ H fun y H1 => td σ H1 fun x H2 => ∃ a o, x = .ref a /\ Zk0 H2 a y o /\ Q (.bl o.isSome) H2
def Zog (ty td : TE) : TE := fun σ H Q => ty σ H fun y H1 => td σ H1 fun x H2 => ∃ a o, x = .ref a /\ Zk0 H2 a y o /\ Q (.bl (!o.isSome)) H2
def Zq3 (td ty tv : TE) : TS := fun D σ H => tv σ H fun v H1 => td σ H1 fun x H2 => ty σ H2 fun y H3 => ∃ a H4, x = .ref a /\ Zk1 H3 a y v H4 /\ D.nx σ H4
section
variable {X : Cx} {o i e value : Expr} {pos pos' tpos : Pos} {td ty tv : TE}
theorem Zlv (hu : X.A.units + 1 < cLine) (ho : PE X o td) (hi : PE X i ty) (hs : ZrD i) : PE X (.Subscript o i pos) (Zq2 td ty) := by
 intro pins s σ H Q I h
 refine Zof PySem.F.slot_dict_getitem.lookup hs (thn (ho pins s σ H _ I h) fun u s1 ⟨x, H1, I1, rx, q1⟩ => thn (hi pins s1 σ H1 _ I1 q1) fun iv s2 ⟨y, H2, I2, ry, a, v, ex, g, q2⟩ => ?_)
 subst ex
 obtain rfl : u = Value.ref a := rx
 exact ⟨ZjD I2 g, Zls hu I2 g ry fun w' s3 I3 rw' => ⟨v, H2, I3, rw', q2⟩⟩
theorem ZpE (hu : X.A.units + 1 < cLine) (hi : PE X i ty) (ho : PE X o td) : PC X .In i o (tDIn ty td) := by
 intro pins s σ H Q I h
 refine thn (hi pins s σ H _ I h) fun iv s1 ⟨y, H1, I1, ry, q1⟩ => thn (ho pins s1 σ H1 _ I1 q1) fun u s2 ⟨x, H2, I2, rx, a, ov, ex, g, q2⟩ => ?_
 subst ex
 obtain rfl : u = Value.ref a := rx
 exact d_in hu I2 g ry fun s3 I3 => ⟨.bl ov.isSome, H2, I3, rfl, q2⟩
theorem Zlw (hu : X.A.units + 1 < cLine) (hi : PE X i ty) (ho : PE X o td) : PC X .NotIn i o (Zog ty td) := by
 intro pins s σ H Q I h
 refine thn (hi pins s σ H _ I h) fun iv s1 ⟨y, H1, I1, ry, q1⟩ => thn (ho pins s1 σ H1 _ I1 q1) fun u s2 ⟨x, H2, I2, rx, a, ov, ex, g, q2⟩ => ?_
 subst ex
 obtain rfl : u = Value.ref a := rx
 exact Zoe hu I2 g ry fun s3 I3 => ⟨.bl (!ov.isSome), H2, I3, rfl, q2⟩
theorem Zgs (hu : X.A.units + 1 < cLine) (ho : PE X o td) (hi : PE X i ty) (hv : PE X value tv) (hs : swapsWith value (some (.Subscript o i pos')) pos.line X.env = pure false) :
  PS X (.Assign [.Subscript o i pos'] value pos) (Zq3 td ty tv) := by
 intro pins s σ H D I h
 refine wpAny_Assign_Subscript (thn (hv pins s σ H _ I h) fun r s1 ⟨v, H1, I1, rv, q1⟩ => thn (ho pins s1 σ H1 _ I1 q1) fun u s2 ⟨x, H2, I2, rx, q2⟩ => thn (hi pins s2 σ H2 _ I2 q2) fun iv s3 ⟨y, H3, I3, ry, a, H4, ex, g, q3⟩ => ?_) hs
 subst ex
 obtain rfl : u = Value.ref a := rx
 exact Zlu hu I3 g ry rv fun s4 I4 => ⟨σ, H4, I4, q3⟩
end
theorem ZmP {P : Program} {w : World} {H : Hp} (h : Heap) (hb : sysModules < h.objs.size) : Zer P w H (h.push { cls := .type "dict", data := .dict #[] }) h.objs.size (.dK []) :=
 ⟨ZbW _, beq_eq_false_iff_ne.mpr (Ne.symm (ZbR hb)), [], .nil, Heap.DictOf.new h⟩
def ZpF : TE := fun _ H Q => ∀ p, H p = none -> Q (.ref p) (upd H p (.dK []))
section
variable {X : Cx} {pos : Pos}
theorem Zhf : PE X (.Dict [] [] pos) ZpF := fun pins s σ H Q I h =>
 wpAny_Dict_empty ⟨.ref s.heap.objs.size, _, I.laid (a := s.heap.objs.size) (o := .dK []) (t' := s.toks) (fun _ _ q => Zdh _ q) (ZbV _) (ZmP s.heap I.big), rfl, h _ (I.hok.fresh (ZbV _))⟩
end
noncomputable def ZgD (kvs more : List (Key × V)) : List (Key × V) := more.foldl (fun acc kv => Zgz acc kv.1 kv.2) kvs
theorem KV.merge : ∀ {more : List (Key × V)} {rs : List (Key × Value)} {kvs : List (Key × V)} {vs : List (Key × Value)}, KV more rs -> KV kvs vs -> KV (ZgD kvs more) (merged vs rs) := by
 intro more rs kvs vs r
 unfold KV at r
 induction r generalizing kvs vs with
 | nil => intro q; exact q
 | @cons p q ps qs h t ih =>
  intro r0
  have e : KV (Zgz kvs p.1 p.2) (stored vs q.1 q.2) := by
   have := r0.put p.1 h.2
   rw [<- h.1]; exact this
  exact ih e
theorem ZfL : ∀ (more kvs : List (Key × V)), (ZgD kvs more).length <= kvs.length + more.length
 | [], kvs => by show kvs.length <= kvs.length + 0; omega
 | p :: r, kvs => by
  have h1 := ZfL r (Zgz kvs p.1 p.2)
  have h2 := Zej kvs p.1 p.2
  show (ZgD (Zgz kvs p.1 p.2) r).length <= _
  rw [Zao]; omega
structure M1 (X : Cx) (o : Expr) (m : Str) (apos : Pos) (e : Expr) (cpos : Pos) : Prop where
 base : attributeBase o m X.env (eval o X.env) = eval o X.env
 few : ((backTo cpos (starEach [e] X.env)).all (fun x => !x.1) && (backToKw cpos (keywordEach [] X.env)).all (fun x => x.1.isSome)
  && decide (([e] : List Expr).length + ([] : List Keyword).length + (if ([] : List Keyword).isEmpty then 0 else 1) < 30)) = true
 line : (apos.endLine == cpos.line) = true
 trees : backTo cpos (starEach [e] X.env) = [(false, eval e X.env)]
structure M2 (X : Cx) (o : Expr) (m : Str) (apos : Pos) (e f : Expr) (cpos : Pos) : Prop where
 base : attributeBase o m X.env (eval o X.env) = eval o X.env
 few : ((backTo cpos (starEach [e, f] X.env)).all (fun x => !x.1) && (backToKw cpos (keywordEach [] X.env)).all (fun x => x.1.isSome)
  && decide (([e, f] : List Expr).length + ([] : List Keyword).length + (if ([] : List Keyword).isEmpty then 0 else 1) < 30)) = true
 line : (apos.endLine == cpos.line) = true
 trees : backTo cpos (starEach [e, f] X.env) = [(false, eval e X.env), (false, eval f X.env)]
section
variable {X : Cx} {pins : List (Addr × Obj)} {σ : St} {H : Hp} {s : Shared} {a : Addr} {y d : V} {u r : Value} {o : Option V} {A : Around} {E : Value -> Shared -> Prop}
end
section
variable {X : Cx} {o e f : Expr} {apos cpos : Pos} {td ty tx : TE}
end
section
variable {X : Cx} {pins : List (Addr × Obj)} {σ : St} {H : Hp} {s : Shared} {a : Addr} {kvs : List (Key × V)} {A : Around} {E : Value -> Shared -> Prop}
end
section
variable {X : Cx} {pins : List (Addr × Obj)} {σ : St} {H : Hp} {s : Shared} {a : Addr} {y : V} {u : Value} {A : Around} {E : Value -> Shared -> Prop}
end
end L2.Internal
namespace HT.Internal
open PySem PyProof.Rows
section
open PySem.SeqAt
open PySem.AutoSeq1 (wpAny_loadPart')
open PySem.MeetsSeq PySem.MeetsSeq2 PySem.MeetsSeq3
end
section
variable {prog : Program} {w : World} {A : Around} {E : Value -> Shared -> Prop} {s : Shared}
theorem cat_tup {t b : Addr} {vs ws : List Value} {Q : Value -> Shared -> Prop} (ht : IsTup s.heap t vs.toArray) (hb : IsTup s.heap b ws.toArray) (hv : vs ≠ [])
  (h1 : ws = [] -> Q (.ref t) s) (h2 : ws ≠ [] -> Q (.ref s.heap.objs.size) { s with heap := s.heap.push { cls := .type "tuple", data := .seq (vs ++ ws).toArray } })
  (hsz : vs.length + ws.length <= sizeLine) : wpAny (model prog w) A (binaryOp .Add (.ref t) (.ref b)) Q E s := by
 obtain ⟨⟨cls, dd, data, sl⟩, ho, hc, n, hd⟩ := id ht
 obtain ⟨⟨cls2, dd2, data2, sl2⟩, ho2, hc2, n2, hd2⟩ := id hb
 simp only at hc hd hc2 hd2
 subst hc hd hc2 hd2
 have e : vs.toArray ++ ws.toArray = (vs ++ ws).toArray := by simp
 by_cases hw : ws = []
 ·exact concat_meets ⟨_, ho, rfl⟩ ⟨_, ho2, rfl⟩ noFill_tuple_add seq_tuple_add ZcL ZcM (ZcN _ _)
   (tuple_addW1 t b vs.toArray ws.toArray n n2 dd dd2 sl sl2 (by simpa using hv) (by simp [hw])) ⟨ho, ho2, h1 hw⟩
 ·refine concat_meets ⟨_, ho, rfl⟩ ⟨_, ho2, rfl⟩ noFill_tuple_add seq_tuple_add ZcL ZcM (ZcN _ _)
   (tuple_addW2 t b vs.toArray ws.toArray n n2 dd dd2 sl sl2 (by simpa using hv) (by simpa using hw) (by rw [ZaI, ZaI]; exact hsz)) ⟨ho, ho2, ?_⟩
  rw [e]
  exact h2 hw
noncomputable def sIx (n d : Nat) : Option Int -> Nat
 | none => d
 | some v => if v < 0 then (v + (n : Int)).toNat else min v.toNat n
theorem sIx_none (n d : Nat) : sIx n d none = d := rfl
theorem sIx_nat (n d k : Nat) : sIx n d (some (k : Int)) = min k n := by
 show (if (k : Int) < 0 then ((k : Int) + (n : Int)).toNat else min (k : Int).toNat n) = min k n
 rw [if_neg (by omega), Zda]
theorem ZpG (n d : Nat) (hd : d <= n) (o : Option Int) : sIx n d o <= n := by
 cases o with
 | none => exact hd
 | some v =>
  show (if v < 0 then (v + (n : Int)).toNat else min v.toNat n) <= n
  by_cases hv : v < 0
  ·rw [if_pos hv]; omega
  ·rw [if_neg hv]; exact Nat.min_le_right _ _
theorem Zlx (v : Int) (n d : Nat) : (if v < 0 then max (v + (n : Int)) 0 else min v (n : Int)) = ((sIx n d (some v) : Nat) : Int) := by
 show (if v < 0 then max (v + (n : Int)) 0 else min v (n : Int)) = (((if v < 0 then (v + (n : Int)).toNat else min v.toNat n) : Nat) : Int)
 by_cases hv : v < 0
 ·simp only [if_pos hv]; omega
 ·simp only [if_neg hv]; omega
theorem ZkG (lo hi : Option Int) (n : Nat) : Builtin.Slice.sliceAdjust lo hi 1 (n : Int) = (((sIx n 0 lo : Nat) : Int), ((sIx n n hi : Nat) : Int)) := by
 have h1 : ¬ ((1 : Int) < 0) := by omega
 unfold Builtin.Slice.sliceAdjust
 simp only [h1, if_false]
 refine Prod.ext ?_ ?_
 ·cases lo with
  | none => rfl
  | some v => exact Zlx v n 0
 ·cases hi with
  | none => rfl
  | some v => exact Zlx v n n
theorem ZkH (i j : Nat) : Builtin.Slice.slicePlaces (i : Int) (j : Int) 1 = j - i := by
 unfold Builtin.Slice.slicePlaces
 have h1 : (1 : Int) > 0 := by omega
 simp only [h1, if_true, Int.ediv_one]
 split <;> omega
theorem Zh3 {v : Value} {o : Option Int} {Q : Option Int -> Shared -> Prop} (p : IsPart v o) (h : Q o s) : wpAny (model prog w) A (Builtin.Slice.slicePartIndex v) Q E s := by
 cases p with
 | none => exact slicePart_none h
 | int i t => exact slicePart_int h
theorem Zg9 {sl : Addr} {vl vu : Value} {lo hi : Option Int} {n : Nat} {Q : Int × Int × Nat -> Shared -> Prop} (hs : s.heap.IsSliceOf sl vl vu .none) (pl : IsPart vl lo) (pu : IsPart vu hi)
  (h : Q (((sIx n 0 lo : Nat) : Int), 1, sIx n n hi - sIx n 0 lo) s) : wpAny (model prog w) A (Builtin.Slice.sliceApplied (.ref sl) (pure (n : Int))) Q E s := by
 obtain ⟨os, hos, hcs, hds⟩ := id hs
 unfold Builtin.Slice.sliceApplied Builtin.Slice.sliceFields
 refine wpAny_bind (wpAny_bind (wpAny_field hos hds (x := vl) rfl (wpAny_bind (wpAny_field hos hds (x := vu) rfl (wpAny_bind (wpAny_field hos hds (x := .none) rfl (wpAny_pure ?_)))))))
 refine wpAny_bind (slicePart_none ?_)
 show wpAny _ _ (if ((1 : Int) == 0) = true then _ else _) _ _ s
 rw [if_neg (by decide)]
 refine wpAny_bind (Zh3 pl (wpAny_bind (Zh3 pu (wpAny_bind (wpAny_pure ?_)))))
 show wpAny _ _ (match Builtin.Slice.sliceAdjust lo hi 1 (n : Int) with | (lo, hi) => pure (lo, (1 : Int), Builtin.Slice.slicePlaces lo hi 1)) _ _ s
 rw [ZkG lo hi n]
 show wpAny _ _ (pure (((sIx n 0 lo : Nat) : Int), (1 : Int), Builtin.Slice.slicePlaces ((sIx n 0 lo : Nat) : Int) ((sIx n n hi : Nat) : Int) 1)) _ _ s
 rw [ZkH]
 exact wpAny_pure h
theorem ZmQ (xs : Array Value) (i k : Nat) : ((Zaa k).filterMap fun (m : Nat) => xs[((i : Int) + (m : Int) * 1).toNat]?).toArray = ((xs.toList.drop i).take k).toArray := by
 have e : (fun (m : Nat) => xs[((i : Int) + (m : Int) * 1).toNat]?) = fun m => xs[i + m]? := by
  funext m
  have : ((i : Int) + (m : Int) * 1).toNat = i + m := by omega
  rw [this]
 rw [e]
 have := pick_run xs i k
 rw [List.filterMap_map] at this
 have e2 : ((fun x => xs[x]?) ∘ fun x => i + x) = fun m => xs[i + m]? := rfl
 rw [e2] at this
 rw [this]
theorem getItem_tuple_cut {t sl : Addr} {items : Array Value} {vl vu : Value} {lo hi : Option Int} {Q : Value -> Shared -> Prop} (ht : IsTup s.heap t items) (hs : s.heap.IsSliceOf sl vl vu .none) (pl : IsPart vl lo) (pu : IsPart vu hi)
  (hw : ¬ (sIx items.size 0 lo = 0 /\ sIx items.size items.size hi = items.size))
  (h : Q (.ref s.heap.objs.size) { s with heap := s.heap.push { cls := .type "tuple", data := .seq ((items.toList.drop (sIx items.size 0 lo)).take (sIx items.size items.size hi - sIx items.size 0 lo)).toArray } })
  (hsz : items.size <= sizeLine) : wpAny (model prog w) A (getItem (.ref t) (.ref sl)) Q E s := by
 have htake : sizeOk (.seq ((items.toList.drop (sIx items.size 0 lo)).take (sIx items.size items.size hi - sIx items.size 0 lo)).toArray) := by
  show ((items.toList.drop (sIx items.size 0 lo)).take (sIx items.size items.size hi - sIx items.size 0 lo)).toArray.size <= sizeLine
  rw [ZaI, Zaw, ZaJ, Zc7]
  omega
 have hj : sIx items.size items.size hi <= items.size := ZpG _ _ (ZbV _) hi
 obtain ⟨os, hos, hcs, hds⟩ := id hs
 have hTs : s.TypeIs (.ref sl) "slice" := ⟨os, hos, hcs⟩
 unfold getItem
 try with_reducible refine wpAny_holding ?_
 first | refine wpAny_bind (wpAny_pure ?_) | skip
 refine wpAny_bind (wpAny_sequenceKey ht.typeIs (by decide) ?_)
 refine wpAny_bind (wpAny_callSpecial?_slot (name := Str.ofString "__getitem__") ht.typeIs Zdm
  (wpAny_call_entry Zdm ht.typeIs entry_tuple_getitem ?_ (args_tuple_getitem _ _)))
 show wpAny _ _ (Builtin.Tuple.tupleItemsOf (.ref t) >>= _) _ _ s
 refine wpAny_bind (tupleItemsOf_ ht ?_)
 refine wpAny_bind (wpAny_typeOf hTs ?_)
 rw [if_pos (by decide)]
 refine wpAny_bind (Zg9 hs pl pu ?_)
 have hno : ¬ ((((sIx items.size 0 lo : Nat) : Int) == 0 && (1 : Int) == 1 && (sIx items.size items.size hi - sIx items.size 0 lo) == items.size) = true) := by
  intro q
  rw [Zc2, Zc2] at q
  have q1 : ((sIx items.size 0 lo : Nat) : Int) = 0 := eq_of_beq q.1.1
  have q2 : sIx items.size items.size hi - sIx items.size 0 lo = items.size := eq_of_beq q.2
  exact hw ⟨by omega, by omega⟩
 show wpAny _ _ (if (((sIx items.size 0 lo : Nat) : Int) == 0 && (1 : Int) == 1 && (sIx items.size items.size hi - sIx items.size 0 lo) == items.size) = true then _ else _) _ _ s
 rw [if_neg hno, ZmQ]
 first
  | exact wpAny_bind (m := Builtin.Tuple.tupleExact _) (wpAny_newObj_type (wpAny_pure ⟨_, rfl, wpAny_pure h⟩) htake)
  | exact wpAny_bind (m := Builtin.Tuple.tupleExact _) (wpAny_newObj_type (wpAny_bind (wpAny_pure (wpAny_pure ⟨_, rfl, wpAny_pure h⟩))) htake)
  | exact wpAny_bind (wpAny_bind (m := Builtin.Tuple.tupleExact _) (wpAny_newObj_type (wpAny_pure (wpAny_pure ⟨_, rfl, wpAny_pure h⟩)) htake))
  | exact wpAny_bind (wpAny_bind (m := Builtin.Tuple.tupleExact _) (wpAny_newObj_type (wpAny_pure ⟨_, rfl, wpAny_pure h⟩) htake))
end
end HT.Internal
namespace L2.Internal
open PySem PySem.Spec PyProof.Rows
noncomputable abbrev TO := St -> Hp -> (Option Int -> Hp -> Prop) -> Prop
def PO (X : Cx) (e : Option Expr) (t : TO) : Prop :=
 ∀ (pins : List (Addr × Obj)) (s : Shared) (σ : St) (H : Hp) (Q : Option Int -> Hp -> Prop), Inv X pins σ H s -> t σ H Q ->
  wpAny (model X.prog X.w) X.A (evalPart e X.env) (fun u s' => ∃ o H', Inv X pins σ H' s' /\ IsPart u o /\ Q o H') X.xe s
def Zoh : TO := fun _ H Q => Q none H
def Zq4 (t : TE) : TO := fun σ H Q => t σ H fun x H1 => ∃ i, x = .int i /\ Q (some i) H1
theorem Zh4 {ns : List Int} : ∀ {us : List Value}, Zei (ns.map V.int) us -> IntsAre us ns := by
 induction ns with
 | nil => intro us r; rw [ZaH] at r; cases r; exact .nil
 | cons n ns ih =>
  intro us r
  rw [Zaq] at r
  cases r with
  | cons r1 r2 =>
   obtain ⟨t, e⟩ := r1
   subst e
   exact .cons n t (ih r2)
section
variable {X : Cx} {e : Expr} {te : TE} {lo hi : Option Expr} {tl th : TO} {pos p2 : Pos}
theorem Zfv : PO X none Zoh := by
 intro pins s σ H Q I h
 rw [evalPart_none]
 exact wpAny_pure ⟨none, H, I, .none, h⟩
theorem Zfb (h : PE X e te) : PO X (some e) (Zq4 te) := by
 intro pins s σ H Q I hw
 rw [evalPart_some]
 refine thn (h pins s σ H _ I hw) fun u s1 ⟨x, H1, I1, r1, q1⟩ => ?_
 obtain ⟨i, rfl, q⟩ := q1
 obtain ⟨t, rfl⟩ := r1
 exact ⟨some i, H1, I1, .int i t, q⟩
def SlR (X : Cx) (r : V -> Option Int -> Option Int -> Hp -> VK -> Prop) : Prop :=
 ∀ (pins : List (Addr × Obj)) (s : Shared) (σ : St) (H : Hp) (x : V) (v vl vu : Value) (lo hi : Option Int) (sl : Addr) (Q : VK), Inv X pins σ H s -> ZeB x v -> s.heap.IsSliceOf sl vl vu .none -> IsPart vl lo -> IsPart vu hi -> r x lo hi H Q ->
  ∃ T id, typeLookup (.type T) "__getitem__" = pure (some (.builtin id)) /\ s.TypeIs v T /\ wpAny (model X.prog X.w) X.A (getItem v (.ref sl)) (EP X pins σ Q) X.xe s
def tSl (r : V -> Option Int -> Option Int -> Hp -> VK -> Prop) (te : TE) (tl th : TO) : TE := fun σ H Q => te σ H fun x H1 => tl σ H1 fun l H2 => th σ H2 fun u H3 => r x l u H3 Q
theorem ZeV {r : V -> Option Int -> Option Int -> Hp -> VK -> Prop} (hr : SlR X r) (he : PE X e te) (hl : PO X lo tl) (hu : PO X hi th) : PE X (.Subscript e (.Slice lo hi none p2) pos) (tSl r te tl th) := by
 intro pins s σ H Q I h
 refine Subscript_ (thn (he pins s σ H _ I h) fun v s1 ⟨x, H1, I1, r1, q1⟩ => ?_)
 refine wpAny_Slice (thn (hl pins s1 σ H1 _ I1 q1) fun vl s2 ⟨l, H2, I2, pl, q2⟩ => thn (hu pins s2 σ H2 _ I2 q2) fun vu s3 ⟨u, H3, I3, pu, q3⟩ => ?_)
 rw [evalPart_none]
 refine wpAny_pure ?_
 have I4 : Inv X pins σ H3 { s3 with heap := s3.heap.push { cls := .type "slice", data := .fields #[vl, vu, .none] } } := I3.kept (t' := s3.toks) fun b ob q => Zdh _ q
 obtain ⟨T, id, hT, ht, hg⟩ := hr pins { s3 with heap := s3.heap.push { cls := .type "slice", data := .fields #[vl, vu, .none] } } σ H3 x v vl vu l u s3.heap.objs.size Q I4 r1 (Heap.IsSliceOf.new ..) pl pu q3
 show wpAny (model X.prog X.w) X.A (subscriptTail e (.Slice lo hi none p2) v (.ref s3.heap.objs.size)) (EP X pins σ Q) X.xe { s3 with heap := s3.heap.push { cls := .type "slice", data := .fields #[vl, vu, .none] } }
 exact tail_any (ops := [.ref s3.heap.objs.size, v]) ht hT hg (by with_unfolding_all rfl)
noncomputable def Zh5 (xs : List V) (lo hi : Option Int) : List V := (xs.drop (HT.Internal.sIx xs.length 0 lo)).take (HT.Internal.sIx xs.length xs.length hi - HT.Internal.sIx xs.length 0 lo)
theorem Zho (xs : List V) (lo hi : Option Int) : (Zh5 xs lo hi).length <= xs.length := by
 unfold Zh5
 rw [Zaw, ZaJ]
 omega
def rSlT (K : PySem.W.Frag) : V -> Option Int -> Option Int -> Hp -> VK -> Prop := fun x lo hi H Q => ∃ a xs, x = .ref a /\ SqT K H a xs /\
 ¬ (HT.Internal.sIx xs.length 0 lo = 0 /\ HT.Internal.sIx xs.length xs.length hi = xs.length) /\ ∀ p, H p = none -> Q (.ref p) (upd H p (.tup (Zh5 xs lo hi)))
theorem ZpH : SlR X (rSlT X.K) := by
 intro pins s σ H x v vl vu lo hi sl Q I rx hs pl pu h
 obtain ⟨a, xs, rfl, hx, hw, q⟩ := h
 cases rx
 obtain ⟨its, r, ht, hz⟩ := I.tuple hx
 have hlen : its.toArray.size = xs.length := by rw [ZaI]; exact r.length.symm
 refine ⟨"tuple", _, Zdm.lookup, ht.typeIs, ?_⟩
 refine HT.Internal.getItem_tuple_cut ht hs pl pu (by rw [hlen]; exact hw) ?_ (by rw [hlen]; exact hz)
 rw [hlen]
 refine ⟨.ref s.heap.objs.size, _, I.laid (t' := s.toks) (o := .tup (Zh5 xs lo hi)) (fun b ob q => Zdh _ q) (ZbV _) ?_, rfl, q _ (I.hok.fresh (ZbV _))⟩
 exact ⟨ZbS (Zho xs lo hi) hz, _, (r.drop (HT.Internal.sIx xs.length 0 lo)).take (HT.Internal.sIx xs.length xs.length hi - HT.Internal.sIx xs.length 0 lo), Zky.new _ _⟩
def Zq5 (K : PySem.W.Frag) : R2 := fun x y H Q => ∃ a b xs ys, x = .ref a /\ y = .ref b /\ SqT K H a xs /\ SqT K H b ys /\ xs ≠ [] /\ xs.length + ys.length <= sizeLine /\
 (ys = [] -> Q (.ref a) H) /\ (ys ≠ [] -> ∀ p, H p = none -> Q (.ref p) (upd H p (.tup (xs ++ ys))))
theorem Zei.nil_iff {xs : List V} {us : List Value} (r : Zei xs us) : us = [] ↔ xs = [] := by
 cases r with
 | nil => simp
 | cons _ _ => simp
theorem Zoi : OpR X (binaryOp .Add) (Zq5 X.K) := by
 intro pins s σ H x y v u Q I rx ry h
 obtain ⟨a, b, xs, ys, rfl, rfl, ha, hb, hx, hz, q1, q2⟩ := h
 cases rx
 cases ry
 obtain ⟨its, r1, p1, _⟩ := I.tuple ha
 obtain ⟨its2, r2, p2, _⟩ := I.tuple hb
 refine HT.Internal.cat_tup p1 p2 (fun z => hx (r1.nil_iff.mp z)) (fun z => ⟨.ref a, H, I, rfl, q1 (r2.nil_iff.mp z)⟩) (fun z => ?_) (by rw [<- r1.length, <- r2.length]; exact hz)
 refine ⟨.ref s.heap.objs.size, _, I.laid (t' := s.toks) (o := .tup (xs ++ ys)) (fun b ob q => Zdh _ q) (ZbV _) ?_, rfl, q2 (fun w => z (r2.nil_iff.mpr w)) _ (I.hok.fresh (ZbV _))⟩
 exact ⟨by rw [ZaB]; exact hz, _, r1.append r2, Zky.new _ _⟩
end
end L2.Internal
namespace L2.Internal
open PySem PySem.Spec PyProof.Rows
noncomputable def ixN (n : Nat) (i : Int) : Option Nat := if 0 <= i then (if i < n then some i.toNat else none) else if -(n : Int) <= i then some (i + n).toNat else none
noncomputable def atI {α : Type} (xs : List α) (i : Int) : Option α := (ixN xs.length i).bind fun j => xs[j]?
theorem Zly {n : Nat} {i : Int} {j : Nat} (h : ixN n i = some j) : seqIndex? i n = some j /\ j < n /\ -(n : Int) <= i /\ i < n := by
 unfold ixN at h
 by_cases h0 : 0 <= i
 ·rw [if_pos h0] at h
  by_cases h1 : i < n
  ·rw [if_pos h1] at h
   have e : i.toNat = j := Zb4.inj h
   exact ⟨by rw [seqIndex_of h0 h1, e], by omega, by omega, h1⟩
  ·rw [if_neg h1] at h; cases h
 ·rw [if_neg h0] at h
  by_cases h1 : -(n : Int) <= i
  ·rw [if_pos h1] at h
   have e : (i + n).toNat = j := Zb4.inj h
   exact ⟨by rw [seqIndex_neg (by omega) h1, e], by omega, h1, by omega⟩
  ·rw [if_neg h1] at h; cases h
theorem ZjE {α : Type} {xs : List α} {i : Int} {v : α} (h : atI xs i = some v) : ∃ j, seqIndex? i xs.length = some j /\ xs[j]? = some v /\ j < xs.length /\ -(xs.length : Int) <= i /\ i < xs.length := by
 unfold atI at h
 cases e : ixN xs.length i with
 | none => rw [e] at h; cases h
 | some j =>
  rw [e] at h
  obtain ⟨h1, h2, h3, h4⟩ := Zly e
  exact ⟨j, h1, h, h2, h3, h4⟩
theorem Zdw {α : Type} {xs : List α} {j : Nat} {v : α} (h : xs[j]? = some v) : atI xs (j : Int) = some v := by
 have hj : j < xs.length := (Zaj.mp h).1
 have e : ixN xs.length (j : Int) = some j := by
  unfold ixN
  rw [if_pos (by omega), if_pos (by omega)]; simp
 unfold atI; rw [e]; exact h
def Zoj (b : Expr) : Prop := ∀ o i, subscripted b false o i = operate [o, i] (getItem o i)
def IxR (X : Cx) (r : R2) : Prop :=
 ∀ (value slice : Expr) (pins : List (Addr × Obj)) (s : Shared) (σ : St) (H : Hp) (x y : V) (v u : Value) (Q : VK), Inv X pins σ H s -> ZeB x v -> ZeB y u -> r x y H Q ->
  subscripted slice false v u = operate [v, u] (getItem v u) -> wpAny (model X.prog X.w) X.A (subscriptTail value slice v u) (EP X pins σ Q) X.xe s
def MtR (X : Cx) (id : String) (r : V -> List V -> Hp -> VK -> Prop) : Prop :=
 ∀ (pins : List (Addr × Obj)) (s : Shared) (σ : St) (H : Hp) (x : V) (xs : List V) (v : Value) (us : List Value) (Q : VK), Inv X pins σ H s -> ZeB x v -> Zei xs us -> r x xs H Q ->
  wpAny (model X.prog X.w) X.A (call (.builtin id) (v :: us)) (EP X pins σ Q) X.xe s
section
variable {X : Cx} {a b : Expr} {ta tb : TE} {pos : Pos}
theorem ZdG {r : R2} (hr : IxR X r) (ha : PE X a ta) (hb : PE X b tb) (hs : Zoj b) : PE X (.Subscript a b pos) (tOp r ta tb) := by
 intro pins s σ H Q I h
 exact Subscript_ (ZqS ha hb I h fun v u s2 x y H2 I2 rx ry q => hr a b pins s2 σ H2 x y v u Q I2 rx ry q (hs _ _))
def rIxL (K : PySem.W.Frag) : R2 := fun x y H Q => ∃ p xs i v, x = .ref p /\ y = .int i /\ SqL K H p xs /\ atI xs i = some v /\ Q v H
def rIxT (K : PySem.W.Frag) : R2 := fun x y H Q => ∃ p xs i v, x = .ref p /\ y = .int i /\ SqT K H p xs /\ atI xs i = some v /\ Q v H
def rIxS : R2 := fun x y H Q => ∃ z i c, x = .str z /\ y = .int i /\ z.length <= sizeLine /\ atI z.cps.toList i = some c /\ Q (.str ⟨#[c]⟩) H
theorem Zok : IxR X (rIxL X.K) := by
 intro value slice pins s σ H x y v u Q I rx ry h hs
 obtain ⟨p, xs, i, z, rfl, rfl, hq, he, q⟩ := h
 cases rx
 obtain ⟨t, rfl⟩ := ry
 obtain ⟨its, r, pl, hz⟩ := I.list hq
 obtain ⟨j, h1, h2, h3, h4, h5⟩ := ZjE he
 obtain ⟨w, ew, rw'⟩ := r.get h2
 have hl := r.length
 have hn := ZiN
 have fin : EP X pins σ Q w s := ⟨z, H, I, rw', q⟩
 by_cases h0 : 0 <= i
 ·have hj : i.toNat = j := by
   rw [seqIndex_of h0 h5] at h1
   exact Zb4.inj h1
  exact item_listR pl.isList h0 (by omega) (by rw [hj]; simpa using ew) fin hs
 ·have hj : (i + (its.toArray.size : Int)).toNat = j := by
   rw [seqIndex_neg (by omega) h4] at h1
   rw [ZaI, <- hl]
   exact Zb4.inj h1
  exact subscriptTail_builtinR (x := w) pl.isList.typeIs slot_list_getitem.lookup
   (wpAny_getItem_list_neg (Q := fun r s' => r = w /\ EP X pins σ Q r s') pl.isList (by omega) (by rw [ZaI] <;> omega) (by omega) (by rw [hj]; simpa using ew) ⟨rfl, fin⟩) hs
theorem ZpI : IxR X (rIxT X.K) := by
 intro value slice pins s σ H x y v u Q I rx ry h hs
 obtain ⟨p, xs, i, z, rfl, rfl, hq, he, q⟩ := h
 cases rx
 obtain ⟨t, rfl⟩ := ry
 obtain ⟨its, r, pl, hz⟩ := I.tuple hq
 obtain ⟨j, h1, h2, h3, h4, h5⟩ := ZjE he
 obtain ⟨w, ew, rw'⟩ := r.get h2
 have hl := r.length
 have hn := ZiN
 have fin : EP X pins σ Q w s := ⟨z, H, I, rw', q⟩
 exact subscriptTail_builtinR (x := w) pl.typeIs slot_tuple_getitem.lookup
  (getItem_tuple (j := j) (Q := fun r s' => r = w /\ EP X pins σ Q r s') pl (by omega) (by omega) (by rw [ZaI, <- hl]; exact h1) (by simpa using ew) ⟨rfl, fin⟩) hs
theorem ZpJ : IxR X rIxS := by
 intro value slice pins s σ H x y v u Q I rx ry h hs
 obtain ⟨z, i, c, rfl, rfl, hz, he, q⟩ := h
 obtain ⟨t, rfl⟩ := rx
 obtain ⟨t', rfl⟩ := ry
 obtain ⟨j, h1, h2, h3, h4, h5⟩ := ZjE he
 have hl : z.cps.toList.length = z.length := by simp [Str.length]
 rw [hl] at h1 h4 h5
 have hn := ZiN
 exact tail_any (typeIs_str s z t) slot_str_getitem.lookup (getItem_str (c := c) (by
  have e1 : decide (i < -(2 ^ 63 : Int)) = false := decide_eq_false (by omega)
  have e2 : decide (i ≥ 2 ^ 63) = false := decide_eq_false (by omega)
  rw [e1, e2, Bool.or_false]) (by rw [h1]; simpa using h2) ⟨.str ⟨#[c]⟩, H, I.tok _, ⟨_, rfl⟩, q⟩) hs
theorem ZkI (its : List Value) (n j : Nat) (u : Value) : Obj.mapSeq (·.setIfInBounds j u) { cls := .type "list", data := .seq its.toArray n } = { cls := .type "list", data := .seq (its.set j u).toArray n } := by
 simp [Obj.mapSeq]
theorem Inv.lst {pins : List (Addr × Obj)} {σ : St} {H : Hp} {s : Shared} {p : Addr} {xs : List V} (I : Inv X pins σ H s) (h : H p = some (.lst xs)) :
  ∃ (its : List Value) (n : Nat), Zei xs its /\ s.heap.get? p = some { cls := .type "list", data := .seq its.toArray n } /\ xs.length <= sizeLine := by
 obtain ⟨z, its, n, r, e⟩ := I.hok p _ h
 exact ⟨its, n, r, e, z⟩
theorem Inv.lstUpd {pins : List (Addr × Obj)} {σ : St} {H : Hp} {s : Shared} {p : Addr} {xs ys : List V} {its its' : List Value} {n n' : Nat} {f : Obj -> Obj} (I : Inv X pins σ H s) (h : H p = some (.lst xs))
  (ho : s.heap.get? p = some { cls := .type "list", data := .seq its.toArray n }) (hf : f { cls := .type "list", data := .seq its.toArray n } = { cls := .type "list", data := .seq its'.toArray n' }) (r : Zei ys its') (hz : ys.length <= sizeLine) (t : Nat) :
  Inv X pins σ (upd H p (.lst ys)) { s with heap := s.heap.update p f, toks := t } := by
 have e : (s.heap.update p f).get? p = some { cls := .type "list", data := .seq its'.toArray n' } := by
  rw [Zdj f ho (by rw [hf] <;> rfl), hf]
 refine I.write (x := p) (e := p) (by rw [h]; trivial) (.inl rfl) (fun b u hb q => (Zdk _ _ (Ne.symm hb)).trans q) ⟨_, e⟩ ?_
 exact ⟨hz, its', n', r, e⟩
noncomputable def Zq6 : V -> V -> V -> Hp -> (Hp -> Prop) -> Prop := fun o i v H Q => ∃ p xs k j, o = .ref p /\ i = .int k /\ H p = some (.lst xs) /\ ixN xs.length k = some j /\ Q (upd H p (.lst (xs.set j v)))
theorem Zii : Zry X Zq6 := by
 intro pins s σ H o i v ov iv u Q I ro ri rv h
 obtain ⟨p, xs, k, j, rfl, rfl, hp, hj, q⟩ := h
 cases ro
 obtain ⟨t, rfl⟩ := ri
 obtain ⟨its, n, r, ho, hz⟩ := I.lst hp
 obtain ⟨h1, h2, h3, h4⟩ := Zly hj
 have hl := r.length
 have hn := ZiN
 have I' : Inv X pins σ (upd H p (.lst (xs.set j v))) { s with heap := s.heap.update p (Obj.mapSeq (·.setIfInBounds j u)) } :=
  I.lstUpd hp ho (ZkI its n j u) (r.set rv j) (by rw [ZaK]; exact hz) s.toks
 by_cases h0 : 0 <= k
 ·have hk : k.toNat = j := by
   rw [seqIndex_of h0 h4] at h1
   exact Zb4.inj h1
  exact PySem.W.ki_setAt ho h0 (by omega) (by rw [ZaI, <- hl]; exact h4) (by rw [hk]; exact ⟨_, I', q⟩)
 ·have hk : (k + (its.toArray.size : Int)).toNat = j := by
   rw [seqIndex_neg (by omega) h3] at h1
   rw [ZaI, <- hl]
   exact Zb4.inj h1
  exact PySem.W.ki_setBack ho (by omega) (by rw [ZaI, <- hl]; exact h3) (by omega) (by rw [hk]; exact ⟨_, I', q⟩)
theorem ZiX (lo hi : Option Int) (n : Nat) : (sliceBounds lo hi none n).1 = ((HT.Internal.sIx n 0 lo : Nat) : Int) /\ (sliceBounds lo hi none n).2.1 = ((HT.Internal.sIx n n hi : Nat) : Int) /\ (sliceBounds lo hi none n).2.2 = 1 := by
 refine ⟨?_, ?_, rfl⟩
 ·cases lo with
  | none => simp [sliceBounds, HT.Internal.sIx]
  | some i =>
   simp only [sliceBounds, HT.Internal.sIx, Option.getD_none, show (1 : Int) > 0 by decide, if_true]
   by_cases h : i < 0
   ·simp only [h, if_true] <;> omega
   ·simp only [h, if_false] <;> omega
 ·cases hi with
  | none => simp [sliceBounds, HT.Internal.sIx]
  | some i =>
   simp only [sliceBounds, HT.Internal.sIx, Option.getD_none, show (1 : Int) > 0 by decide, if_true]
   by_cases h : i < 0
   ·simp only [h, if_true] <;> omega
   ·simp only [h, if_false] <;> omega
theorem Zij (its : List Value) (lo hi : Option Int) : slicePick its.toArray lo hi none = ((its.drop (HT.Internal.sIx its.length 0 lo)).take (HT.Internal.sIx its.length its.length hi - HT.Internal.sIx its.length 0 lo)).toArray := by
 obtain ⟨h1, h2, h3⟩ := ZiX lo hi its.toArray.size
 unfold slicePick
 rw [h1, h2, h3]
 simp only [sliceRange_one, pick_run, ZaI] <;> rfl
def rSlL (K : PySem.W.Frag) : V -> Option Int -> Option Int -> Hp -> VK -> Prop := fun x lo hi H Q => ∃ a xs, x = .ref a /\ SqL K H a xs /\ ∀ p, H p = none -> Q (.ref p) (upd H p (.lst (Zh5 xs lo hi)))
theorem Zhp : SlR X (rSlL X.K) := by
 intro pins s σ H x v vl vu lo hi sl Q I rx hs pl pu h
 obtain ⟨a, xs, rfl, hx, q⟩ := h
 cases rx
 obtain ⟨its, r, ht, hz⟩ := I.list hx
 have hlen := r.length
 refine ⟨"list", _, slot_list_getitem.lookup, ht.isList.typeIs, ?_⟩
 refine wpAny_getItem_list_slice ht.isList hs pl pu .none (by simp) ?_ (by rw [ZaI] <;> omega)
 rw [Zij, <- hlen]
 refine ⟨.ref s.heap.objs.size, _, I.laid (t' := s.toks) (o := .lst (Zh5 xs lo hi)) (fun b ob q => Zdh _ q) (ZbV _) ?_, rfl, q _ (I.hok.fresh (ZbV _))⟩
 exact ⟨ZbS (Zho xs lo hi) hz, _, 0, (r.drop (HT.Internal.sIx xs.length 0 lo)).take (HT.Internal.sIx xs.length xs.length hi - HT.Internal.sIx xs.length 0 lo), Zdf _ rfl⟩
noncomputable def Zgd : V -> Bool
 | .non => true
 | .bl _ => true
 | .int _ => true
 | .str _ => true
 | _ => false
noncomputable def eqV : V -> V -> Bool
 | .non, .non => true
 | .bl a, .bl b => a == b
 | .bl a, .int b => (if a then 1 else 0) == b
 | .int a, .bl b => a == (if b then 1 else 0)
 | .int a, .int b => a == b
 | .str a, .str b => a == b
 | _, _ => false
theorem Zkc {A : Around} {s : Shared} {y x : V} {u v : Value} (ry : ZeB y u) (rx : ZeB x v) (fy : Zgd y = true) (fx : Zgd x = true) : SeqAt.EqAt A s u v (eqV y x) := by
 cases y with
 | non =>
  cases ry
  cases x with
  | non => cases rx; exact SeqAt.EqAt.same _
  | bl b => cases rx; exact SeqAt.EqAt.none_bool b
  | int b => obtain ⟨t, rfl⟩ := rx; exact SeqAt.EqAt.none_int b t
  | str b => obtain ⟨t, rfl⟩ := rx; exact SeqAt.EqAt.none_str b t
  | _ => exact absurd (show false = true from fx) ZcY
 | bl a =>
  cases ry
  cases x with
  | non => cases rx; exact SeqAt.EqAt.bool_none a
  | bl b => cases rx; exact SeqAt.EqAt.bool_bool a b
  | int b => obtain ⟨t, rfl⟩ := rx; exact SeqAt.EqAt.bool_int a b t
  | str b => obtain ⟨t, rfl⟩ := rx; exact SeqAt.EqAt.bool_str a b t
  | _ => exact absurd (show false = true from fx) ZcY
 | int a =>
  obtain ⟨t', rfl⟩ := ry
  cases x with
  | non => cases rx; exact SeqAt.EqAt.int_none a t'
  | bl b => cases rx; exact SeqAt.EqAt.int_bool a t' b
  | int b => obtain ⟨t, rfl⟩ := rx; exact SeqAt.EqAt.int_int a t' b t
  | str b => obtain ⟨t, rfl⟩ := rx; exact SeqAt.EqAt.int_str a t' b t
  | _ => exact absurd (show false = true from fx) ZcY
 | str a =>
  obtain ⟨t', rfl⟩ := ry
  cases x with
  | non => cases rx; exact SeqAt.EqAt.str_none a t'
  | bl b => cases rx; exact SeqAt.EqAt.str_bool a t' b
  | int b => obtain ⟨t, rfl⟩ := rx; exact SeqAt.EqAt.str_int a t' b t
  | str b => obtain ⟨t, rfl⟩ := rx; exact SeqAt.EqAt.str_str a t' b t
  | _ => exact absurd (show false = true from fx) ZcY
 | _ => exact absurd (show false = true from fy) ZcY
noncomputable def eqU (x : V) (u : Value) : Bool := match u with
 | .none => eqV .non x
 | .bool b => eqV (.bl b) x
 | .int i _ => eqV (.int i) x
 | .str z _ => eqV (.str z) x
 | _ => false
theorem Znz {x y : V} {u : Value} (r : ZeB y u) (f : Zgd y = true) : eqU x u = eqV y x := by
 cases y with
 | non => cases r; rfl
 | bl b => cases r; rfl
 | int i => obtain ⟨t, rfl⟩ := r; rfl
 | str z => obtain ⟨t, rfl⟩ := r; rfl
 | _ => exact absurd (show false = true from f) ZcY
theorem ZjF {x : V} : ∀ {xs : List V} {us : List Value}, Zei xs us -> xs.all Zgd = true -> us.any (eqU x) = xs.any fun y => eqV y x
 | _, _, .nil, _ => rfl
 | y :: xs, u :: us, .cons r t, f => by
  rw [ZaL, Zc2] at f
  rw [ZaE, ZaE, Znz r f.1, ZjF t f.2]
theorem Zik {A : Around} {s : Shared} {x : V} {v : Value} (rx : ZeB x v) (fx : Zgd x = true) : ∀ {xs : List V} {us : List Value}, Zei xs us -> xs.all Zgd = true -> ∀ u ∈ us, SeqAt.EqAt A s u v (eqU x u)
 | _, _, .nil, _ => fun u hu => by cases hu
 | y :: xs, u :: us, .cons r t, f => fun u' hu => by
  rw [ZaL, Zc2] at f
  rcases Zag.mp hu with rfl | hu
  ·rw [Znz r f.1]; exact Zkc r rx f.1 fx
  ·exact Zik rx fx t f.2 u' hu
noncomputable def inV (x : V) (xs : List V) : Bool := xs.any fun y => eqV y x
def rIn (K : PySem.W.Frag) (neg : Bool) : R2 := fun x y H Q => ∃ p xs, y = .ref p /\ (SqL K H p xs \/ SqT K H p xs) /\ Zgd x = true /\ xs.all Zgd = true /\ Q (.bl (if neg then !inV x xs else inV x xs)) H
theorem Zhq : OpR X (compareOp .In) (rIn X.K false) := by
 intro pins s σ H x y v u Q I rx ry h
 obtain ⟨p, xs, rfl, hq, fx, fs, q⟩ := h
 cases ry
 rcases hq with hq | hq
 ·obtain ⟨its, r, pl, hz⟩ := I.list hq
  refine SeqAt.in_listAt (eqU x) pl.isList (fun w hw => Zik rx fx r fs w (by simpa using hw)) ⟨.bl _, H, I, rfl, ?_⟩
  rw [show its.toArray.any (eqU x) = its.any (eqU x) by simp, ZjF r fs]
  exact q
 ·obtain ⟨its, r, pl, hz⟩ := I.tuple hq
  refine SeqAt.in_tupleAt (eqU x) pl (fun w hw => Zik rx fx r fs w (by simpa using hw)) ⟨.bl _, H, I, rfl, ?_⟩
  rw [show its.toArray.any (eqU x) = its.any (eqU x) by simp, ZjF r fs]
  exact q
theorem Zdz : Zg8 X (.builtin "len") (fun xs H Q => ∃ p ys, xs = [.ref p] /\ (SqL X.K H p ys \/ SqT X.K H p ys) /\ Q (.int ys.length) H) := by
 intro pins s σ H xs us Q I r h
 obtain ⟨p, ys, rfl, hq, q⟩ := h
 obtain ⟨u, rfl, rx⟩ := ZgX r
 cases rx
 have hn := ZiN
 rcases hq with hq | hq
 ·obtain ⟨its, r', pl, hz⟩ := I.list hq
  have hlen := r'.length
  exact Calls.call_len_list pl.isList (by simp only [ZaI] <;> omega) ⟨.int ys.length, H, I.tok _, ⟨s.toks + 1, by rw [ZaI, hlen]⟩, q⟩
 ·obtain ⟨its, r', pl, hz⟩ := I.tuple hq
  have hlen := r'.length
  exact len_tuple pl (by simp only [ZaI] <;> omega) ⟨.int ys.length, H, I.tok _, ⟨s.toks + 1, by rw [ZaI, hlen]⟩, q⟩
theorem ZiY : Zg8 X (.type "list") (fun xs H Q => ∃ p ys, xs = [.ref p] /\ (SqL X.K H p ys \/ SqT X.K H p ys) /\ ∀ l, H l = none -> Q (.ref l) (upd H l (.lst ys))) := by
 intro pins s σ H xs us Q I r h
 obtain ⟨p, ys, rfl, hq, q⟩ := h
 obtain ⟨u, rfl, rx⟩ := ZgX r
 cases rx
 have fin : ∀ (its : List Value), Zei ys its -> ys.length <= sizeLine -> ∀ (h' : Heap) (c' : Nat), (∀ b o', s.heap.get? b = some o' -> h'.get? b = some o') ->
   h'.get? s.heap.objs.size = some { cls := .type "list", dict := none, data := .seq its.toArray c', slots := #[] } -> EP X pins σ Q (.ref s.heap.objs.size) { s with heap := h' } := fun its r' hz h' c' kp e =>
  ⟨.ref s.heap.objs.size, _, I.laid (t' := s.toks) kp (ZbV _) (show Zer X.prog X.w _ h' _ (.lst ys) from ⟨hz, its, c', r', e⟩), rfl, q _ (I.hok.fresh (ZbV _))⟩
 rcases hq with hq | hq
 ·obtain ⟨its, r', pl, hz⟩ := I.list hq
  have hlen := r'.length
  obtain ⟨o, ho, hc, n, hd⟩ := pl.isList
  exact call_list_seq p (.inl rfl) ho hc hd (fun h' c' kp e => fin its r' hz h' c' kp e) (by simp only [ZaI] <;> omega)
 ·obtain ⟨its, r', pl, hz⟩ := I.tuple hq
  have hlen := r'.length
  obtain ⟨o, ho, hc, n, hd⟩ := pl
  exact call_list_seq p (.inr rfl) ho hc hd (fun h' c' kp e => fin its r' hz h' c' kp e) (by simp only [ZaI] <;> omega)
theorem Zfs : Zg8 X (.type "tuple") (fun xs H Q => ∃ p ys, xs = [.ref p] /\ ((SqL X.K H p ys /\ ∀ l, H l = none -> Q (.ref l) (upd H l (.tup ys))) \/ (SqT X.K H p ys /\ Q (.ref p) H))) := by
 intro pins s σ H xs us Q I r h
 obtain ⟨p, ys, rfl, h⟩ := h
 obtain ⟨u, rfl, rx⟩ := ZgX r
 cases rx
 rcases h with ⟨hq, q⟩ | ⟨hq, q⟩
 ·obtain ⟨its, r', pl, hz⟩ := I.list hq
  have hlen := r'.length
  refine call_tuple_list pl.isList (fun h' kp => ?_) (by simp only [ZaI] <;> omega)
  have I1 : Inv X pins σ H { s with heap := h' } := I.kept (t' := s.toks) kp
  have I2 : Inv X pins σ (upd H h'.objs.size (.tup ys)) { s with heap := h'.push { cls := .type "tuple", data := .seq its.toArray } } :=
   I1.laid (t' := s.toks) (fun b o e => Zdh _ e) (ZbV _) (show Zer X.prog X.w _ _ _ (.tup ys) from ⟨hz, its, r', Zky.new _ _⟩)
  exact ⟨.ref h'.objs.size, _, I2, rfl, q _ (I1.hok.fresh (ZbV _))⟩
 ·obtain ⟨its, r', pl, hz⟩ := I.tuple hq
  exact call_tuple_same pl ⟨.ref p, H, I, rfl, q⟩
def tyV (K : PySem.W.Frag) (T : String) (x : V) (H : Hp) : Prop := match x with
 | .str _ => T = "str"
 | .int _ => T = "int"
 | .ref p => (T = "list" /\ ∃ xs, SqL K H p xs) \/ (T = "tuple" /\ ∃ o, K.lookup p = some o /\ o.cls = .type "tuple" /\ o.dict = none) \/
   (T = "dict" /\ ((∃ kvs, H p = some (.dK kvs)) \/ ∃ kvs, H p = some (.dT kvs))) \/ (T = "set" /\ ∃ S n, H p = some (.set S n))
 | _ => False
theorem ZnA {pins : List (Addr × Obj)} {σ : St} {H : Hp} {s : Shared} {T : String} {x : V} {v : Value} (I : Inv X pins σ H s) (r : ZeB x v) (ty : tyV X.K T x H) :
  s.TypeIs v T /\ ∀ a, v = .ref a -> ∃ ob, s.heap.get? a = some ob /\ ob.dict = none := by
 cases x with
 | str z =>
  obtain ⟨t, rfl⟩ := r
  cases (show T = "str" from ty)
  exact ⟨typeIs_str s z t, fun _ e => nomatch e⟩
 | int i =>
  obtain ⟨t, rfl⟩ := r
  cases (show T = "int" from ty)
  exact ⟨typeIs_int s i t, fun _ e => nomatch e⟩
 | ref p =>
  cases r
  rcases ty with ⟨rfl, xs, hq⟩ | ⟨rfl, o, hk, hc, hd⟩ | ⟨rfl, hk⟩ | ⟨rfl, S, n, hk⟩
  ·obtain ⟨its, _, pl, _⟩ := I.list hq
   refine ⟨pl.isList.typeIs, fun a e => ?_⟩
   cases e
   obtain ⟨o, n, e, c, hd, _⟩ := pl
   exact ⟨o, e, hd⟩
  ·refine ⟨⟨o, I.kIn p o hk, hc⟩, fun a e => ?_⟩
   cases e
   exact ⟨o, I.kIn _ o hk, hd⟩
  ·have z : ∃ o, s.heap.get? p = some o /\ o.ExactDict := by
    rcases hk with ⟨kvs, hk⟩ | ⟨kvs, hk⟩
    ·obtain ⟨_, _, _, _, o, _, _, e, ex, _⟩ := I.hok p _ hk
     exact ⟨o, e, ex⟩
    ·obtain ⟨_, _, _, _, o, _, _, e, ex, _⟩ := I.hok p _ hk
     exact ⟨o, e, ex⟩
   obtain ⟨o, e, ex⟩ := z
   refine ⟨⟨o, e, ex.1⟩, fun a e2 => ?_⟩
   cases e2
   exact ⟨o, e, ex.2.1⟩
  ·obtain ⟨o, _, _, _, e, ex, _⟩ := I.hok p _ hk
   refine ⟨⟨o, e, ex.1⟩, fun a e2 => ?_⟩
   cases e2
   exact ⟨o, e, ex.2.1⟩
 | _ => exact False.elim ty
def tBM0 (K : PySem.W.Frag) (T : String) (r : V -> List V -> Hp -> VK -> Prop) (to : TE) : TE := fun σ H Q => to σ H fun x H1 => tyV K T x H1 /\ r x [] H1 Q
def tBM (K : PySem.W.Frag) (T : String) (r : V -> List V -> Hp -> VK -> Prop) (to : TE) (t : TA) : TE := fun σ H Q => to σ H fun x H1 => tyV K T x H1 /\ t σ H1 fun xs H2 => r x xs H2 Q
variable {o e : Expr} {es : List Expr} {to : TE} {t : TA} {name : Str} {apos cpos : Pos} {T id : String} {r : V -> List V -> Hp -> VK -> Prop}
theorem Zlz (pa : PlainAttrs T) (slot : Slot T name id) (hty : typeOf (.builtin id) = pure (.type "method_descriptor")) (hm : MtR X id r) (ho : PE X o to)
  (hbase : autoParam (attributeBase o name X.env (eval o X.env) = eval o X.env) L2.Internal.auR._auto_1) (hline : autoParam ((apos.endLine == cpos.line) = true) L2.Internal.auR._auto_1) : PE X (.Call (.Attribute o name apos) [] [] cpos) (tBM0 X.K T r to) := by
 intro pins s σ H Q I h
 refine wpAny_Call_method0_late hbase hline (thn (ho pins s σ H _ I h) fun v s1 ⟨x, H1, I1, r1, ty, q1⟩ => ?_)
 obtain ⟨h1, h2⟩ := ZnA I1 r1 ty
 exact ⟨T, id, pa, slot, hty, h1, h2, Calls.callWith_builtin rfl (PySem.evalArgs_none (hm pins s1 σ H1 x [] v [] Q I1 r1 .nil q1))⟩
theorem ZfW (pa : PlainAttrs T) (slot : Slot T name id) (hty : typeOf (.builtin id) = pure (.type "method_descriptor")) (hm : MtR X id r) (ho : PE X o to) (ha : PA X (e :: es) t)
  (hbase : autoParam (attributeBase o name X.env (eval o X.env) = eval o X.env) L2.Internal.auR._auto_1)
  (hfew : ((backTo cpos (starEach (e :: es) X.env)).all (fun x => !x.1) && (backToKw cpos (keywordEach [] X.env)).all (fun x => x.1.isSome)
   && decide ((e :: es).length + ([] : List Keyword).length + (if ([] : List Keyword).isEmpty then 0 else 1) < 30)) = true := by rfl)
  (hline : autoParam ((apos.endLine == cpos.line) = true) L2.Internal.auR._auto_1) (hs : autoParam (starEach (e :: es) X.env = (false, eval e X.env) :: starEach es X.env) L2.Internal.auR._auto_1) (hplain : autoParam ((backTo cpos (starEach es X.env)).any (·.1) = false) L2.Internal.auR._auto_1) :
  PE X (.Call (.Attribute o name apos) (e :: es) [] cpos) (tBM X.K T r to t) := by
 intro pins s σ H Q I h
 refine wpAny_Call_method_late hbase hfew hline rfl (thn (ho pins s σ H _ I h) fun v s1 ⟨x, H1, I1, r1, ty, q1⟩ => ?_)
 obtain ⟨h1, h2⟩ := ZnA I1 r1 ty
 refine ⟨T, id, pa, slot, hty, h1, h2, ?_⟩
 have hA := ha cpos pins s1 σ H1 _ I1 q1
 rw [hs] at hA ⊢
 refine Calls.callWith_builtin (by show (false || (backTo cpos (starEach es X.env)).any (·.1)) = false; rw [hplain] <;> rfl) (Calls.evalArgs_plain ?_)
 exact thn hA fun us s2 ⟨vs, H2, I2, r2, q2⟩ => hm pins s2 σ H2 x vs v us Q I2 r1 r2 q2
end
end L2.Internal
namespace L2.Internal
open PySem PySem.Spec PyProof.Rows
def MtM (X : Cx) (id : String) (r : V -> List V -> Hp -> VK -> Prop) : Prop :=
 ∀ (pins : List (Addr × Obj)) (s : Shared) (σ : St) (H : Hp) (x : V) (xs : List V) (v : Value) (us : List Value) (Q : VK), Inv X pins σ H s -> ZeB x v -> Zei xs us -> r x xs H Q ->
  wpAny (model X.prog X.w) X.A (call (.builtin id) (v :: us)) (EP X pins σ Q) X.xe s
theorem Zei.one : ∀ {x : V} {us : List Value}, Zei [x] us -> ∃ u, us = [u] /\ ZeB x u
 | _, _, .cons r .nil => ⟨_, rfl, r⟩
theorem Zei.zero : ∀ {us : List Value}, Zei [] us -> us = []
 | _, .nil => rfl
theorem Zei.dropLast {xs : List V} {us : List Value} (h : Zei xs us) : Zei xs.dropLast us.dropLast := by
 induction h with
 | nil => exact .nil
 | cons r t ih =>
  cases t with
  | nil => exact .nil
  | cons q t' => exact .cons r ih
theorem Zei.reverse {xs : List V} {us : List Value} (h : Zei xs us) : Zei xs.reverse us.reverse := by
 induction h with
 | nil => exact .nil
 | cons r t ih => rw [ZaM, ZaM]; exact Zei.append ih (.cons r .nil)
theorem Zei.rep {xs : List V} {us : List Value} (h : Zei xs us) : ∀ k : Nat, Zei (Zav k xs).flatten (Zav k us).flatten
 | 0 => .nil
 | k + 1 => by
  rw [ZaN, ZaN, ZaO, ZaO]
  exact Zei.append h (Zei.rep h k)
theorem ZkJ {α : Type} (l : List α) : l.eraseIdx (l.length - 1) = l.dropLast := by
 induction l with
 | nil => rfl
 | cons a r ih =>
  cases r with
  | nil => rfl
  | cons b r =>
   have e : (a :: b :: r).length - 1 = ((b :: r).length - 1) + 1 := by
    have h1 : (a :: b :: r).length = r.length + 2 := rfl
    have h2 : (b :: r).length = r.length + 1 := rfl
    omega
   rw [e, List.eraseIdx_cons_succ, ih]
   all_goals rfl
theorem ZiZ (its : List Value) : ∀ (k : Nat) (acc : List Value),
  List.foldl (fun x1 x2 => x1 ++ x2) acc.toArray (Zav k its.toArray) = (acc ++ (Zav k its).flatten).toArray
 | 0, acc => by simp
 | k + 1, acc => by
  have e : acc.toArray ++ its.toArray = (acc ++ its).toArray := by simp
  have e2 : (acc ++ its) ++ (Zav k its).flatten = acc ++ (Zav (k + 1) its).flatten := by
   rw [ZaN, ZaO, ZaP]
  rw [<- e2, <- ZiZ its k (acc ++ its), <- e, ZaN, List.foldl_cons]
section
variable {X : Cx} {pins : List (Addr × Obj)} {σ : St} {H : Hp} {s : Shared} {l b : Addr} {xs ys zs : List V}
theorem Inv.lset {its its' : List Value} {n : Nat} {f : Array Value -> Array Value} {t' : Nat} (I : Inv X pins σ H s) (hH : H l = some (.lst xs))
  (e : s.heap.get? l = some { cls := .type "list", data := .seq its.toArray n }) (hf : f its.toArray = its'.toArray) (hv : Zei ys its') (hz : ys.length <= sizeLine) :
  Inv X pins σ (upd H l (.lst ys)) { s with heap := s.heap.update l (Obj.mapSeq f), toks := t' } := by
 have q := PySem.IsL.update e f
 rw [hf] at q
 refine I.write (x := l) (e := l) (by rw [hH]; exact trivial) (.inl rfl) (fun b' u hb hu => (Zdk s.heap (Obj.mapSeq f) (Ne.symm hb)).trans hu) ⟨_, q⟩ ?_
 exact ⟨hz, its', _, hv, q⟩
theorem Inv.lnew {its : List Value} {t' : Nat} (I : Inv X pins σ H s) (hv : Zei ys its) (hz : ys.length <= sizeLine) :
  Inv X pins σ (upd H s.heap.objs.size (.lst ys)) { s with heap := s.heap.push { cls := .type "list", data := .seq its.toArray }, toks := t' } :=
 I.laid (fun _ _ q => Zdh _ q) (ZbV _) ⟨hz, its, 0, hv, Zdf _ rfl⟩
theorem Inv.fresh (I : Inv X pins σ H s) : H s.heap.objs.size = none := I.hok.fresh (ZbV _)
theorem Inv.lstM (I : Inv X pins σ H s) (hH : H l = some (.lst xs)) : xs.length <= sizeLine /\ ∃ (its : List Value) (n : Nat), Zei xs its /\ xs.length = its.length /\ s.heap.get? l = some { cls := .type "list", data := .seq its.toArray n } := by
 obtain ⟨z, its, n, r, e⟩ := I.hok l _ hH
 exact ⟨z, its, n, r, r.length, e⟩
theorem Zkd {n : Nat} (h : n <= sizeLine) : Builtin.List.listTooLong n = false := by
 unfold Builtin.List.listTooLong
 exact decide_eq_false (by omega)
end
section
variable {X : Cx}
def ZlA : V -> List V -> Hp -> VK -> Prop := fun x vs H Q => ∃ l xs y, x = .ref l /\ vs = [y] /\ H l = some (.lst xs) /\ xs.length < sizeLine /\ Q .non (upd H l (.lst (xs ++ [y])))
theorem Zee : MtM X "list.append" ZlA := by
 intro pins s σ H x vs v us Q I rx rv h
 obtain ⟨l, xs, y, rfl, rfl, hH, hz, q⟩ := h
 cases rx
 obtain ⟨u, rfl, ru⟩ := rv.one
 obtain ⟨z, its, n, r, hl, e⟩ := I.lstM hH
 refine call_meets F.slot_list_append ⟨_, e, rfl⟩ F.entry_list_append (F.args_list_append_2 _ _) (PySem.list_append l its.toArray n u (by rw [ZaI]; omega)) ⟨e, ?_⟩
 refine ⟨.non, _, I.lset (its' := its ++ [u]) hH e (by simp) (r.append (.cons ru .nil)) ?_, rfl, q⟩
 rw [ZaB, ZaQ]
 omega
def Zol : V -> List V -> Hp -> VK -> Prop := fun x vs H Q => ∃ l b xs zs, x = .ref l /\ vs = [.ref b] /\ H l = some (.lst xs) /\ H b = some (.lst zs) /\ xs.length + zs.length <= sizeLine /\ Q .non (upd H l (.lst (xs ++ zs)))
theorem Zhr : MtM X "list.extend" Zol := by
 intro pins s σ H x vs v us Q I rx rv h
 obtain ⟨l, b, xs, zs, rfl, rfl, hH, hB, hz, q⟩ := h
 cases rx
 obtain ⟨u, rfl, ru⟩ := rv.one
 cases ru
 obtain ⟨z, its, n, r, hl, e⟩ := I.lstM hH
 obtain ⟨z2, its2, n2, r2, hl2, e2⟩ := I.lstM hB
 have hsz : its.toArray.size + its2.toArray.size <= sizeLine := by rw [ZaI, ZaI]; omega
 have hlong : ¬ (!its.toArray.isEmpty && Builtin.List.listTooLong (its.toArray.size + its2.toArray.size)) = true := by
  rw [Zkd hsz, Zc3]
  exact ZcY
 refine call_meets F.slot_list_extend ⟨_, e, rfl⟩ F.entry_list_extend (F.args_list_extend_2 _ _)
  (AutoSeq1.list_extend_list_list_0 l its.toArray n b its2.toArray n2 hlong (by rw [ZaI]; omega) (by omega)) ⟨e, e2, ?_⟩
 refine ⟨.non, _, I.lset (its' := its ++ its2) hH e (by simp) (r.append r2) ?_, rfl, q⟩
 rw [ZaB]
 omega
def rPop : V -> List V -> Hp -> VK -> Prop := fun x vs H Q => ∃ l xs y, x = .ref l /\ vs = [] /\ H l = some (.lst xs) /\ xs[xs.length - 1]? = some y /\ Q y (upd H l (.lst xs.dropLast))
theorem ZnB : MtM X "list.pop" rPop := by
 intro pins s σ H x vs v us Q I rx rv h
 obtain ⟨l, xs, y, rfl, rfl, hH, hy, q⟩ := h
 cases rx
 have hus := rv.zero
 subst hus
 obtain ⟨z, its, n, r, hl, e⟩ := I.lstM hH
 obtain ⟨u, hu, ru⟩ := r.get hy
 have hy' : its.toArray[its.toArray.size - 1]? = some u := by
  show its.toArray[its.length - 1]? = some u
  rw [<- Zc8, <- hl]
  exact hu
 refine call_meets F.slot_list_pop ⟨_, e, rfl⟩ F.entry_list_pop (F.args_list_pop_1 _) (MeetsSeq.list_pop_last l its.toArray n u hy' (by rw [ZaI]; omega)) ⟨e, ?_⟩
 refine ⟨y, _, I.lset (its' := its.dropLast) hH e ?_ r.dropLast ?_, ru, q⟩
 ·show its.toArray.eraseIdxIfInBounds (its.toArray.size - 1) = its.dropLast.toArray
  rw [ZaI, List.eraseIdxIfInBounds_toArray, ZkJ]
 ·rw [List.length_dropLast]
  omega
def ZpK : V -> List V -> Hp -> VK -> Prop := fun x vs H Q => ∃ l xs, x = .ref l /\ vs = [] /\ H l = some (.lst xs) /\ Q .non (upd H l (.lst []))
theorem ZmR : MtM X "list.clear" ZpK := by
 intro pins s σ H x vs v us Q I rx rv h
 obtain ⟨l, xs, rfl, rfl, hH, q⟩ := h
 cases rx
 have hus := rv.zero
 subst hus
 obtain ⟨z, its, n, r, hl, e⟩ := I.lstM hH
 refine call_meets F.slot_list_clear ⟨_, e, rfl⟩ F.entry_list_clear (F.args_list_clear_1 _) (AutoSeq1.list_clear_list_0 l its.toArray n (by rw [ZaI]; omega)) ⟨e, ?_⟩
 exact ⟨.non, _, I.lset (its' := []) (ys := []) hH e rfl .nil (ZbW _), rfl, q⟩
def rCat : R2 := fun x y H Q => ∃ l b xs zs, x = .ref l /\ y = .ref b /\ H l = some (.lst xs) /\ H b = some (.lst zs) /\ xs.length + zs.length <= sizeLine /\ ∀ p, H p = none -> Q (.ref p) (upd H p (.lst (xs ++ zs)))
theorem Zi0 : OpR X (binaryOp .Add) rCat := by
 intro pins s σ H x y v u Q I rx ry h
 obtain ⟨l, b, xs, zs, rfl, rfl, hH, hB, hz, q⟩ := h
 cases rx
 cases ry
 obtain ⟨z, its, n, r, hl, e⟩ := I.lstM hH
 obtain ⟨z2, its2, n2, r2, hl2, e2⟩ := I.lstM hB
 refine PySem.P.add_list e e2 ?_ (by rw [ZaI, ZaI]; omega)
 have ea : its.toArray ++ its2.toArray = (its ++ its2).toArray := by simp
 rw [ea]
 exact ⟨.ref _, _, I.lnew (t' := s.toks) (r.append r2) (by rw [ZaB]; omega), rfl, q _ I.fresh⟩
def rRep : R2 := fun x y H Q => ∃ l k xs, x = .ref l /\ y = .int k /\ H l = some (.lst xs) /\ -(2 ^ 63) <= k /\ k < 2 ^ 63 /\ xs.length * k.toNat <= sizeLine /\
 ∀ p, H p = none -> Q (.ref p) (upd H p (.lst (Zav k.toNat xs).flatten))
theorem Zom {α : Type} (xs : List α) (k : Nat) : (Zav k xs).flatten.length = k * xs.length := by
 induction k with
 | zero => simp
 | succ k ih => rw [ZaN, ZaO, ZaB, ih, Nat.succ_mul, Nat.add_comm]
theorem ZpL : OpR X (binaryOp .Mult) rRep := by
 intro pins s σ H x y v u Q I rx ry h
 obtain ⟨l, k, xs, rfl, rfl, hH, h1, h2, hz, q⟩ := h
 cases rx
 obtain ⟨t, rfl⟩ := ry
 obtain ⟨z, its, n, r, hl, e⟩ := I.lstM hH
 have hlen : its.toArray.size * k.toNat <= sizeLine := by rw [ZaI, <- hl]; exact hz
 have hcap : ¬ its.toArray.size * k.toNat > (2 ^ 63 - 1) / 8 := by
  have : (sizeLine : Nat) <= (2 ^ 63 - 1) / 8 := by decide
  omega
 have hfit : ¬ (!Builtin.List.listFitsIndex k) = true := by
  rw [fitsIndex_both h1 h2]
  exact ZcY
 have hlong : ¬ Builtin.List.listTooLong (its.toArray.size * k.toNat) = true := by
  rw [Zkd hlen]
  exact ZcY
 have hnew : List.foldl (fun x1 x2 => x1 ++ x2) #[] (Zav (if its.toArray.isEmpty = true then 0 else k.toNat) its.toArray) = (Zav k.toNat its).flatten.toArray := by
  have f0 : ∀ m : Nat, List.foldl (fun x1 x2 => x1 ++ x2) #[] (Zav m its.toArray) = (Zav m its).flatten.toArray := fun m => by
   have := ZiZ its m []
   rw [ZaR] at this
   exact this
  rw [f0]
  cases its with
  | nil => simp
  | cons a r' => rw [if_neg (by simp)]
 refine wpAny_binaryOp_repeat_ref (T := "list") (U := "int") (by decide) ⟨_, e, rfl⟩ (fun s' => typeIs_int s' k t) noFill_list_mul F.fills_int_mul F.slot_int_rmul repeat_list F.slot_int_index.lookup
  (call_meets F.slot_int_rmul (typeIs_int s k t) F.entry_int_rmul (F.args_int_rmul_2 _ _) (int___rmul___int_list k t l its.toArray n)
   ⟨e, rfl, ⟨_, e, rfl⟩, call_meets F.slot_list_mul ⟨_, e, rfl⟩ F.entry_list_mul (F.args_list_mul_2 _ _) (AutoListH.list___mul___list_int_3 l its.toArray n k t hfit hcap hlong) ⟨e, ?_⟩⟩)
 rw [hnew]
 exact ⟨.ref _, _, I.lnew (t' := s.toks) (r.rep k.toNat) (by rw [Zom, Nat.mul_comm]; exact hz), rfl, q _ I.fresh⟩
end
section
variable {prog : Program} {w : World} {A : Around} {E : Value -> Shared -> Prop} {s : Shared}
set_option maxRecDepth 100000 in
end
section
variable {X : Cx}
end
end L2.Internal
namespace Att.Internal
open PySem PySem.W PySem.Calls PyProof.Rows
theorem Zhs {P : Params} {h : Heap} : ∀ (ns : List Int) (vs : List Value), WellAll P h vs (ns.map WData.int) -> IntsAre vs ns := by
 intro ns
 induction ns with
 | nil =>
  intro vs w
  rw [ZaH] at w
  cases w
  exact .nil
 | cons n ns ih =>
  intro vs w
  rw [Zaq] at w
  cases w with
  | cons a b =>
   cases a
   exact .cons _ _ (ih _ b)
theorem ZlB {l : OpenLaw} {n : Nat} (hn : l.most = some n) {P : Params} {h : Heap} {args : List WData} {vals : List Value}
  (hpre : l.row.toRowW.claim.pre args = true) (hwl : WellAll P h vals args) :
  ∃ a vs ns, vals = [Value.ref a] /\ args = [WData.list (ns.map WData.int)] /\ h.get? a = some { cls := .type "list", data := .seq vs.toArray } /\ IntsAre vs ns /\ ns.length <= n := by
 have hsh : WShape.hasAll [] args [.list .int] = true := (pre_splitW hpre).1
 have hc : l.pre.holds [] { args := args } = true := (pre_splitW hpre).2
 obtain ⟨d, r, rfl, h1, h2⟩ := hasAllW_cons hsh
 obtain rfl := hasAllW_nil h2
 obtain ⟨xs, rfl, h3⟩ := hasW_list h1
 obtain ⟨ns, rfl⟩ := items_int h3
 have hlen : ns.length <= n := by
  unfold OpenLaw.pre at hc
  have h4 : (WTm.not (.lt (.lit (.int (n : Int))) (.len (.arg 0)))).holds [] { args := [.list (ns.map .int)] } = true := by
   have h4 := (holds_andW hc).1
   rw [hn] at h4
   exact h4
  have h5 := condW_of h4 (w_not (w_lt w_lit (w_len_list (w_arg rfl))))
  rw [Zar] at h5
  refine Nat.le_of_not_lt fun q => ?_
  have q' : (n : Int) < ((ns.length : Nat) : Int) := by omega
  first
   | (rw [decide_eq_true q'] at h5; exact absurd h5 (by decide))
   | (simp at h5; omega)
 cases hwl with
 | cons w1 w2 =>
  cases w2
  cases w1 with
  | list ho hall => exact ⟨_, _, ns, rfl, rfl, ho, Zhs ns _ hall, hlen⟩
theorem ZlC (l : OpenLaw) (args : List WData) : l.row.toRowW.claim.post args (.bool true) args = true :=
 postW_of (r := l.row.toRowW) (X := (true == true))
  (show WShape.has [] (.bool true) .bool = true by first | rfl | decide | simp [WShape.has, WShape.arms, WShape.armsAll])
  (show (WTm.eq .res (.lit (.bool true))).value [] { args := args, res := some (.bool true), after := args } = some (.bool (true == true)) from w_eq_bool (w_res rfl) w_lit) rfl
theorem attach_call {l : OpenLaw} {n : Nat} {q : Program} {loose : List Str} {XP : (Str -> Option Value) -> Heap -> Prop} {YP : World -> Heap -> Prop} {d : DefRec}
  (hn : l.most = some n) (hdf : d.params.defaults = [])
  (call : ∀ (w : World) (s₀ s₁ : Shared) (mg mb : Str -> Option Value) (fa : Addr) (o : Obj) (pm cd doc : Value) (a : Addr) (vs : List Value) (ns : List Int),
   Ground q loose [] XP w s₀ mg mb s₁.heap -> YP w s₁.heap ->
   s₁.heap.get? fa = some o -> o.data = .func (docDef d.name d.params d.body d.scope pm cd doc) -> s₁.heap.CodeRec cd d.name -> mg d.name = some (.ref fa) ->
   s₁.heap.get? a = some { cls := .type "list", data := .seq vs.toArray } -> IntsAre vs ns -> ns.length <= n -> s₁.gens = #[] ->
   codeAny (model l.prog w) callerA (.call (.ref fa) ⟨[.ref a], []⟩) (fun r s' => r = .ok (.ret (.bool true)) /\ OldK s₁.heap s'.heap /\ s'.os = s₁.os /\ AllBare s'.gens) s₁) :
  WalkO q loose XP YP l.row.toRowW d [] (fun f vs => PySem.call f vs) := by
 intro w s₀ s₁ mg mb G Y fa o pm cd doc dV kV ho hd hcd hD hmg hg args vals as hpre hlay hrd hwl hlo
 obtain rfl : dV = .none := Dflts.none hD hdf
 obtain rfl : kV = .none := Dflts.noKw hD
 obtain ⟨a, vs, ns, rfl, rfl, hobj, hints, hlen⟩ := ZlB hn hpre hwl
 refine enter_call (codeAny_mono (call w s₀ s₁ mg mb fa o pm cd doc a vs ns G Y ho (fd_plain hd) hcd hmg hobj hints hlen hg) fun r s' hq => ?_)
 obtain ⟨rfl, h2, h3, h4⟩ := hq
 exact ⟨.inl ⟨.bool true, .bool true, [], rfl, fun _ => rfl, .bool true, ZlC l _, fun _ => ⟨List.Pairwise.nil, fun _ hm => (nomatch hm)⟩⟩, h2, h3, h4⟩
section
variable {prog : Program} {w : World} {A : Around} {E : Value -> Shared -> Prop} {s : Shared} {K : Frag}
end
end Att.Internal
namespace L2.Internal
open PySem PySem.Spec PyProof.Rows
theorem Zi1 : ∀ {vs : List Value} {ns : List Int}, IntsAre vs ns -> Zei (ns.map V.int) vs
 | _, _, .nil => .nil
 | _, _, .cons n t h => .cons ⟨t, rfl⟩ (Zi1 h)
def Zq7 (H : Hp) : Prop := ∀ b, H b = none \/ ∃ o xs, H b = some (.frz o (.lst xs))
theorem ZmS {P : Program} {w : World} {K : PySem.W.Frag} {mg mb : Str -> Option Value} {CX : CXT} {k : Nat} {fa a : Addr} {fd : FuncData} {x : Str} {sp : Sp} {s₁ : Shared} {vs : List Value} {ns : List Int}
  (KX : K.In s₁.heap) (hns : s₁.heap.Ns mainGlobals mg) (hb : s₁.heap.Ns builtinsNs mb) (hbb : ∀ x : Str, x ≠ "__name__" -> mb x = bootBuiltins x) (hlim : s₁.heap.NoLimit) (hg : s₁.gens = #[])
  (ha : s₁.heap.get? a = some { cls := .type "list", data := .seq vs.toArray }) (hi : IntsAre vs ns) (hl : ns.length <= sizeLine) (hr : Zgr k callerA)
  (F : ∀ base : Heap, K.In base -> base.Ns mainGlobals mg -> ZfA P w K mg base CX k fa fd [x] sp) (hbind : ∀ (s : Shared) (u : Value), BindsTo s fd ⟨[u], []⟩ [(x, u)])
  (hsp : ∀ H : Hp, Zq7 H -> SqL K H a (ns.map V.int) -> sp [.ref a] H (fun v _ => v = .bl true) fun _ _ _ => False)
  (hCX : ∀ H e s', CX [] H s₁ (fun _ _ _ => False) e s' -> False) :
  codeAny (model P w) callerA (.call (.ref fa) ⟨[.ref a], []⟩) (fun r s' => r = .ok (.ret (.bool true)) /\ OldK s₁.heap s'.heap /\ s'.os = s₁.os /\ AllBare s'.gens) s₁ := by
 have rv := Zi1 hi
 have lenV := hi.length
 have core : ∀ H : Hp, Zq7 H -> SqL K H a (ns.map V.int) -> HOk P w H s₁.heap -> (∀ b, H b ≠ none -> b = a) -> (H a ≠ none -> K.lookup a = none) ->
   codeAny (model P w) callerA (.call (.ref fa) ⟨[.ref a], []⟩) (fun r s' => r = .ok (.ret (.bool true)) /\ OldK s₁.heap s'.heap /\ s'.os = s₁.os /\ AllBare s'.gens) s₁ := by
  intro H hO hS hok hA hK
  have base_of : ∀ {b : Addr} {o : Obj}, s₁.heap.get? b = some o -> H b = none -> (ZmD s₁.heap H).get? b = some o := fun e n => ZmE e n
  have noA : ∀ {b : Addr} {o : Obj} {es : Array DictEntry} {ep : Nat}, s₁.heap.get? b = some o -> o.data = .dict es ep -> H b = none := fun {b o es ep} e d => by
   cases q : H b with
   | none => rfl
   | some u =>
    have e' : b = a := hA b (by rw [q]; simp)
    subst e'
    rw [ha] at e; cases e
    have d' : Data.seq vs.toArray _ = Data.dict es ep := d
    cases d'
  have nsK : ∀ {b : Addr} {m : Str -> Option Value}, s₁.heap.Ns b m -> (ZmD s₁.heap H).Ns b m := fun {b m} ⟨o, es, ep, e, d, r⟩ => ⟨o, es, ep, base_of e (noA e d), d, r⟩
  have hKb : K.In (ZmD s₁.heap H) := fun b o e => base_of (KX b o e) (by
   cases q : H b with
   | none => rfl
   | some u =>
    have e' : b = a := hA b (by rw [q]; simp)
    subst e'
    rw [hK (by rw [q]; simp)] at e; cases e)
  have hM : Mod K mg (ZmD s₁.heap H) := ⟨hKb, nsK hns, ⟨mb, nsK hb, hbb⟩, let ⟨mc, h1, h2⟩ := hlim; ⟨mc, nsK h1, h2⟩⟩
  have e0 : Zoc P w K mg (ZmD s₁.heap H) callerA [] s₁ H := ⟨rfl, hM, fun b o e => Zn6 e, ZbX (Zk6 _ _), trivial, fun b hb => absurd (show b ∈ ([] : List Addr) from hb) (by simp), hok, .of_eq hg⟩
  refine codeAny_mono ((F _ hKb (nsK hns)).run callerA [] s₁ H ⟨[.ref a], []⟩ [.ref a] [.ref a] _ _ hr e0 (hbind s₁ (.ref a)) (.cons rfl .nil) (hsp H hO hS)) fun r s' h => ?_
  cases r with
  | error e => exact (hCX H e s' h).elim
  | ok fl =>
   cases fl with
   | next => exact False.elim h
   | brk => exact False.elim h
   | cont => exact False.elim h
   | ret u =>
    obtain ⟨v, H', os, bare, un, hok', r', q⟩ := h
    have q' : v = .bl true := q
    subst q'
    obtain rfl : u = Value.bool true := r'
    refine ⟨rfl, OldK.of_keep fun b o e => ?_, os, bare⟩
    cases q : H b with
    | none => exact un.keep b o e q (by intro z; exact absurd (show b ∈ ([] : List Addr) from z) (by simp)) (by simp)
    | some u =>
     rcases hO b with z | ⟨ob, xs, z⟩
     ·rw [q] at z; cases z
     ·have z2 := un.frzs b ob _ z
      obtain ⟨e1, _⟩ := hok b _ z
      obtain ⟨e2, _⟩ := hok' b _ z2
      rw [e] at e1; cases e1
      exact e2
 cases hk : K.lookup a with
 | some o =>
  have e := KX a o hk
  rw [ha] at e
  cases e
  refine core (fun _ => none) (fun _ => .inl rfl) (.inr ⟨_, vs.toArray, _, hk, rfl, rfl, rfl, by rw [ZaI, lenV]; exact hl, by simpa using rv⟩) (fun b u z => by have z' : (none : Option HO) = some u := z; cases z') (fun b z => absurd rfl z) fun z => absurd rfl z
 | none =>
  refine core (fun b => if b = a then some (.frz { cls := .type "list", data := .seq vs.toArray } (.lst (ns.map V.int))) else none) (fun b => ?_) (.inl (.inr ⟨{ cls := .type "list", data := .seq vs.toArray }, if_pos rfl⟩)) (fun b u z => ?_) (fun b z => ?_) fun _ => hk
  ·by_cases hb : b = a
   ·exact .inr ⟨_, _, if_pos hb⟩
   ·exact .inl (if_neg hb)
  ·by_cases hb : b = a
   ·have z' := (if_pos hb).symm.trans z
    cases z'
    subst hb
    exact ⟨ha, by rw [Zar]; exact hl, vs, _, rv, ha⟩
   ·have z' := (if_neg hb).symm.trans z
    cases z'
  ·by_cases hb : b = a
   ·exact hb
   ·exact absurd (if_neg hb) z
end L2.Internal
namespace L2.Internal
open PySem PySem.Spec PyProof.Rows
theorem walk_of {l : PySem.W.OpenLaw} {n k : Nat} {q : Program} {loose : List Str} {XP : (Str -> Option Value) -> Heap -> Prop} {YP : World -> Heap -> Prop} {d : DefRec} {K : Params -> PySem.W.Frag} {CX : World -> CXT} {sp : World -> Sp} {x : Str}
  (hn : l.most = some n) (hn2 : n <= sizeLine) (hdf : d.params.defaults = []) (hr : Zgr k callerA)
  (hY : ∀ (w : World) (h : Heap), YP w h -> (K w.params).In h)
  (F : ∀ (w : World) (mg : Str -> Option Value) (fa : Addr) (h : Heap), (K w.params).In h -> h.Ns mainGlobals mg -> mg d.name = some (.ref fa) ->
   ∃ fd : FuncData, (∀ (s : Shared) (u : Value), BindsTo s fd ⟨[u], []⟩ [(x, u)]) /\
    ∀ base : Heap, (K w.params).In base -> base.Ns mainGlobals mg -> ZfA l.prog w (K w.params) mg base (CX w) k fa fd [x] (sp w))
  (hsp : ∀ (w : World) (H : Hp) (a : Addr) (ns : List Int), ns.length <= n -> Zq7 H -> SqL (K w.params) H a (ns.map V.int) -> sp w [.ref a] H (fun v _ => v = .bl true) fun _ _ _ => False)
  (hCX : ∀ (w : World) (H : Hp) (s : Shared) (e : Value) (s' : Shared), CX w [] H s (fun _ _ _ => False) e s' -> False) :
  PySem.W.WalkO q loose XP YP l.row.toRowW d [] (fun f vs => PySem.call f vs) := by
 refine Att.Internal.attach_call hn hdf fun w s₀ s₁ mg mb fa o pm cd doc a vs ns G Y ho hd hcd hmg hobj hints hlen hg => ?_
 have KX := hY w _ Y
 obtain ⟨fd, hb, hF⟩ := F w mg fa _ KX G.T.g hmg
 exact ZmS KX G.T.g G.T.b G.T.builtins G.T.nolimit hg hobj hints (ZbS hlen hn2) hr hF hb (fun H hO hS => hsp w H a ns hlen hO hS) fun H e s' => hCX w H s₁ e s'
end L2.Internal
namespace L2.Internal
open PySem PySem.Spec PyProof.Rows
noncomputable def ZjG (s : Stmt) (j : Nat) : Stmt := match s with
 | .ClassDef _ _ _ body _ _ _ _ _ _ _ => body.getD j (.Pass ⟨0, 0, 0, 0⟩)
 | _ => .Pass ⟨0, 0, 0, 0⟩
noncomputable def ZdV (s : Stmt) : Arguments := match s with
 | .FunctionDef _ a _ _ _ _ _ _ _ _ => a
 | _ => { posonlyargs := [], args := [], vararg := none, kwonlyargs := [], kw_defaults := [], kwarg := none, defaults := [] }
noncomputable def ZdS (s : Stmt) : List Stmt := match s with
 | .FunctionDef _ _ b _ _ _ _ _ _ _ => b
 | _ => []
noncomputable def Zdy (s : Stmt) : Scope := match s with
 | .FunctionDef _ _ _ _ _ _ sc _ _ _ => sc
 | _ => { kind := .function, names := [], isGenerator := false, isCoroutine := false }
noncomputable abbrev CX0 : CXT := fun _ _ _ _ _ _ => False
noncomputable abbrev E0 : XK := fun _ _ _ => False
theorem ZeG {X : Cx} : Zhn CX0 X E0 := fun _ _ _ _ _ _ _ h => h.elim
structure Fun (K : PySem.W.Frag) (x qual : Str) (st : Stmt) (f : Addr) (fd : FuncData) : Prop where
 ex : ∃ (oc : Value) (od : Option Addr) (kV doc pm : Value) (an : Option Addr) (cdv ct : Value) (osl : Array (Option Value)),
  fd = Zcz x qual (ZdV st) (ZdS st) (Zdy st) .none kV doc pm an cdv ct /\ K.lookup f = some ⟨oc, od, .func fd, osl⟩ /\ ZcA K cdv qual = true
 kp : Zcw K (.ref f) = true
section
variable {P : Program} {w : World} {K : PySem.W.Frag} {mg : Str -> Option Value} {base : Heap}
theorem Fun.ok {x qual : Str} {st : Stmt} {f : Addr} {fd : FuncData} {N ps : List Str} {k : Nat} {sp : Sp} (F : Fun K x qual st f fd) (S : ZdW N ps (Zdy st)) (len : ∀ vs H Q E, sp vs H Q E -> vs.length = ps.length)
  (hbody : ∀ (cdv : Value) (A : Around) (outer : List Env) (s : Shared) (H : Hp) (vs : List V) (Q : VK) (E : XK), Zgr k (A.deeper (envOfC qual (Zdy st) s.heap.objs.size f cdv)) -> sp vs H Q E ->
   ∃ t, PSs (ZmC CX0 P w K mg base N qual (Zdy st) f cdv A outer s H E).nox (ZdS st) t /\ t { nx := fun _ H' => Q .non H', rt := Q } (start N vs) H) : ZfA P w K mg base CX0 (k + 1) f fd ps sp := by
 obtain ⟨oc, od, kV, doc, pm, an, cdv, ct, osl, rfl, lk, hcd⟩ := F.ex
 refine ZpC lk hcd S len fun A outer s H vs Q E hr hsp => ?_
 obtain ⟨t, h, q⟩ := hbody cdv A outer s H vs Q E hr hsp
 exact ⟨t, h.nox, q⟩
theorem Fun.binds {x qual : Str} {st : Stmt} {f : Addr} {fd : FuncData} {ps : List Str} (F : Fun K x qual st f fd)
  (h : ∀ (kV doc pm : Value) (an : Option Addr) (cdv ct : Value) (us : List Value), us.length = ps.length -> bindArgs (Zcz x qual (ZdV st) (ZdS st) (Zdy st) .none kV doc pm an cdv ct) ⟨us, []⟩ = pure (ps.zip us)) : Zex K fd ps [] := by
 obtain ⟨oc, od, kV, doc, pm, an, cdv, ct, osl, rfl, lk, hcd⟩ := F.ex
 exact .all (h kV doc pm an cdv ct)
theorem ZdM {x qual : Str} {st : Stmt} {f : Addr} {oc : Value} {od an : Option Addr} {osl : Array (Option Value)} {kV doc pm cdv ct : Value} (l : K.lookup f = some ⟨oc, od, .func (Zcz x qual (ZdV st) (ZdS st) (Zdy st) .none kV doc pm an cdv ct), osl⟩)
  (c : ZcA K cdv qual = true) (k : Zcw K (.ref f) = true) : Fun K x qual st f (Zcz x qual (ZdV st) (ZdS st) (Zdy st) .none kV doc pm an cdv ct) := ⟨⟨oc, od, kV, doc, pm, an, cdv, ct, osl, rfl, l, c⟩, k⟩
end
theorem ZkK {A : Around} {k : Nat} (hr : Zgr k A) : A.units + 1 < cLine := Nat.lt_of_le_of_lt (Nat.add_le_add_left (by decide : 1 <= 64) _) hr.units
section
variable {X : Cx}
theorem pv (i : Nat) {x : Str} {pos : Pos} (hN : autoParam (X.N[i]? = some x) L2.Internal.auR._auto_1) (hv : Vis X.env.scope x := by first | exact Or.inl rfl | exact Or.inr (.inl rfl) | exact Or.inr (.inr rfl)) (hd : autoParam ((x == ("__debug__" : Str)) = false) L2.Internal.auD._auto_1)
  (hcd : autoParam ((x == ("__classdict__" : Str)) = false) L2.Internal.auD._auto_1) : PE X (.Name x pos) (Zrw i) := Zpn hN hv hd hcd
end
theorem Zet {A B : Prop} (h : B) : if false = true then A else B := by
 rw [if_neg ZcY]
 exact h
theorem Zfq {A B : Prop} (h : A) : if true = true then A else B := by
 rw [if_pos rfl]
 exact h
def ZdH (H H' : Hp) : Prop := ∀ b o, H b = some o -> H' b = some o
theorem ZdH.refl (H : Hp) : ZdH H H := fun _ _ h => h
theorem ZdH.trans {H H1 H2 : Hp} (a : ZdH H H1) (b : ZdH H1 H2) : ZdH H H2 := fun c o h => b c o (a c o h)
theorem ZdH.free {H H' : Hp} (e : ZdH H H') {l : Addr} (h : H' l = Option.none) : H l = Option.none := by
 cases q : H l with
 | none => rfl
 | some o =>
  rw [e l o q] at h
  cases h
theorem ZdH.seq {K : PySem.W.Frag} {H H' : Hp} {a : Addr} {xs : List V} (e : ZdH H H') (h : SqL K H a xs) : SqL K H' a xs := by
 rcases h with (h | ⟨o, h⟩) | h
 ·exact .inl (.inl (e _ _ h))
 ·exact .inl (.inr ⟨o, e _ _ h⟩)
 ·exact .inr h
section
variable {X : Cx}
end
section
variable {κ : Type} [DecidableEq κ]
theorem ZmT {kvs : List (κ × V)} {k : κ} (h : Zfp kvs k = none) : ¬ k ∈ kvs.map (·.1) := by
 intro m
 obtain ⟨p, hp, e⟩ := ZaS.mp m
 have q : (kvs.any fun kv => decide (kv.1 = k)) = true := ZaT.mpr ⟨p, hp, decide_eq_true e⟩
 rw [ZfC, h] at q
 exact absurd q (by simp)
theorem Zon {kvs : List (κ × V)} {k : κ} {v : V} (h : Zfp kvs k = some v) : k ∈ kvs.map (·.1) := by
 have q : (kvs.any fun kv => decide (kv.1 = k)) = true := by
  rw [ZfC, h]
  all_goals rfl
 obtain ⟨p, hp, e⟩ := ZaT.mp q
 exact ZaS.mpr ⟨p, hp, of_decide_eq_true e⟩
theorem ZjH : ∀ {l : List κ} {k : κ}, l.Nodup -> ¬ k ∈ l -> (l ++ [k]).Nodup
 | [], k, _, _ => by simp
 | a :: r, k, h, hk => by
  obtain ⟨h1, h2⟩ := Zat.mp h
  show (a :: (r ++ [k])).Nodup
  refine Zat.mpr ⟨fun m => ?_, ZjH h2 fun m => hk (Zag.mpr (Or.inr m))⟩
  rcases Zah.mp m with q | q
  ·exact h1 q
  ·exact hk (Zag.mpr (Or.inl (ZaU.mp q).symm))
theorem Zoo {kvs : List (κ × V)} {k : κ} (v : V) (hn : (kvs.map (·.1)).Nodup) (h : Zfp kvs k = none) : ((Zgz kvs k v).map (·.1)).Nodup := by
 rw [ZmN v h, ZaV]
 exact ZjH hn (ZmT h)
end
end L2.Internal
namespace L2.Internal
open PySem PySem.Spec PyProof.Rows
section
variable {X : Cx}
theorem Zq8 {x : Str} {i : Int} {t : Tok} {pos : Pos} (hg : Gl X x) (hm : X.mg x = some (.int i t)) (hd : autoParam ((x == ("__debug__" : Str)) = false) L2.Internal.auD._auto_1) : PE X (.Name x pos) (tC (.int i)) := Zk8 hg hm (show ZeB (.int i) _ from ⟨t, rfl⟩) hd
theorem Zq9 {x : Str} {a : Addr} {pos : Pos} (hg : Gl X x) (hm : X.mg x = some (.ref a)) (hd : autoParam ((x == ("__debug__" : Str)) = false) L2.Internal.auD._auto_1) : PE X (.Name x pos) (tC (.ref a)) := Zk8 hg hm (show ZeB (.ref a) _ from rfl) hd
theorem Zgk {x : Str} {n : String} {pos : Pos} (hg : Gl X x) (hm : X.mg x = none) (hv : bootBuiltins x = some (.type n)) (hn : autoParam (x ≠ "__name__") L2.Internal.auD._auto_1) (hd : autoParam ((x == ("__debug__" : Str)) = false) L2.Internal.auD._auto_1) : PE X (.Name x pos) (tC (.ty n)) := Zn7 hg hm hv (show ZeB (.ty n) _ from rfl) hn hd
end
theorem Zd4 : bootBuiltins "len" = some (.builtin "len") := by decide +kernel
theorem ZlD : bootBuiltins "sum" = some (.builtin "sum") := by decide +kernel
theorem Zd2 : bootBuiltins "isinstance" = some (.builtin "isinstance") := by decide +kernel
theorem Zi2 : bootBuiltins "int" = some (.type "int") := by decide +kernel
theorem ZpM : bootBuiltins "str" = some (.type "str") := by decide +kernel
theorem ZlE : bootBuiltins "bool" = some (.type "bool") := by decide +kernel
theorem Zil : bootBuiltins "list" = some (.type "list") := by decide +kernel
theorem Zf9 : bootBuiltins "tuple" = some (.type "tuple") := by decide +kernel
theorem Zop : bootBuiltins "dict" = some (.type "dict") := by decide +kernel
section
variable {X : Cx} {tg : Expr}
end
noncomputable def blk (X : Cx) (N : List Str) (scope : Scope) (cl : List (Str × Addr)) (C : Addr) (s₀ : Shared) (H₀ : Hp) (ex : List Addr) (pins : List (Addr × Obj)) : Cx :=
 { X with N := N, s₀ := s₀, H₀ := H₀, env := compEnvC scope cl C X.env, outer := X.stack, stack := X.stack, ex := ex, fn := fun _ => false, pn := X.pn ++ pins, xe := fun _ _ => False }
def PTs (X : Cx) (cs : List Expr) (t : TT) : Prop :=
 ∀ (pins : List (Addr × Obj)) (s : Shared) (σ : St) (H : Hp) (Q : Bool -> Hp -> Prop), Inv X pins σ H s -> t σ H Q ->
  wpAny (model X.prog X.w) X.A (forIn cs true fun c r => if r = true then do let ok <- isTrue c X.env (eval c X.env); pure (ForInStep.yield ok) else pure (ForInStep.yield r)) (TP X pins σ Q) X.xe s
def Zht : TT := fun _ H Q => Q true H
theorem Ze4 {X : Cx} : PTs X [] Zht := fun pins s σ H Q I h => wpAny_pure ⟨H, I, h⟩
theorem ZjI {X : Cx} {c : Expr} {t : TT} (h : PT X c t) : PTs X [c] t := fun pins s σ H Q I hw => wpAny_tests_one (h pins s σ H Q I hw)
structure ZjJ (X : Cx) (N : List Str) (scope : Scope) (cl : List (Str × Addr)) (f : St -> St) (i : Nat) (x : Str) : Prop where
 kind : scope.kind = .function
 cell : ∀ y ∈ scope.names, y.2 ≠ .cell
 names : ∀ y ∈ scope.names, y.2 = .local -> scope.names.lookup y.1 = some .local
 clos : closureFor scope X.env = pure cl
 lk : ∀ y c, cl.lookup y = some c -> X.env.cells.lookup y = some c
 has : ∀ y, ((relabel scope X.env).names.lookup y = some .cell \/ (relabel scope X.env).names.lookup y = some .free) -> ∃ c, cl.lookup y = some c
 nd : N.Nodup
 ix : N[i]? = some x
 loc : scope.names.lookup x = some .local
 len : ∀ σ, σ.length = X.N.length -> (f σ).length = N.length
 val : ∀ (σ : St) (k : Nat) (y : Str) (v : V), N[k]? = some y -> (f σ)[k]? = some (some v) -> ∃ j : Nat, X.N[j]? = some y /\ σ[j]? = some (some v) /\ X.env.scope.names.lookup y = some .cell /\ (relabel scope X.env).names.lookup y = some .cell
theorem ZjK {X : Cx} {N : List Str} {scope : Scope} {cl : List (Str × Addr)} {f : St -> St} {i : Nat} {x : Str} (B : ZjJ X N scope cl f i x) {pins : List (Addr × Obj)} {σ : St} {H : Hp} {s : Shared} {h₁ : Heap} {tk : Nat} {m : Str -> Option Value} {ex : List Addr}
  (I : Inv X pins σ H s) (hex : ∀ b ∈ ex, Zjy X pins H b /\ b < s.heap.objs.size) (keep : ∀ b o, s.heap.get? b = some o -> h₁.get? b = some o) (hn : h₁.Ns s.heap.objs.size m) :
  Inv (blk X N scope cl s.heap.objs.size s H ex pins) [] (f σ) H { s with heap := h₁, toks := tk } := by
 have nst : ∀ b, b ≠ X.env.locals -> b ∉ X.fs -> b ∉ frs X.stack := fun b h1 h2 hb => (Zag.mp (I.stkSub b hb)).elim h1 h2
 have ltC : ∀ y c, X.env.cells.lookup y = some c -> c < s.heap.objs.size := fun y c e => by
  obtain ⟨v, o, ho, _⟩ := I.cell y c e
  exact Zde ho
 refine ⟨⟨I.ok.mod, B.kind, I.ok.glob, I.ok.blt, ZbV _, fun y z c h1 h2 => I.ok.inj y z c (B.lk y c h1) (B.lk z c h2), fun y hy => B.has y hy, fun y c h => (nomatch h), I.ok.hd, I.ok.frames, .inl rfl, fun b hb => ?_, I.bs, ZbS I.ok.bsz I.sz, fun b o e hb => ?_, fun b hb => ?_, I.stack, I.stkFree⟩,
  rfl, I.bare, Un.kept keep, ⟨m, hn, fun k y v e1 e2 e3 => ?_⟩, fun y c e => ?_, I.hok.fresh (ZbV _), fun y c e => I.freeC y c (B.lk y c e), fun p hp => ?_, I.hok.kept keep, B.len σ I.len⟩
 ·obtain ⟨⟨_, _, _, _, hc, _⟩, lt⟩ := hex b hb
  exact ⟨ZbR lt, fun y c e => hc y c (B.lk y c e)⟩
 ·obtain ⟨⟨_, _, _, h4, _, _⟩, _⟩ := hex b hb
  rcases h4 with z | z
  ·exact I.ok.noex b o e z
  ·exact absurd (ZbP (Zde (I.ok.bs b o e).1) z) (ZbQ _)
 ·obtain ⟨⟨_, h2, h3, _, _, _⟩, _⟩ := hex b hb
  exact nst b h2 h3
 ·obtain ⟨j, h1, h2, h3, h4⟩ := B.val σ k y v e1 e2
  obtain ⟨m', _, hl⟩ := I.loc
  obtain ⟨u, r, l⟩ := hl j y v h1 h2 (.inr (.inl h3))
  refine ⟨u, r, ?_⟩
  rcases l with ⟨hk, _⟩ | ⟨_, c, hc, z⟩
  ·have hk' : X.env.scope.names.lookup y = some .local := hk
   rw [h3] at hk'
   cases hk'
  ·obtain ⟨c', hc'⟩ := B.has y (.inl h4)
   have e : c' = c := Zb4.inj ((B.lk y c' hc').symm.trans hc)
   subst e
   obtain ⟨o, ho, hd⟩ := z
   exact .inr ⟨.inl h4, c', hc', o, keep _ o ho, hd⟩
 ·obtain ⟨v, o, ho, hd⟩ := I.cell y c (B.lk y c e)
  exact ⟨v, o, keep _ o ho, hd⟩
 ·rw [Zas] at hp
  obtain ⟨e, n, ne, nf, d⟩ := I.pin p hp
  exact ⟨keep _ _ e, n, ZbR (Zde e), nst _ ne nf, d⟩
theorem Zek {env : Env} : ∀ {names : List (Str × NameKind)} {x : Str} {k : NameKind},
  (names.map fun (n, k) => if (k == NameKind.free && env.scope.kind == .function && env.kindOf n == some .cell) then (n, NameKind.cell) else (n, k)).lookup x = some k ->
  ∃ k0, names.lookup x = some k0 /\ (k = k0 \/ (k0 = .free /\ k = .cell))
 | [], _, _, h => by simp at h
 | (n, k0) :: r, x, k, h => by
  have ih := @Zek env r x k
  have h : Zap x ((if (k0 == NameKind.free && env.scope.kind == .function && env.kindOf n == some .cell) = true then (n, NameKind.cell) else (n, k0)) :: (r.map fun (n, k) => if (k == NameKind.free && env.scope.kind == .function && env.kindOf n == some .cell) then (n, NameKind.cell) else (n, k))) = some k := h
  cases hx : x == n with
  | true =>
   by_cases hc : (k0 == NameKind.free && env.scope.kind == .function && env.kindOf n == some .cell) = true
   ·rw [if_pos hc] at h
    simp only [ZaW, hx] at h ⊢
    have hf : k0 = .free := by
     have hc' := hc
     simp only [Zc2] at hc'
     exact eq_of_beq hc'.1.1
    exact ⟨k0, rfl, .inr ⟨hf, (Zb4.inj h).symm⟩⟩
   ·rw [if_neg hc] at h
    simp only [ZaW, hx] at h ⊢
    exact ⟨k0, rfl, .inl (Zb4.inj h).symm⟩
  | false =>
   have h2 : (r.map fun (n, k) => if (k == NameKind.free && env.scope.kind == .function && env.kindOf n == some .cell) then (n, NameKind.cell) else (n, k)).lookup x = some k := by
    by_cases hc : (k0 == NameKind.free && env.scope.kind == .function && env.kindOf n == some .cell) = true
    ·rw [if_pos hc] at h; simp only [ZaW, hx] at h; exact h
    ·rw [if_neg hc] at h; simp only [ZaW, hx] at h; exact h
   obtain ⟨k1, e1, e2⟩ := ih h2
   exact ⟨k1, by simp only [ZaW, hx]; exact e1, e2⟩
theorem Zfw {env : Env} (hk : env.scope.kind = .function) : ∀ {names : List (Str × NameKind)} {x : Str}, env.scope.names.lookup x = some .cell -> names.lookup x = some .free ->
  (names.map fun (n, k) => if (k == NameKind.free && env.scope.kind == .function && env.kindOf n == some .cell) then (n, NameKind.cell) else (n, k)).lookup x = some .cell
 | [], _, _, h => by simp at h
 | (n, k0) :: r, x, hc, h => by
  have ih := @Zfw env hk r x hc
  show Zap x ((if (k0 == NameKind.free && env.scope.kind == .function && env.kindOf n == some .cell) = true then (n, NameKind.cell) else (n, k0)) :: _) = _
  cases hx : x == n with
  | true =>
   simp only [ZaW, hx] at h
   cases h
   have e : x = n := eq_of_beq hx
   have hc' : env.kindOf n = some .cell := by rw [<- e]; exact hc
   simp [ZaW, hx, hk, hc']
  | false =>
   simp only [ZaW, hx] at h
   by_cases hq : (k0 == NameKind.free && env.scope.kind == .function && env.kindOf n == some .cell) = true
   ·rw [if_pos hq]; simp only [ZaW, hx]; exact ih h
   ·rw [if_neg hq]; simp only [ZaW, hx]; exact ih h
theorem Zpg {X : Cx} {scope : Scope} {x : Str} (hk : scope.kind = .function) (hn : ∀ p ∈ scope.names, p.2 ≠ .cell /\ p.2 ≠ .free) (hl : ∀ y ∈ scope.names, y.2 = .local -> scope.names.lookup y.1 = some .local)
  (hx : scope.names.lookup x = some .local) (hc : closureFor scope X.env = pure []) : ZjJ X [x] scope [] (fun _ => [none]) 0 x where
 kind := hk
 cell := fun y hy => (hn y hy).1
 names := hl
 clos := hc
 lk := fun y c h => by simp at h
 has := fun y h => by
  rcases h with h | h
  ·obtain ⟨k0, e, z⟩ := Zek h
   have m := hn _ (PySem.mem_of_lookup e)
   rcases z with z | ⟨z, _⟩
   ·exact absurd z.symm m.1
   ·exact absurd z m.2
  ·obtain ⟨k0, e, z⟩ := Zek h
   have m := hn _ (PySem.mem_of_lookup e)
   rcases z with z | ⟨z, _⟩
   ·exact absurd z.symm m.2
   ·exact absurd z m.2
 nd := by simp
 ix := rfl
 loc := hx
 len := fun _ _ => rfl
 val := fun σ k y v h1 h2 => by
  cases k with
  | zero => simp at h2
  | succ k => simp at h2
def LcP (J : It) (i : Nat) (tt : TT) (te : TE) (Q : VK) (τ : St) (H1 : Hp) (D : Addr) : Prop :=
 ∃ W : Nat -> Nat -> St -> Hp -> Prop, (∃ m, W 0 m τ (upd H1 D (.lst []))) /\ ∀ k m σ' H2, W k m σ' H2 ->
  (J.stop k H2 /\ Q (.ref D) H2) \/ (J.go k H2 /\ ∀ v H3, J.yld k H2 v H3 -> tt (σ'.set i (some v)) H3 fun ok H4 => if ok = true
   then te (σ'.set i (some v)) H4 fun y H5 => ∃ xs, H5 D = some (.lst xs) /\ xs.length < sizeLine /\ ∃ m', m' < m /\ W (k + 1) m' (σ'.set i (some v)) (upd H5 D (.lst (xs ++ [y])))
   else ∃ m', m' < m /\ W (k + 1) m' (σ'.set i (some v)) H4)
def tLC (wi : TI) (f : St -> St) (i : Nat) (tt : TT) (te : TE) : TE := fun σ H Q => wi σ H fun J H1 => ∀ D, H1 D = none -> LcP J i tt te Q (f σ) H1 D
theorem ZgY {X : Cx} {elt iter : Expr} {x : Str} {px : Pos} {ifs : List Expr} {scope : Scope} {pos : Pos} {N : List Str} {cl : List (Str × Addr)} {f : St -> St} {i : Nat} {wi : TI} {tt : TT} {te : TE}
  (hc : X.calm = true) (B : ZjJ X N scope cl f i x) (hi : PI X (.Name x px) iter wi)
  (htt : ∀ C s₀ H₀ ex pins, PTs (blk X N scope cl C s₀ H₀ ex pins) ifs tt) (hte : ∀ C s₀ H₀ ex pins, PE (blk X N scope cl C s₀ H₀ ex pins) elt te)
  (hs : autoParam (∀ x, foldedSetIterable iter X.env x = pure x) L2.Internal.auI._auto_1) : PE X (.ListComp elt [⟨.Name x px, iter, ifs, 0⟩] scope pos) (tLC wi f i tt te) := by
 intro pins s σ H Q I h
 rw [eval_ListComp]
 refine wpAny_comprehension_free (use := none) rfl hs B.clos B.kind B.names (thn (hi pins s σ H _ I h) fun xv s1 h1 => thn h1 fun itv s2 h2 => ?_)
 obtain ⟨it, fp, tn, J, H2, rfl, I2, T, st2, f2, q⟩ := h2
 have hD : H2 s2.heap.objs.size = none := I2.fresh
 obtain ⟨W, ⟨m0, w0⟩, turn⟩ := q _ hD
 refine wpAny_newObj_type (wpAny_newFunctionEnv B.cell (by intro y hy; simp at hy) (fun h₁ hns₁ hsb₁ => ?_) B.kind)
 have I3 : Inv X pins σ (upd H2 s2.heap.objs.size (.lst [])) { s2 with heap := s2.heap.push { cls := .type "list", data := .seq ([] : List Value).toArray } } := I2.lnew (its := []) (ys := []) (t' := s2.toks) .nil (ZbW _)
 have lt2 : ∀ b ∈ fp, b < s2.heap.objs.size := fun b hb => by
  obtain ⟨o, ho, _⟩ := T.obj _ _ st2 b hb
  exact Zde ho
 have fp3 : ∀ b ∈ fp, Zjy X pins (upd H2 s2.heap.objs.size (.lst [])) b := fun b hb => by
  refine ⟨?_, (f2 b hb).2⟩
  rw [Zdt (ZbR (lt2 b hb))]
  exact (f2 b hb).1
 generalize hs3 : ({ s2 with heap := s2.heap.push { cls := .type "list", data := .seq ([] : List Value).toArray } } : Shared) = s3 at I3 hns₁ hsb₁ ⊢
 have eh : s2.heap.push { cls := .type "list", data := .seq ([] : List Value).toArray } = s3.heap := by rw [<- hs3]
 have lt3 : ∀ b ∈ fp, b < s3.heap.objs.size := fun b hb => by
  rw [<- eh, Zdi]
  exact Zb0 (lt2 b hb)
 have old : ∀ b o, s3.heap.get? b = some o -> h₁.get? b = some o := fun b o e => hsb₁.extBut b o (ZbR (Zde e)) (Zdh _ e)
 have I4 := ZjK (tk := s3.toks + ([] : List (Str × Value)).length) B I3 (ex := fp) (fun b hb => ⟨fp3 b hb, lt3 b hb⟩) old hns₁
 have st4 : tn 0 h₁ := T.keep _ _ _ st2 fun b _ o e => old b o (by rw [<- eh]; exact Zdh _ e)
 have fpB : ∀ {H' : Hp}, (∀ b ∈ fp, H' b = none) -> ∀ b ∈ fp, Zjy (blk X N scope cl s3.heap.objs.size s3 (upd H2 s2.heap.objs.size (.lst [])) fp pins) [] H' b := fun {H'} hn b hb => by
  obtain ⟨_, g2, g3, g4, g5, g6⟩ := f2 b hb
  refine ⟨hn b hb, ZbR (lt3 b hb), fun z => (Zag.mp (I3.stkSub b z)).elim g2 g3, .inl hb, fun y c e => g5 y c (B.lk y c e), fun p hp => ?_⟩
  rw [Zas] at hp
  exact g6 p hp
 have loop : ∀ s4 : Shared, s4 = { s3 with heap := h₁, toks := s3.toks + ([] : List (Str × Value)).length } ->
   codeAny (model X.prog X.w) X.A (.compLoop (.ListComp elt [⟨.Name x px, iter, ifs, 0⟩] scope pos) 0 (.ref it) (.ref s2.heap.objs.size) (compEnvC scope cl s3.heap.objs.size X.env))
    (compPost (model X.prog X.w) X.A X.xe none (EP X pins σ Q) (.ref s2.heap.objs.size) s3.heap.objs.size) s4 := by
  rintro s4 rfl
  refine codeAny_compLoop_tests (I := fun n s' => ∃ k σ' H', Inv (blk X N scope cl s3.heap.objs.size s3 (upd H2 s2.heap.objs.size (.lst [])) fp pins) [] σ' H' s' /\ tn k s'.heap /\ (∀ b ∈ fp, H' b = none) /\ W k n σ' H') ?_ m0
   ⟨0, f σ, _, I4, st4, fun b hb => (fp3 b hb).1, w0⟩
  rintro n s5 ⟨k, σ5, H5, I5, st5, fr5, w5⟩
  rcases turn k n σ5 H5 w5 with ⟨stop, qn⟩ | ⟨go, step⟩
  ·refine wpAny_mono (T.done (blk X N scope cl s3.heap.objs.size s3 (upd H2 s2.heap.objs.size (.lst [])) fp pins) rfl rfl rfl hc k [] s5 σ5 H5 _ I5 (fpB fr5) st5 stop) (fun r s6 h6 => ?_) fun _ _ z => z
   obtain ⟨hr, I6⟩ := h6
   subst hr
   obtain ⟨m6, hn6, _⟩ := id I6.loc
   refine ⟨m6, hn6, fun h' sb => ?_⟩
   have nC : ∀ b o, s3.heap.get? b = some o -> b ≠ s3.heap.objs.size := fun b o e => ZbR (Zde e)
   have u6 : Un (frs X.stack) fp (upd H2 s2.heap.objs.size (.lst [])) H5 s3.heap s6.heap := I6.base
   have u7 : Un (frs X.stack) fp (upd H2 s2.heap.objs.size (.lst [])) H5 s3.heap h' :=
    ⟨fun b o e z1 z2 z3 => (sb.2 b (nC b o e)).trans (u6.keep b o e z1 z2 z3), fun b o e z1 z2 z3 => by
     obtain ⟨sl, e1⟩ := u6.slot b o e z1 z2 z3
     exact ⟨sl, (sb.2 b (nC b o e)).trans e1⟩, u6.free, fun b o e z => by
     obtain ⟨o', e1⟩ := u6.there b o e z
     exact ⟨o', (sb.2 b (nC b o e)).trans e1⟩, u6.tups, u6.frzs, u6.tbls⟩
   have hok7 : HOk X.prog X.w H5 h' := fun b o e => (I6.hok b o e).stay (fun c w' hcc e1 => (sb.2 c (fun z => by
     have fr : H5 s3.heap.objs.size = none := I6.free
     rcases hcc with y | y
     ·rw [<- y, z, fr] at e; cases e
     ·rw [z, fr] at y; cases y)).trans e1) (fun _ z => z) fun _ _ z => z
   have I7 : Inv X pins σ H5 { s6 with heap := h' } := I3.call' (s' := { s6 with heap := h' }) (ch := fp) I6.os u7 hok7 I6.bare fun b hb => by
    obtain ⟨_, g2, g3, g4, g5, g6⟩ := f2 b hb
    exact ⟨g4, g2, g5, g6⟩
   exact ⟨.ref s2.heap.objs.size, H5, I7, rfl, qn⟩
  ·refine wpAny_mono (T.item (blk X N scope cl s3.heap.objs.size s3 (upd H2 s2.heap.objs.size (.lst [])) fp pins) rfl rfl rfl hc k [] s5 σ5 H5 _ I5 (fpB fr5) st5 go) (fun r s6 h6 => ?_) fun _ _ z => z
   obtain ⟨u, hr, h6⟩ := h6
   subst hr
   show wpAny _ _ (pure () >>= fun _ => assign (.Name x px) (compEnvC scope cl s3.heap.objs.size X.env) u) _ _ s6
   refine wpAny_bind (wpAny_mono (show wpAny _ _ (pure ()) _ _ s6 from h6) (fun _ s7 h7 => ?_) fun _ _ z => z)
   obtain ⟨v, H7, I7, r7, y7, st7, fr7⟩ := h7
   have I7' := I7.pinned (fpB fr7) (T.obj _ _ st7)
   refine wpAny_assign_Name (ZfJ (X := blk X N scope cl s3.heap.objs.size s3 (upd H2 s2.heap.objs.size (.lst [])) fp pins) I7' B.nd B.ix (.inl (lookup_relabel_local B.loc)) r7 (fun s8 I8 => ?_) (.inr (lookup_relabel_local B.loc)))
   have back : ∀ {σ9 : St} {H9 : Hp} {s9 : Shared}, Inv (blk X N scope cl s3.heap.objs.size s3 (upd H2 s2.heap.objs.size (.lst [])) fp pins) ([] ++ Zhl fp s7.heap) σ9 H9 s9 -> (∃ m', m' < n /\ W (k + 1) m' σ9 H9) ->
     ∃ m', m' < n /\ ∃ k σ' H', Inv (blk X N scope cl s3.heap.objs.size s3 (upd H2 s2.heap.objs.size (.lst [])) fp pins) [] σ' H' s9 /\ tn k s9.heap /\ (∀ b ∈ fp, H' b = none) /\ W k m' σ' H' := fun {σ9 H9 s9} I9 q9 => by
    obtain ⟨m', hm, w9⟩ := q9
    refine ⟨m', hm, k + 1, σ9, H9, I9.unpinned, T.keep _ _ _ st7 fun b hb o e => (I9.pin (b, o) (Zan _ (Zan _ (Ze1 hb e)))).1, fun b hb => ?_, w9⟩
    obtain ⟨o, e, d⟩ := T.obj _ _ st7 b hb
    exact (I9.pin (b, o) (Zan _ (Zan _ (Ze1 hb e)))).2.1
   refine wpAny_mono (htt _ _ _ _ _ _ s8 _ H7 _ I8 (step v H7 y7)) (fun ok s9 h9 => ?_) fun _ _ z => False.elim z
   obtain ⟨H9, I9, q9⟩ := h9
   cases ok with
   | false =>
    rw [if_neg ZcY]
    rw [if_neg ZcY] at q9
    exact back I9 q9
   | true =>
    rw [if_pos rfl]
    rw [if_pos rfl] at q9
    refine wpAny_mono (hte _ _ _ _ _ _ s9 _ H9 _ I9 q9) (fun y s10 h10 => ?_) fun _ _ z => False.elim z
    obtain ⟨v10, H10, I10, r10, xs, hx10, hz, q10⟩ := h10
    refine wpAny_mono (Zee (X := blk X N scope cl s3.heap.objs.size s3 (upd H2 s2.heap.objs.size (.lst [])) fp pins) _ s10 _ H10 (.ref s2.heap.objs.size) [v10] _ [y] (fun _ H11 => H11 = upd H10 s2.heap.objs.size (.lst (xs ++ [v10]))) I10 rfl (.cons r10 .nil) ⟨_, xs, v10, rfl, rfl, hx10, hz, rfl⟩) (fun _ s11 h11 => ?_) fun _ _ z => False.elim z
    obtain ⟨_, H11, I11, _, e11⟩ := h11
    subst e11
    exact back I11 q10
 exact codeAny_compStart_list (loop _ rfl) (T.self _ 0 _ _ _ st4 (loop _ rfl))
section
variable {X : Cx}
def rSlS : V -> Option Int -> Option Int -> Hp -> VK -> Prop := fun x lo hi H Q => ∃ z, x = .str z /\ z.length <= sizeLine /\ Q (.str (Txt.slice z lo hi)) H
theorem Zh6 : SlR X rSlS := by
 intro pins s σ H x v vl vu lo hi sl Q I rx hs pl pu h
 obtain ⟨z, rfl, hz, q⟩ := h
 obtain ⟨t, rfl⟩ := rx
 refine ⟨"str", _, F.slot_str_getitem.lookup, typeIs_str _ _ _, ?_⟩
 have fin : ∀ t' k, EP X pins σ Q (.str (Txt.slice z lo hi) t') { s with toks := k } := fun t' k => ⟨.str _, H, I.tok k, ⟨t', rfl⟩, q⟩
 cases pl with
 | none =>
  cases pu with
  | none => exact wpAny_getItem_str_slice (l := none) (u := none) (st := none) hs rfl (post_val_or_str ⟨ZbS (Txt.slice_le z _ _) hz, fun t' k => fin t' k⟩)
  | int j u => exact wpAny_getItem_str_slice (l := none) (u := some (j, u)) (st := none) hs rfl (post_val_or_str ⟨ZbS (Txt.slice_le z _ _) hz, fun t' k => fin t' k⟩)
 | int i u' =>
  cases pu with
  | none => exact wpAny_getItem_str_slice (l := some (i, u')) (u := none) (st := none) hs rfl (post_val_or_str ⟨ZbS (Txt.slice_le z _ _) hz, fun t' k => fin t' k⟩)
  | int j u => exact wpAny_getItem_str_slice (l := some (i, u')) (u := some (j, u)) (st := none) hs rfl (post_val_or_str ⟨ZbS (Txt.slice_le z _ _) hz, fun t' k => fin t' k⟩)
theorem Zfj : Zg8 X (.builtin "isinstance") (fun xs H Q => ∃ x v c t b, xs = [x, v] /\ (∀ u, ZeB v u -> u = c) /\ ZjB X.K H x t /\ Zcs X.K t c = some b /\ Q (.bl b) H) := by
 intro pins s σ H xs us Q I r h
 obtain ⟨x, v, c, t, b, rfl, hc, ht, hk, q⟩ := h
 obtain ⟨u, u', rfl, ru, ru'⟩ := ZmK r
 cases hc u' ru'
 exact Zlm I ru ht hk fun tk => ⟨.bl b, H, I.tok tk, rfl, q⟩
end
end L2.Internal
namespace L2.Internal
open PySem PySem.Spec PyProof.Rows
section
variable {X : Cx}
noncomputable def ZkL : List V -> List V -> Bool
 | [], [] => true
 | x :: xs, y :: ys => eqV x y && ZkL xs ys
 | _, _ => false
theorem Zh7 : ∀ (xs ys : List V), xs.length = ys.length -> ((Zaa xs.length).all fun j => match xs[j]?, ys[j]? with | some a, some b => eqV a b | _, _ => false) = ZkL xs ys
 | [], [], _ => rfl
 | x :: xs, y :: ys, h => by
  have h' : xs.length = ys.length := by simpa using h
  have ih := Zh7 xs ys h'
  rw [Zao, ZaX, ZaL, ZaY]
  show (eqV x y && _) = (eqV x y && ZkL xs ys)
  rw [<- ih]
  rfl
 | [], _ :: _, h => by simp at h
 | _ :: _, [], h => by simp at h
theorem Zke : ∀ (xs ys : List V), xs.length ≠ ys.length -> ZkL xs ys = false
 | [], [], h => absurd rfl h
 | x :: xs, y :: ys, h => by
  have h' : xs.length ≠ ys.length := fun e => h (by simp [e])
  show (eqV x y && ZkL xs ys) = false
  rw [Zke xs ys h', Zc3]
 | [], _ :: _, _ => rfl
 | _ :: _, [], _ => rfl
def rEqL (K : PySem.W.Frag) (neg : Bool) : R2 := fun x y H Q => ∃ a b xs ys, x = .ref a /\ y = .ref b /\ SqL K H a xs /\ SqL K H b ys /\ xs.all Zgd = true /\ ys.all Zgd = true /\ Q (.bl (if neg then !ZkL xs ys else ZkL xs ys)) H
theorem ZlF {xs : List V} (h : xs.all Zgd = true) {j : Nat} {x : V} (e : xs[j]? = some x) : Zgd x = true := ZaZ.mp h x (ZaA e)
theorem ZpN (hu : X.A.units < cLine) : OpR X (compareOp .Eq) (rEqL X.K false) := by
 intro pins s σ H x y v u Q I rx ry h
 obtain ⟨a, b, xs, ys, rfl, rfl, ha, hb, fa, fb, q⟩ := h
 cases rx
 cases ry
 obtain ⟨its, rv, pl, hz⟩ := I.list ha
 obtain ⟨its2, rv2, pl2, hz2⟩ := I.list hb
 have l1 := rv.length
 have l2 := rv2.length
 by_cases hl : xs.length = ys.length
 ·refine SeqAt.eq_listAt (e := fun j => match xs[j]?, ys[j]? with | some a, some b => eqV a b | _, _ => false) pl.isList pl2.isList (by simp only [ZaI]; omega) hu (fun j h1 h2 => ?_) ?_
  ·have h1' : j < xs.length := by simp only [ZaI] at h1; omega
   have h2' : j < ys.length := by simp only [ZaI] at h2; omega
   obtain ⟨w1, e1, r1⟩ := rv.get (Za0 h1')
   obtain ⟨w2, e2, r2⟩ := rv2.get (Za0 h2')
   have g1 : its.toArray[j] = w1 := by
    have z := (Zaj.mp e1).2
    simpa using z
   have g2 : its2.toArray[j] = w2 := by
    have z := (Zaj.mp e2).2
    simpa using z
   rw [g1, g2]
   simp only [Za0 h1', Za0 h2']
   exact Zkc r1 r2 (ZlF fa (Za0 h1')) (ZlF fb (Za0 h2'))
  ·have e : ((Zaa its.toArray.size).all fun j => match xs[j]?, ys[j]? with | some a, some b => eqV a b | _, _ => false) = ZkL xs ys := by
    rw [ZaI, <- l1]
    exact Zh7 xs ys hl
   rw [e]
   exact ⟨.bl (ZkL xs ys), H, I, rfl, q⟩
 ·refine SeqAt.eq_list_lengthsAt pl.isList pl2.isList (by simp only [ZaI, bne_iff_ne, ne_eq]; omega) hu ?_
  refine ⟨.bl false, H, I, rfl, ?_⟩
  have e := Zke xs ys hl
  have q' : Q (.bl (ZkL xs ys)) H := q
  rw [e] at q'
  exact q'
open Builtin Builtin.Str in
end
end L2.Internal
namespace L2.Internal
open PySem PySem.Spec PyProof.Rows
section
variable {X : Cx} {st : Stmt} {rest : List Stmt} {t u : TS}
end
end L2.Internal
namespace L2.Internal
open PySem PySem.Spec PyProof.Rows
section
variable {P : Program} {w : World} {H H' : Hp} {h h' : Heap} {a : Addr} {o : HO}
theorem Zer.there (x : Zer P w H h a o) : ∃ ob, h.get? a = some ob := by
 cases o with
 | lst xs => obtain ⟨_, _, _, _, e⟩ := x; exact ⟨_, e⟩
 | tup xs => obtain ⟨_, _, _, ⟨ob, e, _⟩⟩ := x; exact ⟨ob, e⟩
 | dK kvs => obtain ⟨_, _, _, _, ob, _, _, e, _⟩ := x; exact ⟨ob, e⟩
 | dT kvs => obtain ⟨_, _, _, _, ob, _, _, e, _⟩ := x; exact ⟨ob, e⟩
 | set S n => obtain ⟨ob, _, _, _, e, _⟩ := x; exact ⟨ob, e⟩
 | ins C dx fs => obtain ⟨_, _, _, e, _⟩ := x; exact ⟨_, e⟩
 | own y => exact x
 | xd fs => obtain ⟨_, ⟨ob, _, _, e, _⟩, _⟩ := x; exact ⟨ob, e⟩
 | rng lo hi => obtain ⟨_, _, _, e⟩ := x; exact ⟨_, e⟩
 | frz ob u => obtain ⟨e, _⟩ := x; exact ⟨_, e⟩
 | tbl ps => exact ⟨_, x⟩
 | met f y => exact ⟨_, x⟩
 | ext φ => exact x.2.1
end
structure Fl (P : Program) (w : World) (outer : List Env) (H : Hp) (s : Shared) (B : Heap) (H' : Hp) (s' : Shared) : Prop where
 os : s'.os = s.os
 bare : AllBare s'.gens
 un : Un (frs outer) [] H H' s.heap s'.heap
 hok : HOk P w H' s'.heap
 stay : B.StaysIn s'.heap
 trk : ∀ b u, H' b = some u -> ∃ o, B.get? b = some o
 old : ∀ b o, s.heap.get? b = some o -> b ∉ frs outer -> ∃ o', B.get? b = some o'
section
variable {X : Cx} {pins : List (Addr × Obj)} {σ : St} {H H' : Hp} {s s' : Shared} {B h : Heap}
theorem Inv.nst (I : Inv X pins σ H s) {b : Addr} (h1 : b ≠ X.env.locals) (h2 : b ∉ X.fs) : b ∉ frs X.stack := fun hb => (Zag.mp (I.stkSub b hb)).elim h1 h2
theorem Inv.oldNe (I : Inv X pins σ H s) {b : Addr} {o : Obj} (e : X.s₀.heap.get? b = some o) : b ≠ X.env.locals := ZbR (ZbP (Zde e) I.ok.above)
theorem Inv.flown (I : Inv X pins σ H s) (F : Fl X.prog X.w X.stack H s B H' s') (st : B.StaysIn h) (up : s'.heap.UpToSlots h) : Inv X pins σ H' { s' with heap := h } := by
 have J : Inv X pins σ H' s' := I.call' (ch := []) F.os F.un F.hok F.bare (fun b hb => nomatch hb)
 have ex : ∀ b o o0, s'.heap.get? b = some o -> s.heap.get? b = some o0 -> b ∉ frs X.stack -> h.get? b = some o := fun b o o0 e e0 hb => by
  obtain ⟨o1, e1⟩ := F.old b o0 e0 hb
  have e2 := F.stay b o1 e1
  rw [e] at e2
  cases e2
  exact st b o e1
 have fr : ∀ b o, b ∈ frs X.stack -> s'.heap.get? b = some o -> ∃ sl, h.get? b = some { o with slots := sl } := fun b o hb e => by
  obtain ⟨_, o1, e1, hd⟩ := J.stack.mem hb
  rw [e] at e1
  cases e1
  exact up b o e hd
 have cellK : ∀ c v, s'.heap.IsCell c v -> h.IsCell c v := fun c v ⟨o, ho, hd⟩ => by
  obtain ⟨sl, e⟩ := up c o ho (fun vs z => by rw [hd] at z; cases z)
  exact ⟨_, e, hd⟩
 refine ⟨J.ok, J.os, J.bare, ⟨fun b o e n hf hx => ?_, fun b o e n hf hx => ?_, J.base.free, fun b o e hx => ?_, J.base.tups, J.base.frzs, J.base.tbls⟩, ?_, fun y c e => ?_, J.free, J.freeC, fun p hp => ?_, fun b u e => ?_, J.len⟩
 ·exact ex b o o (J.base.keep b o e n hf hx) (I.base.keep b o e n hf hx) (I.nst (I.oldNe e) hf)
 ·obtain ⟨sl, e1⟩ := J.base.slot b o e n hf hx
  obtain ⟨_, o1, e2, hd⟩ := J.funs.mem hf
  rw [e1] at e2
  cases e2
  obtain ⟨sl', e3⟩ := up b _ e1 hd
  exact ⟨sl', e3⟩
 ·obtain ⟨o', e1⟩ := J.base.there b o e hx
  by_cases hb : b ∈ frs X.stack
  ·obtain ⟨sl, e2⟩ := fr b o' hb e1
   exact ⟨_, e2⟩
  ·obtain ⟨o0, e0⟩ := I.base.there b o e hx
   exact ⟨o', ex b o' o0 e1 e0 hb⟩
 ·obtain ⟨m, hn, hl⟩ := J.loc
  refine ⟨m, up.ns hn, fun i x v e1 e2 e3 => ?_⟩
  obtain ⟨u, r, l⟩ := hl i x v e1 e2 e3
  refine ⟨u, r, ?_⟩
  rcases l with l | ⟨k, c, e, z⟩
  ·exact .inl l
  ·exact .inr ⟨k, c, e, cellK _ _ z⟩
 ·obtain ⟨v, z⟩ := J.cell y c e
  exact ⟨v, cellK _ _ z⟩
 ·obtain ⟨e, n, ne, nf, d⟩ := J.pin p hp
  exact ⟨ex p.1 p.2 p.2 e (I.pin p hp).1 (I.nst ne nf), n, ne, nf, d⟩
 ·refine (J.hok b u e).stay (fun c v hc q => ?_) (fun _ z => z) fun _ _ z => z
  have tr : ∃ u', H' c = some u' := by
   rcases hc with z | z
   ·rw [z]; exact ⟨u, e⟩
   ·exact ⟨_, z⟩
  obtain ⟨u', hu⟩ := tr
  obtain ⟨o1, e1⟩ := F.trk c u' hu
  have e2 := F.stay c o1 e1
  rw [q] at e2
  cases e2
  exact st c v e1
theorem Inv.track {ea : Addr} {o : HO} (I : Inv X pins σ H s) (hn : H ea = none) (h0 : X.s₀.heap.get? ea = none) (hL : ea ≠ X.env.locals) (hC : ∀ x c, X.env.cells.lookup x = some c -> c ≠ ea) (hP : ∀ p ∈ X.pn ++ pins, p.1 ≠ ea)
  (new : Zer X.prog X.w (upd H ea o) s.heap ea o) : Inv X pins σ (upd H ea o) s := by
 have ne : ∀ b u, H b = some u -> b ≠ ea := fun b u e z => by rw [z, hn] at e; cases e
 refine ⟨I.ok, I.os, I.bare, ⟨I.base.keep, I.base.slot, fun b ob e n hx => ?_, I.base.there, fun b xs e => ?_, fun b ob u e => ?_, fun b ps e => ?_⟩, I.loc, I.cell, ?_, fun x c e => ?_, fun p hp => ?_, fun b u e => ?_, I.len⟩
 ·rw [Zdt (fun z => by rw [z, h0] at e; cases e)]
  exact I.base.free b ob e n hx
 ·have e1 := I.base.tups b xs e
  rw [Zdt (ne b _ e1)]
  exact e1
 ·have e1 := I.base.frzs b ob u e
  rw [Zdt (ne b _ e1)]
  exact e1
 ·obtain ⟨more, e1⟩ := I.base.tbls b ps e
  exact ⟨more, by rw [Zdt (ne b _ e1)]; exact e1⟩
 ·rw [Zdt (Ne.symm hL)]
  exact I.free
 ·rw [Zdt (hC x c e)]
  exact I.freeC x c e
 ·obtain ⟨e, n, n2, nf, d⟩ := I.pin p hp
  exact ⟨e, by rw [Zdt (hP p hp)]; exact n, n2, nf, d⟩
 ·by_cases hb : b = ea
  ·subst hb
   rw [Zdp] at e
   cases e
   exact new
  ·rw [Zdt hb] at e
   exact (I.hok b u e).stay (fun _ _ _ q => q) (fun c z => by rw [Zdt (ne c _ z)]; exact z) fun c xs z => by rw [Zdt (ne c _ z)]; exact z
theorem ZlG {M : Model} {A : Around} {E : Value -> Shared -> Prop} {i : Nat} {x : Str} {pos : Pos} {Q : Unit -> Shared -> Prop} (I : Inv X pins σ H s) (hN : X.N.Nodup) (hi : X.N[i]? = some x) (hx : X.env.scope.names.lookup x = some .local)
  (h : ∀ s', Inv X pins (σ.set i none) H s' -> Q () s') : wpAny M A (do bindName X.env x .none; unbindBehindTheSuite X.env x pos) Q E s := by
 obtain ⟨m, hn, hl⟩ := id I.loc
 have hcls : (X.env.scope.kind == .class || (X.env.scope.kind == .module && X.env.locals != X.env.globals)) = false := by rw [I.ok.kind]; rfl
 refine wpAny_nameGoes_keeps hx hn hcls fun h' v hn' hs => ?_
 have old : ∀ b o, X.s₀.heap.get? b = some o -> h'.get? b = s.heap.get? b := fun b o e => hs.2 b (I.oldNe e)
 have tr : ∀ b u, H b = some u -> h'.get? b = s.heap.get? b := fun b u e => hs.2 b (fun z => by rw [z, I.free] at e; cases e)
 refine h _ ⟨I.ok, I.os, I.bare, ⟨fun b o e n hf hx' => ?_, fun b o e n hf hx' => ?_, I.base.free, fun b o e hx' => ?_, I.base.tups, I.base.frzs, I.base.tbls⟩, ⟨_, hn', fun j y v' e1 e2 e3 => ?_⟩, fun y c e => ?_, I.free, I.freeC, fun p hp => ?_, fun b u e => ?_, by simpa using I.len⟩
 ·show h'.get? b = _
  rw [old b o e]
  exact I.base.keep b o e n hf hx'
 ·show ∃ sl, h'.get? b = _
  rw [old b o e]
  exact I.base.slot b o e n hf hx'
 ·show ∃ o', h'.get? b = _
  rw [old b o e]
  exact I.base.there b o e hx'
 ·have hj : j ≠ i := fun z => by
   rw [z] at e2
   have hiσ : i < σ.length := by rw [I.len]; exact (Zaj.mp hi).1
   rw [Zak hiσ] at e2
   cases e2
  rw [Zal (Ne.symm hj)] at e2
  obtain ⟨u, r, q⟩ := hl j y v' e1 e2 e3
  refine ⟨u, r, ?_⟩
  rcases q with ⟨k, e⟩ | ⟨k, c, e, z⟩
  ·have yx : y ≠ x := fun e => hj (Zhd hN e1 (e ▸ hi))
   exact .inl ⟨k, by show (if y = x then v else m y) = some u; rw [if_neg yx]; exact e⟩
  ·exact .inr ⟨k, c, e, z.sameBut hs (I.cne y c e)⟩
 ·obtain ⟨w', z⟩ := I.cell y c e
  exact ⟨w', z.sameBut hs (I.cne y c e)⟩
 ·obtain ⟨e, n, ne, nf, d⟩ := I.pin p hp
  exact ⟨(hs.2 p.1 ne).trans e, n, ne, nf, d⟩
 ·refine (I.hok b u e).stay (fun c v hc q => ?_) (fun _ z => z) fun _ _ z => z
  show h'.get? c = _
  rcases hc with z | z
  ·rw [z] at q ⊢
   rw [tr b u e]
   exact q
  ·rw [tr c _ z]
   exact q
end
section
variable {P : Program} {w : World} {K : PySem.W.Frag} {mg : Str -> Option Value} {base : Heap} {N : List Str} {qual : Str} {scope : Scope} {f : Addr} {cd : Value} {A : Around} {outer : List Env} {s₀ : Shared} {H₀ : Hp} {E : XK}
end
noncomputable def ZmU : List Value := [.type "ValueError", .type "Exception", .type "BaseException", .type "object"]
noncomputable abbrev ExcV (K : PySem.W.Frag) (C : Addr) : Prop := PySem.W.excIn K C ZmU "ValueError.__new__" = true
section
variable {X : Cx} {C : Addr} {E : XK} {x : Str} {np cpos pos : Pos} {e : Expr} {es : List Expr} {t : TA}
end
section
variable {P : Program} {w : World} {K : PySem.W.Frag} {mg : Str -> Option Value} {base : Heap}
end
noncomputable abbrev Cx.hand (X : Cx) (ea : Addr) : Cx := { X with A := X.A.mark (some (.ref ea)), calm := false, xe := fun _ _ => False }
section
variable {X : Cx} {pins : List (Addr × Obj)} {σ : St} {H : Hp} {s : Shared}
theorem Inv.hand (I : Inv X pins σ H s) (ea : Addr) : Inv (X.hand ea) pins σ H s :=
 ⟨⟨I.ok.mod, I.ok.kind, I.ok.glob, I.ok.blt, I.ok.above, I.ok.inj, I.ok.has, I.ok.cab, (fun z => nomatch z), I.ok.frames, I.ok.stk, I.ok.exf, I.ok.bs, I.ok.bsz, I.ok.noex, I.ok.exfs, I.ok.funs, I.ok.frf⟩, I.os, I.bare, I.base, I.loc, I.cell, I.free, I.freeC, I.pin, I.hok, I.len⟩
theorem Inv.unhand {ea : Addr} (I : Inv (X.hand ea) pins σ H s) (ok : X.Ok) : Inv X pins σ H s :=
 ⟨ok, I.os, I.bare, I.base, I.loc, I.cell, I.free, I.freeC, I.pin, I.hok, I.len⟩
end
section
variable {X : Cx} {CX : CXT} {k : Nat} {f Y : Addr} {fd : FuncData} {ps : List Str} {sp : Sp} {dvs : List V} {ds : List Value} {E : XK} {x y n : Str} {p pos pos' py hpos tpos : Pos} {e : Expr} {es : List Expr} {t : TA} {b₀ : Stmt} {body : List Stmt} {tb : TS} {i : Nat}
theorem ZlH {E' : Value -> Shared -> Prop} {pins : List (Addr × Obj)} {σ : St} {H : Hp} {s : Shared} {Q : VK} {us : List Value} {vs : List V} (F : ZfA X.prog X.w X.K X.mg X.base CX k f fd ps sp) (hr : Zgr k X.A) (hb : Zex X.K fd ps ds) (hd : Zei dvs ds)
  (hx : ∀ e s', CX X.stack H s E e s' -> E' e s') (I : Inv X pins σ H s) (r : Zei vs us) (h : sp (vs ++ dvs) H Q E) : wpAny (model X.prog X.w) X.A (call (.ref f) us) (EP X pins σ Q) E' s := by
 have r2 : Zei (vs ++ dvs) (us ++ ds) := r.append hd
 have hl : (us ++ ds).length = ps.length := by rw [<- r2.length]; exact F.len _ _ _ _ h
 refine wpAny_call (codeAny_mono (F.run X.A X.stack s H ⟨us, []⟩ (us ++ ds) (vs ++ dvs) Q E hr I.env0 (hb s us I.kIn hl) r2 h) fun r s' hq => ?_)
 cases r with
 | error e => exact hx e s' hq
 | ok fl =>
  cases fl with
  | ret u => exact I.after hq
  | next => exact False.elim hq
  | brk => exact False.elim hq
  | cont => exact False.elim hq
end
section
variable {X : Cx} {e : Expr} {es : List Expr} {te : TE} {pos : Pos}
end
end L2.Internal
namespace L2.Internal
open PySem PySem.Spec PyProof.Rows
section
variable {X : Cx}
end
inductive Dt where
 | flat (v : V)
 | tup (l : List Dt)
 | lst (l : List Dt)
mutual
inductive At (K : PySem.W.Frag) (H : Hp) : V -> Dt -> Prop where
 | flat {v : V} (h : Zgd v = true) : At K H v (.flat v)
 | tup {a : Addr} {xs : List V} {ds : List Dt} (h : SqT K H a xs) (hs : Ats K H xs ds) : At K H (.ref a) (.tup ds)
 | lst {a : Addr} {xs : List V} {ds : List Dt} (h : SqL K H a xs) (hs : Ats K H xs ds) : At K H (.ref a) (.lst ds)
inductive Ats (K : PySem.W.Frag) (H : Hp) : List V -> List Dt -> Prop where
 | nil : Ats K H [] []
 | cons {x : V} {d : Dt} {xs : List V} {ds : List Dt} (h : At K H x d) (hs : Ats K H xs ds) : Ats K H (x :: xs) (d :: ds)
end
mutual
noncomputable def eqD : Dt -> Dt -> Bool
 | .flat a, .flat b => eqV a b
 | .tup l, .tup m => Zjt l m
 | .lst l, .lst m => Zjt l m
 | _, _ => false
noncomputable def Zjt : List Dt -> List Dt -> Bool
 | [], [] => true
 | x :: xs, y :: ys => eqD x y && Zjt xs ys
 | _, _ => false
end
mutual
noncomputable def ZgE : Dt -> Dt -> Bool
 | .flat _, .flat _ => true
 | .tup l, .tup m => Zhu l m
 | .lst l, .lst m => if l.length = m.length then Zhu l m else true
 | _, _ => false
noncomputable def Zhu : List Dt -> List Dt -> Bool
 | x :: xs, y :: ys => ZgE x y && Zhu xs ys
 | _, _ => true
end
mutual
noncomputable def ZhV : Dt -> Nat
 | .flat _ => 0
 | .tup l => ZeK l + 1
 | .lst l => ZeK l + 1
noncomputable def ZeK : List Dt -> Nat
 | [] => 0
 | x :: xs => max (ZhV x) (ZeK xs)
end
theorem Ats.length {K : PySem.W.Frag} {H : Hp} : ∀ {xs : List V} {ds : List Dt}, Ats K H xs ds -> xs.length = ds.length
 | _, _, .nil => rfl
 | _, _, .cons _ t => by rw [Zao, Zao, Ats.length t]
theorem Ats.get {K : PySem.W.Frag} {H : Hp} : ∀ {xs : List V} {ds : List Dt} {j : Nat} {x : V}, Ats K H xs ds -> xs[j]? = some x -> ∃ d, ds[j]? = some d /\ At K H x d
 | _, _, 0, _, .cons h _, e => ⟨_, rfl, by cases e; exact h⟩
 | _, _, j + 1, _, .cons _ t, e => Ats.get (j := j) t e
 | _, _, _, _, .nil, e => by simp at e
theorem Zim : ∀ (l m : List Dt), l.length ≠ m.length -> Zjt l m = false
 | [], [], h => absurd rfl h
 | x :: xs, y :: ys, h => by
  rw [Zjt, Zim xs ys (fun e => h (by rw [Zao, Zao, e])), Zc3]
 | [], y :: ys, _ => by rw [Zjt]; all_goals simp
 | x :: xs, [], _ => by rw [Zjt]; all_goals simp
noncomputable def ZkM (l m : List Dt) (j : Nat) : Bool := match l[j]?, m[j]? with
 | some a, some b => eqD a b
 | _, _ => false
theorem ZgZ : ∀ (l m : List Dt), l.length = m.length -> ((Zaa l.length).all fun j => ZkM l m j) = Zjt l m
 | [], [], _ => by rw [Zjt]; rfl
 | x :: xs, y :: ys, h => by
  have ih := ZgZ xs ys (by simpa using h)
  rw [Zao, ZaX, ZaL, ZaY, Zjt, <- ih]
  rfl
 | [], _ :: _, h => by simp at h
 | _ :: _, [], h => by simp at h
theorem ZfX : ∀ {l m : List Dt} {j : Nat} {a b : Dt}, Zhu l m = true -> l[j]? = some a -> m[j]? = some b -> ZgE a b = true
 | x :: xs, y :: ys, 0, a, b, h, e1, e2 => by
  rw [Zhu, Zc2] at h
  cases e1
  cases e2
  exact h.1
 | x :: xs, y :: ys, j + 1, a, b, h, e1, e2 => by
  rw [Zhu, Zc2] at h
  exact ZfX (j := j) h.2 e1 e2
 | [], _, _, _, _, _, e1, _ => by simp at e1
 | _ :: _, [], _, _, _, _, _, e2 => by simp at e2
theorem depDs_get : ∀ {l : List Dt} {j : Nat} {a : Dt}, l[j]? = some a -> ZhV a <= ZeK l
 | x :: xs, 0, a, e => by cases e; rw [ZeK]; exact Nat.le_max_left ..
 | x :: xs, j + 1, a, e => by rw [ZeK]; exact ZbS (depDs_get (j := j) e) (Nat.le_max_right ..)
 | [], _, _, e => by simp at e
theorem ZlI {v : V} (h : Zgd v = true) : eqV v v = true := by
 cases v with
 | non => rfl
 | bl b => show (b == b) = true; simp
 | int i => show (i == i) = true; simp
 | str x => show (x == x) = true; simp
 | _ => exact absurd h ZcY
section
variable {X : Cx} {pins : List (Addr × Obj)} {σ : St} {H : Hp} {s : Shared}
mutual
theorem At.same (I : Inv X pins σ H s) : ∀ {x : V} {d e : Dt}, At X.K H x d -> At X.K H x e -> ZgE d e = true -> eqD d e = true
 | _, _, _, .flat h, .flat _, _ => by rw [eqD]; exact ZlI h
 | _, _, _, .tup h hs, .tup h' hs', c => by
  have e := I.tuple_inj h h'
  subst e
  rw [ZgE] at c
  rw [eqD]
  exact Ats.same I hs hs' c
 | _, _, _, .lst h hs, .lst h' hs', c => by
  have e := I.list_inj h h'
  subst e
  rw [ZgE, if_pos (hs.length.symm.trans hs'.length)] at c
  rw [eqD]
  exact Ats.same I hs hs' c
 | _, _, _, .flat h, .tup _ _, _ => absurd h ZcY
 | _, _, _, .flat h, .lst _ _, _ => absurd h ZcY
 | _, _, _, .tup _ _, .flat h, _ => absurd h ZcY
 | _, _, _, .lst _ _, .flat h, _ => absurd h ZcY
 | _, _, _, .tup _ _, .lst _ _, c => by simp [ZgE] at c
 | _, _, _, .lst _ _, .tup _ _, c => by simp [ZgE] at c
theorem Ats.same (I : Inv X pins σ H s) : ∀ {xs : List V} {l m : List Dt}, Ats X.K H xs l -> Ats X.K H xs m -> Zhu l m = true -> Zjt l m = true
 | _, _, _, .nil, .nil, _ => by rw [Zjt]
 | _, _, _, .cons h t, .cons h' t', c => by
  rw [Zhu, Zc2] at c
  rw [Zjt, At.same I h h' c.1, Ats.same I t t' c.2]
  rfl
end
def Els (K : PySem.W.Frag) (H : Hp) (A : Around) (s : Shared) (ds es : List Dt) : Prop :=
 ∀ (j : Nat) (d1 d2 : Dt) (x y : V) (u v : Value), ds[j]? = some d1 -> es[j]? = some d2 -> ZeB x u -> ZeB y v -> At K H x d1 -> At K H y d2 -> SeqAt.EqAt A s u v (eqD d1 d2)
theorem els {A : Around} {xs ys : List V} {its its2 : List Value} {ds es : List Dt} (r : Zei xs its) (r2 : Zei ys its2) (hs : Ats X.K H xs ds) (hs' : Ats X.K H ys es) (EL : Els X.K H A s ds es) :
  ∀ j (h1 : j < its.toArray.size) (h2 : j < its2.toArray.size), SeqAt.EqAt A s its.toArray[j] its2.toArray[j] (ZkM ds es j) := fun j h1 h2 => by
 have l1 := r.length
 have l2 := r2.length
 have h1' : j < xs.length := by simp only [ZaI] at h1; omega
 have h2' : j < ys.length := by simp only [ZaI] at h2; omega
 obtain ⟨w1, e1, q1⟩ := r.get (Za0 h1')
 obtain ⟨w2, e2, q2⟩ := r2.get (Za0 h2')
 obtain ⟨d1, f1, p1⟩ := hs.get (Za0 h1')
 obtain ⟨d2, f2, p2⟩ := hs'.get (Za0 h2')
 have g1 : its.toArray[j] = w1 := by simpa using (Zaj.mp e1).2
 have g2 : its2.toArray[j] = w2 := by simpa using (Zaj.mp e2).2
 have ed : ZkM ds es j = eqD d1 d2 := by unfold ZkM; rw [f1, f2]
 rw [g1, g2, ed]
 exact EL j d1 d2 _ _ _ _ f1 f2 q1 q2 p1 p2
theorem Zoq {ds es : List Dt} {n m : Nat} (h1 : n = ds.length) (h2 : m = es.length) : ((Zaa (min n m)).all (ZkM ds es) && n == m) = eqD (.tup ds) (.tup es) := by
 subst h1 h2
 rw [eqD]
 by_cases hl : ds.length = es.length
 ·rw [<- ZgZ ds es hl, <- hl, Nat.min_self]
  simp
 ·rw [Zim ds es hl, beq_eq_false_iff_ne.mpr hl, Zc3]
theorem Zor {ds es : List Dt} {n : Nat} (h1 : n = ds.length) (h : ds.length = es.length) : ((Zaa n).all (ZkM ds es)) = eqD (.lst ds) (.lst es) := by
 subst h1
 rw [eqD, <- ZgZ ds es h]
theorem ZnC {A : Around} {a b : Addr} {xs ys : List V} {ds es : List Dt} (I : Inv X pins σ H s) (h : SqT X.K H a xs) (hs : Ats X.K H xs ds) (h' : SqT X.K H b ys) (hs' : Ats X.K H ys es) (hu : A.units < cLine) (EL : Els X.K H A.in1 s ds es) :
  SeqAt.RcAt A s (.ref a) (.ref b) (eqD (.tup ds) (.tup es)) /\ SeqAt.RcNeAt A s (.ref a) (.ref b) (!eqD (.tup ds) (.tup es)) := by
 obtain ⟨its, r, pl, _⟩ := I.tuple h
 obtain ⟨its2, r2, pl2, _⟩ := I.tuple h'
 have e := els r r2 hs hs' EL
 have l1 : its.toArray.size = ds.length := by rw [ZaI, <- r.length, hs.length]
 have l2 : its2.toArray.size = es.length := by rw [ZaI, <- r2.length, hs'.length]
 have k1 := SeqAt.RcAt.tuples (A := A) (s := s) pl pl2 hu e
 have k2 := SeqAt.RcNeAt.tuples (A := A) (s := s) pl pl2 hu e
 rw [Zoq l1 l2] at k1 k2
 exact ⟨k1, k2⟩
theorem ZnD {A : Around} {a b : Addr} {xs ys : List V} {ds es : List Dt} (I : Inv X pins σ H s) (h : SqL X.K H a xs) (hs : Ats X.K H xs ds) (h' : SqL X.K H b ys) (hs' : Ats X.K H ys es) (hu : A.units < cLine) (EL : ds.length = es.length -> Els X.K H A.in1 s ds es) :
  SeqAt.RcAt A s (.ref a) (.ref b) (eqD (.lst ds) (.lst es)) /\ SeqAt.RcNeAt A s (.ref a) (.ref b) (!eqD (.lst ds) (.lst es)) := by
 obtain ⟨its, r, pl, _⟩ := I.list h
 obtain ⟨its2, r2, pl2, _⟩ := I.list h'
 have l1 : its.toArray.size = ds.length := by rw [ZaI, <- r.length, hs.length]
 have l2 : its2.toArray.size = es.length := by rw [ZaI, <- r2.length, hs'.length]
 by_cases hl : ds.length = es.length
 ·have e := els r r2 hs hs' (EL hl)
  have k1 := SeqAt.RcAt.lists (A := A) (s := s) pl.isList pl2.isList (by rw [l1, l2, hl]) hu e
  have k2 := SeqAt.RcNeAt.lists (A := A) (s := s) pl.isList pl2.isList (by rw [l1, l2, hl]) hu e
  rw [Zor l1 hl] at k1 k2
  exact ⟨k1, k2⟩
 ·have hne : (its.toArray.size != its2.toArray.size) = true := by rw [l1, l2]; exact bne_iff_ne.mpr hl
  have k1 := SeqAt.RcAt.lists_lengths (A := A) (s := s) pl.isList pl2.isList hne hu
  have k2 := SeqAt.RcNeAt.lists_lengths (A := A) (s := s) pl.isList pl2.isList hne hu
  rw [eqD, Zim ds es hl]
  exact ⟨k1, k2⟩
theorem ZnE (I : Inv X pins σ H s) : ∀ (n : Nat) (A : Around) {x y : V} {u v : Value} {d e : Dt}, ZeB x u -> ZeB y v -> At X.K H x d -> At X.K H y e -> ZgE d e = true -> ZhV d <= n -> A.units + n < cLine -> SeqAt.EqAt A s u v (eqD d e) := by
 intro n
 induction n with
 | zero =>
  intro A x y u v d e rx ry hx hy c hd hu
  cases hx with
  | flat h =>
   cases hy with
   | flat h' => rw [eqD]; exact Zkc rx ry h h'
   | tup _ _ => simp [ZgE] at c
   | lst _ _ => simp [ZgE] at c
  | tup _ _ => rw [ZhV] at hd; omega
  | lst _ _ => rw [ZhV] at hd; omega
 | succ n ih =>
  intro A x y u v d e rx ry hx hy c hd hu
  cases hx with
  | flat h =>
   cases hy with
   | flat h' => rw [eqD]; exact Zkc rx ry h h'
   | tup _ _ => simp [ZgE] at c
   | lst _ _ => simp [ZgE] at c
  | @tup a xs ds h hs =>
   cases hy with
   | flat _ => simp [ZgE] at c
   | lst _ _ => simp [ZgE] at c
   | @tup b ys es h' hs' =>
    cases rx
    cases ry
    by_cases hab : a = b
    ·subst hab
     rw [At.same I (.tup h hs) (.tup h' hs') c]
     exact SeqAt.EqAt.same _
    ·rw [ZgE] at c
     rw [ZhV] at hd
     refine SeqAt.EqAt.of_refs hab (ZnC I h hs h' hs' (by omega) fun j d1 d2 x y u v f1 f2 q1 q2 p1 p2 => ?_).1
     exact ih A.in1 q1 q2 p1 p2 (ZfX c f1 f2) (ZbS (depDs_get f1) (by omega)) (by show A.units + 1 + n < cLine; omega)
  | @lst a xs ds h hs =>
   cases hy with
   | flat _ => simp [ZgE] at c
   | tup _ _ => simp [ZgE] at c
   | @lst b ys es h' hs' =>
    cases rx
    cases ry
    by_cases hab : a = b
    ·subst hab
     rw [At.same I (.lst h hs) (.lst h' hs') c]
     exact SeqAt.EqAt.same _
    ·rw [ZhV] at hd
     refine SeqAt.EqAt.of_refs hab (ZnD I h hs h' hs' (by omega) fun hl j d1 d2 x y u v f1 f2 q1 q2 p1 p2 => ?_).1
     rw [ZgE, if_pos hl] at c
     exact ih A.in1 q1 q2 p1 p2 (ZfX c f1 f2) (ZbS (depDs_get f1) (by omega)) (by show A.units + 1 + n < cLine; omega)
def rEqD (K : PySem.W.Frag) (neg : Bool) : R2 := fun x y H Q => ∃ a b d e, x = .ref a /\ y = .ref b /\ At K H x d /\ At K H y e /\ ZgE d e = true /\ ZhV d <= 100 /\ Q (.bl (if neg then !eqD d e else eqD d e)) H
theorem rcD (I : Inv X pins σ H s) {A : Around} {a b : Addr} {d e : Dt} (hx : At X.K H (.ref a) d) (hy : At X.K H (.ref b) e) (c : ZgE d e = true) (hd : ZhV d <= 100) (hu : A.units + 101 < cLine) :
  SeqAt.RcAt A s (.ref a) (.ref b) (eqD d e) /\ SeqAt.RcNeAt A s (.ref a) (.ref b) (!eqD d e) := by
 cases hx with
 | flat h => exact absurd h ZcY
 | @tup a xs ds h hs =>
  cases hy with
  | flat h => exact absurd h ZcY
  | lst _ _ => simp [ZgE] at c
  | @tup b ys es h' hs' =>
   rw [ZgE] at c
   rw [ZhV] at hd
   refine ZnC I h hs h' hs' (by omega) fun j d1 d2 x y u v f1 f2 q1 q2 p1 p2 => ?_
   exact ZnE I 100 A.in1 q1 q2 p1 p2 (ZfX c f1 f2) (ZbS (depDs_get f1) (by omega)) (by show A.units + 1 + 100 < cLine; omega)
 | @lst a xs ds h hs =>
  cases hy with
  | flat h => exact absurd h ZcY
  | tup _ _ => simp [ZgE] at c
  | @lst b ys es h' hs' =>
   rw [ZhV] at hd
   refine ZnD I h hs h' hs' (by omega) fun hl j d1 d2 x y u v f1 f2 q1 q2 p1 p2 => ?_
   rw [ZgE, if_pos hl] at c
   exact ZnE I 100 A.in1 q1 q2 p1 p2 (ZfX c f1 f2) (ZbS (depDs_get f1) (by omega)) (by show A.units + 1 + 100 < cLine; omega)
end
section
variable {X : Cx}
theorem ZnF {k : Nat} (hr : Zgr k X.A) : OpR X (compareOp .NotEq) (rEqD X.K true) := by
 intro pins s σ H x y v u Q I rx ry h
 obtain ⟨a, b, d, e, rfl, rfl, hx, hy, c, hd, q⟩ := h
 cases rx
 cases ry
 have hu := hr.un
 exact (rcD I hx hy c hd (by omega)).2 _ _ _ _ ⟨.bl _, H, I, rfl, q⟩
end
end L2.Internal
namespace L2.Internal
open PySem PySem.Spec PyProof.Rows
section
variable {X : Cx} {o i : Expr} {pos : Pos} {td ty : TE} {a : Addr} {kvs : List (Key × V)}
end
end L2.Internal
namespace L2.Internal
open PySem PySem.Spec PyProof.Rows
section
variable {X : Cx}
end
section
variable {X : Cx} {k : Nat} {f Y : Addr} {fd : FuncData} {ps : List Str} {sp : Sp} {dvs : List V} {ds : List Value} {x y n : Str} {p pos pos' py hpos tpos pn : Pos} {e : Expr} {es : List Expr} {t : TA} {b₀ : Stmt} {body : List Stmt} {tb : TS} {i : Nat}
end
end L2.Internal
namespace L2.Internal
end L2.Internal
namespace L2.Internal
open PySem PySem.Spec PyProof.Rows
end L2.Internal
namespace L2.Internal
open PySem PySem.Spec PyProof.Rows
section
variable {X : Cx} {pins : List (Addr × Obj)} {σ : St} {H : Hp} {s : Shared} {h' : Heap}
theorem Inv.turnedL {t' : Nat} {ch : List Addr} (I : Inv X pins σ H s) (k : ∀ b o, b ∉ ch -> s.heap.get? b = some o -> h'.get? b = some o) (hf : ∀ b ∈ ch, Zjy X pins H b) : Inv X pins σ H { s with heap := h', toks := t' } := by
 have nit : ∀ b u, H b = some u -> b ∉ ch := fun b u e z => by
  have q := (hf b z).1
  rw [q] at e; cases e
 refine I.step (g' := s.gens) (d' := s.drawn) (ch := ch) (fun b hb => ?_) (fun b o _ _ hc e _ => k b o hc e) (fun b o _ _ hc e _ => ⟨o.slots, k b o hc e⟩) (fun _ _ _ _ n => n)
  (fun b o hc e => ⟨o, k b o hc e⟩) (fun _ _ e => e) (fun _ _ _ e => e) (fun b ps e => ⟨#[], by rw [e]; simp⟩) (fun m hm => ?_) (fun b u e => ?_) I.bare
 ·obtain ⟨_, f1, _, f3, f4, f5⟩ := hf b hb
  exact ⟨f3, f1, f4, f5⟩
 ·obtain ⟨o, es, ep, ho, r⟩ := hm
  exact ⟨o, es, ep, k _ o (fun z => (hf _ z).2.1 rfl) ho, r⟩
 ·refine (I.hok b u e).stay (fun c v hc q => k c v ?_ q) (fun _ q => q) fun _ _ q => q
  rcases hc with z | z
  ·rw [z]; exact nit b u e
  ·exact nit c _ z
theorem Inv.pairNew {T : Addr} {h : Heap} {tk : Nat} {ux uy : Value} {x y : V} (I : Inv X pins σ H s) (hT : s.heap.objs.size <= T) (J : Inv X pins σ H { s with heap := h, toks := tk }) (ht : Zky h T #[ux, uy]) (rx : ZeB x ux) (ry : ZeB y uy) :
  H T = none /\ Inv X pins σ (upd H T (.tup [x, y])) { s with heap := h, toks := tk } := by
 have f := I.fpOk (H' := H) hT (I.hok.fresh hT)
 refine ⟨f.1, J.track f.1 ?_ f.2.1 f.2.2.2.2.1 f.2.2.2.2.2 ⟨by show 2 <= sizeLine; decide, [ux, uy], .cons rx (.cons ry .nil), ht⟩⟩
 cases q : X.s₀.heap.get? T with
 | none => rfl
 | some o => exact absurd (ZbP (Zde q) (ZbS I.sz hT)) (ZbQ _)
end
noncomputable def Itz (K : PySem.W.Frag) (a b : Addr) : It :=
 ⟨fun i H => ∃ xs ys x y, SqL K H a xs /\ SqL K H b ys /\ xs[i]? = some x /\ ys[i]? = some y,
   fun i H v H' => ∃ T x y, v = .ref T /\ H T = none /\ H' = upd H T (.tup [x, y]) /\ (∀ xs, SqL K H a xs -> xs[i]? = some x) /\ ∀ ys, SqL K H b ys -> ys[i]? = some y,
   fun i H => ∃ xs ys, SqL K H a xs /\ SqL K H b ys /\ i = min xs.length ys.length⟩
def ZSt (z TI TO i1 i2 a b : Addr) (i : Nat) (h : Heap) : Prop := IsZip h z TI TO .none /\ IsPair h TI (.ref i1) (.ref i2) /\ (∃ u v, IsPair h TO u v) /\ h.IsListIter i1 a i /\ h.IsListIter i2 b i
theorem ZmV {P : Program} {w : World} {K : PySem.W.Frag} {es : List Expr} {kk : Nat} {tp : Pos} {a b z TI TO i1 i2 : Addr} (D : ZipApart z TI TO i1 i2 a b) : Znw P w K (.Tuple es kk tp) (Itz K a b) [z, TI, TO, i1, i2] z (ZSt z TI TO i1 i2 a b) where
 mem := by simp
 obj := fun i h st c hc => by
  obtain ⟨g1, g2, ⟨u, v, g3⟩, ⟨o4, g4, _, d4⟩, ⟨o5, g5, _, d5⟩⟩ := st
  simp only [Zag, Za1, or_false] at hc
  rcases hc with e | e | e | e | e <;> subst e
  ·exact ⟨_, g1, fun v q => nomatch q⟩
  ·exact ⟨_, g2, fun v q => nomatch q⟩
  ·exact ⟨_, g3, fun v q => nomatch q⟩
  ·exact ⟨_, g4, fun v q => by rw [d4] at q; cases q⟩
  ·exact ⟨_, g5, fun v q => by rw [d5] at q; cases q⟩
 keep := fun i h h' st k => by
  obtain ⟨g1, g2, ⟨u, v, g3⟩, g4, g5⟩ := st
  exact ⟨k z (by simp) _ g1, k TI (by simp) _ g2, ⟨u, v, k TO (by simp) _ g3⟩, g4.at fun o e => k i1 (by simp) o e, g5.at fun o e => k i2 (by simp) o e⟩
 item := by
  intro X hP hw hK hc i pins s σ H E I hf st hg
  subst hP hw hK
  obtain ⟨xs, ys, x, y, qx, qy, ex, ey⟩ := hg
  obtain ⟨i1s, r1, p1, z1⟩ := I.list qx
  obtain ⟨i2s, r2, p2, z2⟩ := I.list qy
  obtain ⟨g1, g2, g3, g4, g5⟩ := st
  obtain ⟨u3, v3, g3'⟩ := g3
  obtain ⟨ux, hux, rr1⟩ := r1.get ex
  obtain ⟨uy, huy, rr2⟩ := r2.get ey
  have hw : ∀ c ∈ [z, TO, i1, i2], Zjy X pins H c := fun c hc => hf c (by simp only [Zag, Za1, or_false] at hc ⊢; rcases hc with h | h | h | h <;> simp [h])
  refine wpAny_pyNext_zip_item D g1 g2 g3' g4 g5 p1.isList p2.isList (x := ux) (y := uy) (by simpa using hux) (by simpa using huy) fun h1 a1 a2 a3 a4 a5 a6 hk => ?_
  have kk1 : ∀ c o, c ∉ [z, TO, i1, i2] -> s.heap.get? c = some o -> h1.get? c = some o := fun c o hc e => hk c o (fun q => hc (by simp [q])) (fun q => hc (by simp [q])) (fun q => hc (by simp [q])) (fun q => hc (by simp [q])) e
  have J1 : Inv X pins σ H { s with heap := h1, toks := s.toks } := I.turnedL kk1 hw
  refine ⟨.ref s.heap.objs.size, rfl, wpAny_letOwnedTupleGo_zip a1 fun h2 a1' sb => ?_⟩
  have J2 : Inv X pins σ H { s with heap := h2, toks := s.toks } := Inv.turnedL (s := { s with heap := h1, toks := s.toks }) (h' := h2) (t' := s.toks) (ch := [z]) J1 (fun c o hc e => sb.extBut _ _ (fun q => hc (by simp [q])) e) fun c hc => hf c (by simp only [Zag, Za1, or_false] at hc ⊢; simp [hc])
  have zlt : z < s.heap.objs.size := Zde g1
  have ht2 : Zky h2 s.heap.objs.size #[ux, uy] := ⟨_, sb.extBut _ _ (ZbU zlt) a5, rfl, _, rfl, rfl⟩
  obtain ⟨fT, J3⟩ := I.pairNew (ZbV _) J2 ht2 rr1 rr2
  refine ⟨.ref s.heap.objs.size, _, J3, rfl, ⟨_, x, y, rfl, fT, rfl, fun l hl => by rw [I.list_inj hl qx]; exact ex, fun l hl => by rw [I.list_inj hl qy]; exact ey⟩,
   ⟨a1', sb.extBut _ _ D.TIz (hk _ _ D.TIz D.TITO D.TIi1 D.TIi2 g2), ⟨_, _, sb.extBut _ _ D.TOz a2⟩, a3.extBut sb.extBut D.i1z, a4.extBut sb.extBut D.i2z⟩, fun c hc => ?_⟩
  rw [Zdt (fun q => ?_)]
  ·exact (hf c hc).1
  ·have lt : c < s.heap.objs.size := by
    obtain ⟨o4, e4, _⟩ := g4
    obtain ⟨o5, e5, _⟩ := g5
    simp only [Zag, Za1, or_false] at hc
    rcases hc with e | e | e | e | e <;> subst e
    ·exact Zde g1
    ·exact Zde g2
    ·exact Zde g3'
    ·exact Zde e4
    ·exact Zde e5
   exact absurd lt (by rw [q]; exact ZbQ _)
 done := by
  intro X hP hw hK hc i pins s σ H E I hf st hg
  subst hP hw hK
  obtain ⟨xs, ys, qx, qy, ei⟩ := hg
  obtain ⟨i1s, r1, p1, z1⟩ := I.list qx
  obtain ⟨i2s, r2, p2, z2⟩ := I.list qy
  obtain ⟨g1, g2, g3, g4, g5⟩ := st
  have W := WalksT.zip2 (prog := X.prog) (w := X.w) (I.ok.hd hc) z TI TO i1 i2 a b D i1s.toArray i2s.toArray
  have l1 := r1.length
  have l2 := r2.length
  have e : i = min i1s.toArray.size i2s.toArray.size := by simp only [ZaI]; omega
  subst e
  exact W.done s _ _ ⟨g1, g2, g3, g4, g5, p1.isList, p2.isList⟩ fun h1 tk hk => ⟨rfl, I.turnedL hk fun c hc => hf c (by simp only [Zag, Za1, or_false] at hc ⊢; rcases hc with h | h | h | h <;> simp [h])⟩
 self := fun _ _ _ _ _ st h => wpAny_pyIter_zip st.1 h
theorem ZpO : bootBuiltins "zip" = some (.type "zip") := by decide +kernel
theorem Zi3 : bootBuiltins "enumerate" = some (.type "enumerate") := by decide +kernel
theorem SqL.old {X : Cx} {pins : List (Addr × Obj)} {σ : St} {H : Hp} {s : Shared} {a : Addr} {xs : List V} (I : Inv X pins σ H s) (h : SqL X.K H a xs) : a < s.heap.objs.size := by
 obtain ⟨its, _, p, _⟩ := I.list h
 obtain ⟨o, e, _⟩ := p.isList
 exact Zde e
def iZip (K : PySem.W.Frag) (ta : TA) : TI := fun σ H R => ta σ H fun vs H1 => ∃ a b, vs = [.ref a, .ref b] /\ (∃ xs, SqL K H1 a xs) /\ (∃ ys, SqL K H1 b ys) /\ R (Itz K a b) H1
section
variable {X : Cx}
theorem ZlJ {es : List Expr} {kk : Nat} {tp : Pos} {a b : Expr} {ta : TA} {p pos : Pos} (hg : Gl X "zip") (hm : X.mg "zip" = none) (ha : PA X [a, b] ta) (hs : autoParam (starEach [a, b] X.env = [(false, eval a X.env), (false, eval b X.env)]) L2.Internal.auR._auto_1) (hs2 : autoParam (starEach [b] X.env = [(false, eval b X.env)]) L2.Internal.auR._auto_1) :
  PI X (.Tuple es kk tp) (.Call (.Name "zip" p) [a, b] [] pos) (iZip X.K ta) := by
 intro pins s σ H R I h
 refine Call_ (ZfT I hg hm ZpO (Zdl (thn (ha pos pins s σ H _ I h) fun us s1 ⟨vs, H1, I1, r1, q1⟩ => ?_) (by rw [hs, hs2]) (by rw [hs2]; rfl)))
 obtain ⟨l1, l2, e, ⟨xs, q1⟩, ⟨ys, q2⟩, q⟩ := q1
 subst e
 obtain ⟨u, v, rfl, ru, rv⟩ := ZmK r1
 cases ru
 cases rv
 obtain ⟨i1s, w1, p1, z1⟩ := I1.list q1
 obtain ⟨i2s, w2, p2, z2⟩ := I1.list q2
 have o1 : @LT.lt Nat _ l1 s1.heap.objs.size := SqL.old I1 q1
 have o2 : @LT.lt Nat _ l2 s1.heap.objs.size := SqL.old I1 q2
 refine call_zip_2 p1.isList p2.isList fun h1 hz hTI hTO hi1 hi2 hsz hk => wpAny_pyIter_zip hz ?_
 have D : ZipApart (s1.heap.objs.size + 4) (s1.heap.objs.size + 2) (s1.heap.objs.size + 3) s1.heap.objs.size (s1.heap.objs.size + 1) l1 l2 := by constructor <;> exact fun (h : @Eq Nat _ _) => by omega
 refine ⟨_, _, _, _, H1, rfl, I1.kept (t' := s1.toks) hk, ZmV D, ⟨hz, hTI, ⟨_, _, hTO⟩, hi1, hi2⟩, fun c hc => ?_, q⟩
 have ge : s1.heap.objs.size <= c := by
  simp only [Zag, Za1, or_false] at hc
  rcases hc with h | h | h | h | h <;> rw [h] <;> first | exact ZbV _ | exact Nat.le_add_right _ _
 exact I1.fpOk ge (I1.hok.fresh ge)
end
noncomputable def Ite (K : PySem.W.Frag) (a : Addr) : It :=
 ⟨fun i H => ∃ xs x, SqL K H a xs /\ xs[i]? = some x,
   fun i H v H' => ∃ T x, v = .ref T /\ H T = none /\ H' = upd H T (.tup [.int (i : Int), x]) /\ ∀ xs, SqL K H a xs -> xs[i]? = some x,
   fun i H => ∃ xs, SqL K H a xs /\ i = xs.length⟩
def ESt (e it a : Addr) (i : Nat) (h : Heap) : Prop := (∃ old, IsEnum h e it i old) /\ h.IsListIter it a i
theorem ZlK {P : Program} {w : World} {K : PySem.W.Frag} {es : List Expr} {kk : Nat} {tp : Pos} {a e it : Addr} (h1 : e ≠ it) (h2 : a ≠ e) (h3 : a ≠ it) : Znw P w K (.Tuple es kk tp) (Ite K a) [e, it] e (ESt e it a) where
 mem := by simp
 obj := fun i h st c hc => by
  obtain ⟨⟨old, g1⟩, ⟨o4, g4, _, d4⟩⟩ := st
  simp only [Zag, Za1, or_false] at hc
  rcases hc with q | q <;> subst q
  ·exact ⟨_, g1, fun v q => nomatch q⟩
  ·exact ⟨_, g4, fun v q => by rw [d4] at q; cases q⟩
 keep := fun i h h' st k => by
  obtain ⟨⟨old, g1⟩, g4⟩ := st
  exact ⟨⟨old, k e (by simp) _ g1⟩, g4.at fun o q => k it (by simp) o q⟩
 item := by
  intro X hP hw hK hc i pins s σ H E I hf st hg
  subst hP hw hK
  obtain ⟨xs, x, qx, ex⟩ := hg
  obtain ⟨i1s, r1, p1, z1⟩ := I.list qx
  obtain ⟨g1, g4⟩ := st
  obtain ⟨old, g1'⟩ := g1
  obtain ⟨ux, hux, rr1⟩ := r1.get ex
  have lte : e < s.heap.objs.size := Zde g1'
  refine wpAny_pyNext_enum_item g1' g4 p1.isList (x := ux) (by simpa using hux) h1 fun k1 ho hit' hT hsz hk => ?_
  have kk1 : ∀ c o, c ∉ [e, it] -> s.heap.get? c = some o -> k1.get? c = some o := fun c o hc q => hk c o (fun z => hc (by simp [z])) (fun z => hc (by simp [z])) q
  have J1 : Inv X pins σ H { s with heap := k1, toks := s.toks + 1 } := I.turnedL kk1 hf
  refine ⟨.ref s.heap.objs.size, rfl, wpAny_letOwnedTupleGo_enum ho fun k2 he' sb => ?_⟩
  have J2 : Inv X pins σ H { s with heap := k2, toks := s.toks + 1 } := Inv.turnedL (s := { s with heap := k1, toks := s.toks + 1 }) (h' := k2) (t' := s.toks + 1) (ch := [e]) J1 (fun c o hc q => (sb.2 c (fun z => hc (by simp [z]))).trans q) fun c hc => hf c (by simp only [Zag, Za1, or_false] at hc ⊢; simp [hc])
  have ht2 : Zky k2 s.heap.objs.size #[.int i s.toks, ux] := ⟨_, (sb.2 _ (ZbU lte)).trans hT, rfl, _, rfl, rfl⟩
  obtain ⟨fT, J3⟩ := I.pairNew (x := .int (i : Int)) (ZbV _) J2 ht2 ⟨s.toks, rfl⟩ rr1
  refine ⟨.ref s.heap.objs.size, _, J3, rfl, ⟨_, x, rfl, fT, rfl, fun l hl => by rw [I.list_inj hl qx]; exact ex⟩, ⟨⟨_, by simpa using he'⟩, hit'.at fun o y => (sb.2 it h1.symm).trans y⟩, fun c hc => ?_⟩
  rw [Zdt (fun q => ?_)]
  ·exact (hf c hc).1
  ·have lt : c < s.heap.objs.size := by
    obtain ⟨o4, e4, _⟩ := g4
    simp only [Zag, Za1, or_false] at hc
    rcases hc with q | q <;> subst q
    ·exact lte
    ·exact Zde e4
   exact absurd lt (by rw [q]; exact ZbQ _)
 done := by
  intro X hP hw hK hc i pins s σ H E I hf st hg
  subst hP hw hK
  obtain ⟨xs, qx, ei⟩ := hg
  obtain ⟨i1s, r1, p1, z1⟩ := I.list qx
  obtain ⟨g1, g4⟩ := st
  have W := WalksT.enumerate (prog := X.prog) (w := X.w) (I.ok.hd hc) e it a h1 h2 h3 i1s.toArray
  have l1 := r1.length
  have q : i = i1s.toArray.size := by simp only [ZaI]; omega
  subst q
  exact W.done s _ _ ⟨g1, g4, p1.isList⟩ fun h1 tk hk => ⟨rfl, I.turnedL hk hf⟩
 self := fun _ _ _ _ _ st h => by
  obtain ⟨⟨old, g1⟩, _⟩ := st
  exact wpAny_pyIter_enum g1 h
def Zra (K : PySem.W.Frag) (ta : TA) : TI := fun σ H R => ta σ H fun vs H1 => ∃ a, vs = [.ref a] /\ (∃ xs, SqL K H1 a xs) /\ R (Ite K a) H1
section
variable {X : Cx}
theorem ZjL {es : List Expr} {kk : Nat} {tp : Pos} {a : Expr} {ta : TA} {p pos : Pos} (hg : Gl X "enumerate") (hm : X.mg "enumerate" = none) (ha : PA X [a] ta) (hs : autoParam (starEach [a] X.env = [(false, eval a X.env)]) L2.Internal.auR._auto_1) :
  PI X (.Tuple es kk tp) (.Call (.Name "enumerate" p) [a] [] pos) (Zra X.K ta) := by
 intro pins s σ H R I h
 refine Call_ (ZfT I hg hm Zi3 (Zdl (thn (ha pos pins s σ H _ I h) fun us s1 ⟨vs, H1, I1, r1, q1⟩ => ?_) hs rfl))
 obtain ⟨l1, e, ⟨xs, q1⟩, q⟩ := q1
 subst e
 obtain ⟨u, rfl, ru⟩ := ZgX r1
 cases ru
 obtain ⟨i1s, w1, p1, z1⟩ := I1.list q1
 have o1 : @LT.lt Nat _ l1 s1.heap.objs.size := SqL.old I1 q1
 refine call_enumerate_list p1.isList fun h1 hE hi1 hsz hk => wpAny_pyIter_enum hE ?_
 refine ⟨_, _, _, _, H1, rfl, I1.kept (t' := s1.toks) hk, ZlK (fun (h : @Eq Nat _ _) => by omega) (fun (h : @Eq Nat _ _) => by omega) (fun (h : @Eq Nat _ _) => by omega), ⟨⟨_, hE⟩, hi1⟩, fun c hc => ?_, q⟩
 have ge : s1.heap.objs.size <= c := by
  simp only [Zag, Za1, or_false] at hc
  rcases hc with h | h <;> rw [h] <;> first | exact ZbV _ | exact Nat.le_add_right _ _
 exact I1.fpOk ge (I1.hok.fresh ge)
end
def LcG (J : It) (g : TG) (te : TE) (Q : VK) (τ : St) (H1 : Hp) (D : Addr) : Prop :=
 ∃ W : Nat -> Nat -> St -> Hp -> Prop, (∃ m, W 0 m τ (upd H1 D (.lst []))) /\ ∀ k m σ' H2, W k m σ' H2 ->
  (J.stop k H2 /\ Q (.ref D) H2) \/ (J.go k H2 /\ ∀ v H3, J.yld k H2 v H3 -> g v σ' H3 fun σ4 H4 => te σ4 H4 fun y H5 => ∃ xs, H5 D = some (.lst xs) /\ xs.length < sizeLine /\ ∃ m', m' < m /\ W (k + 1) m' σ4 (upd H5 D (.lst (xs ++ [y]))))
def tLG (wi : TI) (f : St -> St) (g : TG) (te : TE) : TE := fun σ H Q => wi σ H fun J H1 => ∀ D, H1 D = none -> LcG J g te Q (f σ) H1 D
theorem ZnG {X : Cx} {elt iter : Expr} {es : List Expr} {kk : Nat} {tp : Pos} {x : Str} {scope : Scope} {pos : Pos} {N : List Str} {cl : List (Str × Addr)} {f : St -> St} {i : Nat} {wi : TI} {g : TG} {te : TE}
  (hc : X.calm = true) (B : ZjJ X N scope cl f i x) (hi : PI X (.Tuple es kk tp) iter wi)
  (hg : ∀ C s₀ H₀ ex pins, PG (blk X N scope cl C s₀ H₀ ex pins) (.Tuple es kk tp) g) (hte : ∀ C s₀ H₀ ex pins, PE (blk X N scope cl C s₀ H₀ ex pins) elt te)
  (hs : autoParam (∀ x, foldedSetIterable iter X.env x = pure x) L2.Internal.auI._auto_1) : PE X (.ListComp elt [⟨.Tuple es kk tp, iter, [], 0⟩] scope pos) (tLG wi f g te) := by
 intro pins s σ H Q I h
 rw [eval_ListComp]
 refine wpAny_comprehension_free (use := none) rfl hs B.clos B.kind B.names (thn (hi pins s σ H _ I h) fun xv s1 h1 => thn h1 fun itv s2 h2 => ?_)
 obtain ⟨it, fp, tn, J, H2, rfl, I2, T, st2, f2, q⟩ := h2
 have hD : H2 s2.heap.objs.size = none := I2.fresh
 obtain ⟨W, ⟨m0, w0⟩, turn⟩ := q _ hD
 refine wpAny_newObj_type (wpAny_newFunctionEnv B.cell (by intro y hy; simp at hy) (fun h₁ hns₁ hsb₁ => ?_) B.kind)
 have I3 : Inv X pins σ (upd H2 s2.heap.objs.size (.lst [])) { s2 with heap := s2.heap.push { cls := .type "list", data := .seq ([] : List Value).toArray } } := I2.lnew (its := []) (ys := []) (t' := s2.toks) .nil (ZbW _)
 have lt2 : ∀ b ∈ fp, b < s2.heap.objs.size := fun b hb => by
  obtain ⟨o, ho, _⟩ := T.obj _ _ st2 b hb
  exact Zde ho
 have fp3 : ∀ b ∈ fp, Zjy X pins (upd H2 s2.heap.objs.size (.lst [])) b := fun b hb => by
  refine ⟨?_, (f2 b hb).2⟩
  rw [Zdt (ZbR (lt2 b hb))]
  exact (f2 b hb).1
 generalize hs3 : ({ s2 with heap := s2.heap.push { cls := .type "list", data := .seq ([] : List Value).toArray } } : Shared) = s3 at I3 hns₁ hsb₁ ⊢
 have eh : s2.heap.push { cls := .type "list", data := .seq ([] : List Value).toArray } = s3.heap := by rw [<- hs3]
 have lt3 : ∀ b ∈ fp, b < s3.heap.objs.size := fun b hb => by
  rw [<- eh, Zdi]
  exact Zb0 (lt2 b hb)
 have old : ∀ b o, s3.heap.get? b = some o -> h₁.get? b = some o := fun b o e => hsb₁.extBut b o (ZbR (Zde e)) (Zdh _ e)
 have I4 := ZjK (tk := s3.toks + ([] : List (Str × Value)).length) B I3 (ex := fp) (fun b hb => ⟨fp3 b hb, lt3 b hb⟩) old hns₁
 have st4 : tn 0 h₁ := T.keep _ _ _ st2 fun b _ o e => old b o (by rw [<- eh]; exact Zdh _ e)
 have fpB : ∀ {H' : Hp}, (∀ b ∈ fp, H' b = none) -> ∀ b ∈ fp, Zjy (blk X N scope cl s3.heap.objs.size s3 (upd H2 s2.heap.objs.size (.lst [])) fp pins) [] H' b := fun {H'} hn b hb => by
  obtain ⟨_, g2, g3, g4, g5, g6⟩ := f2 b hb
  refine ⟨hn b hb, ZbR (lt3 b hb), fun z => (Zag.mp (I3.stkSub b z)).elim g2 g3, .inl hb, fun y c e => g5 y c (B.lk y c e), fun p hp => ?_⟩
  rw [Zas] at hp
  exact g6 p hp
 have loop : ∀ s4 : Shared, s4 = { s3 with heap := h₁, toks := s3.toks + ([] : List (Str × Value)).length } ->
   codeAny (model X.prog X.w) X.A (.compLoop (.ListComp elt [⟨.Tuple es kk tp, iter, [], 0⟩] scope pos) 0 (.ref it) (.ref s2.heap.objs.size) (compEnvC scope cl s3.heap.objs.size X.env))
    (compPost (model X.prog X.w) X.A X.xe none (EP X pins σ Q) (.ref s2.heap.objs.size) s3.heap.objs.size) s4 := by
  rintro s4 rfl
  refine PyProof.Rows.LCp.codeAny_compLoop_pair (I := fun n s' => ∃ k σ' H', Inv (blk X N scope cl s3.heap.objs.size s3 (upd H2 s2.heap.objs.size (.lst [])) fp pins) [] σ' H' s' /\ tn k s'.heap /\ (∀ b ∈ fp, H' b = none) /\ W k n σ' H') ?_ m0
   ⟨0, f σ, _, I4, st4, fun b hb => (fp3 b hb).1, w0⟩
  rintro n s5 ⟨k, σ5, H5, I5, st5, fr5, w5⟩
  rcases turn k n σ5 H5 w5 with ⟨stop, qn⟩ | ⟨go, step⟩
  ·refine wpAny_mono (T.done (blk X N scope cl s3.heap.objs.size s3 (upd H2 s2.heap.objs.size (.lst [])) fp pins) rfl rfl rfl hc k [] s5 σ5 H5 _ I5 (fpB fr5) st5 stop) (fun r s6 h6 => ?_) fun _ _ z => z
   obtain ⟨hr, I6⟩ := h6
   subst hr
   obtain ⟨m6, hn6, _⟩ := id I6.loc
   refine ⟨m6, hn6, fun h' sb => ?_⟩
   have nC : ∀ b o, s3.heap.get? b = some o -> b ≠ s3.heap.objs.size := fun b o e => ZbR (Zde e)
   have u6 : Un (frs X.stack) fp (upd H2 s2.heap.objs.size (.lst [])) H5 s3.heap s6.heap := I6.base
   have u7 : Un (frs X.stack) fp (upd H2 s2.heap.objs.size (.lst [])) H5 s3.heap h' :=
    ⟨fun b o e z1 z2 z3 => (sb.2 b (nC b o e)).trans (u6.keep b o e z1 z2 z3), fun b o e z1 z2 z3 => by
     obtain ⟨sl, e1⟩ := u6.slot b o e z1 z2 z3
     exact ⟨sl, (sb.2 b (nC b o e)).trans e1⟩, u6.free, fun b o e z => by
     obtain ⟨o', e1⟩ := u6.there b o e z
     exact ⟨o', (sb.2 b (nC b o e)).trans e1⟩, u6.tups, u6.frzs, u6.tbls⟩
   have hok7 : HOk X.prog X.w H5 h' := fun b o e => (I6.hok b o e).stay (fun c w' hcc e1 => (sb.2 c (fun z => by
     have fr : H5 s3.heap.objs.size = none := I6.free
     rcases hcc with y | y
     ·rw [<- y, z, fr] at e; cases e
     ·rw [z, fr] at y; cases y)).trans e1) (fun _ z => z) fun _ _ z => z
   have I7 : Inv X pins σ H5 { s6 with heap := h' } := I3.call' (s' := { s6 with heap := h' }) (ch := fp) I6.os u7 hok7 I6.bare fun b hb => by
    obtain ⟨_, g2, g3, g4, g5, g6⟩ := f2 b hb
    exact ⟨g4, g2, g5, g6⟩
   exact ⟨.ref s2.heap.objs.size, H5, I7, rfl, qn⟩
  ·refine wpAny_mono (T.item (blk X N scope cl s3.heap.objs.size s3 (upd H2 s2.heap.objs.size (.lst [])) fp pins) rfl rfl rfl hc k [] s5 σ5 H5 _ I5 (fpB fr5) st5 go) (fun r s6 h6 => ?_) fun _ _ z => z
   obtain ⟨u, hr, h6⟩ := h6
   subst hr
   refine wpAny_mono h6 (fun _ s7 h7 => ?_) fun _ _ z => z
   obtain ⟨v, H7, I7, r7, y7, st7, fr7⟩ := h7
   have I7' := I7.pinned (fpB fr7) (T.obj _ _ st7)
   have back : ∀ {σ9 : St} {H9 : Hp} {s9 : Shared}, Inv (blk X N scope cl s3.heap.objs.size s3 (upd H2 s2.heap.objs.size (.lst [])) fp pins) ([] ++ Zhl fp s7.heap) σ9 H9 s9 -> (∃ m', m' < n /\ W (k + 1) m' σ9 H9) ->
     ∃ m', m' < n /\ ∃ k σ' H', Inv (blk X N scope cl s3.heap.objs.size s3 (upd H2 s2.heap.objs.size (.lst [])) fp pins) [] σ' H' s9 /\ tn k s9.heap /\ (∀ b ∈ fp, H' b = none) /\ W k m' σ' H' := fun {σ9 H9 s9} I9 q9 => by
    obtain ⟨m', hm, w9⟩ := q9
    refine ⟨m', hm, k + 1, σ9, H9, I9.unpinned, T.keep _ _ _ st7 fun b hb o e => (I9.pin (b, o) (Zan _ (Zan _ (Ze1 hb e)))).1, fun b hb => ?_, w9⟩
    obtain ⟨o, e, d⟩ := T.obj _ _ st7 b hb
    exact (I9.pin (b, o) (Zan _ (Zan _ (Ze1 hb e)))).2.1
   refine wpAny_mono (hg s3.heap.objs.size s3 (upd H2 s2.heap.objs.size (.lst [])) fp pins _ s7 σ5 H7 v u _ I7' r7 (step v H7 y7)) (fun _ s8 h8 => ?_) fun _ _ z => False.elim z
   obtain ⟨σ8, H8, I8, q8⟩ := h8
   refine wpAny_mono (hte _ _ _ _ _ _ s8 _ H8 _ I8 q8) (fun y s10 h10 => ?_) fun _ _ z => False.elim z
   obtain ⟨v10, H10, I10, r10, xs, hx10, hz, q10⟩ := h10
   refine wpAny_mono (Zee (X := blk X N scope cl s3.heap.objs.size s3 (upd H2 s2.heap.objs.size (.lst [])) fp pins) _ s10 _ H10 (.ref s2.heap.objs.size) [v10] _ [y] (fun _ H11 => H11 = upd H10 s2.heap.objs.size (.lst (xs ++ [v10]))) I10 rfl (.cons r10 .nil) ⟨_, xs, v10, rfl, rfl, hx10, hz, rfl⟩) (fun _ s11 h11 => ?_) fun _ _ z => False.elim z
   obtain ⟨_, H11, I11, _, e11⟩ := h11
   subst e11
   exact back I11 q10
 exact codeAny_compStart_list (loop _ rfl) (T.self _ 0 _ _ _ st4 (loop _ rfl))
theorem ZpP {X : Cx} {scope : Scope} {x y : Str} (hk : scope.kind = .function) (hn : ∀ p ∈ scope.names, p.2 ≠ .cell /\ p.2 ≠ .free) (hl : ∀ y ∈ scope.names, y.2 = .local -> scope.names.lookup y.1 = some .local)
  (hx : scope.names.lookup x = some .local) (hxy : [x, y].Nodup) (hc : closureFor scope X.env = pure []) : ZjJ X [x, y] scope [] (fun _ => [none, none]) 0 x where
 kind := hk
 cell := fun y hy => (hn y hy).1
 names := hl
 clos := hc
 lk := fun y c h => by simp at h
 has := fun y h => by
  rcases h with h | h
  ·obtain ⟨k0, e, z⟩ := Zek h
   have m := hn _ (PySem.mem_of_lookup e)
   rcases z with z | ⟨z, _⟩
   ·exact absurd z.symm m.1
   ·exact absurd z m.2
  ·obtain ⟨k0, e, z⟩ := Zek h
   have m := hn _ (PySem.mem_of_lookup e)
   rcases z with z | ⟨z, _⟩
   ·exact absurd z.symm m.2
   ·exact absurd z m.2
 nd := hxy
 ix := rfl
 loc := hx
 len := fun _ _ => rfl
 val := fun σ k y v h1 h2 => by
  match k with
  | 0 => simp at h2
  | 1 => simp at h2
  | k + 2 => simp at h2
theorem Zh8 {z : Str} : ∀ {cap : List (Str × Nat × Addr)}, z ∈ cap.map (·.1) -> ∃ c, (cap.map fun p => (p.1, p.2.2)).lookup z = some c
 | [], h => by simp at h
 | p :: r, h => by
  cases e : z == p.1 with
  | true => exact ⟨p.2.2, by simp only [Zaq, ZaW, e]⟩
  | false =>
   have q : z ∈ r.map (·.1) := by
    rcases Zag.mp h with y | y
    ·rw [y] at e; simp at e
    ·exact y
   obtain ⟨c, hc⟩ := Zh8 q
   exact ⟨c, by simp only [Zaq, ZaW, e]; exact hc⟩
theorem ZlL {X : Cx} {scope : Scope} {x : Str} (ns : List Str) (cap : List (Str × Nat × Addr)) (hns : cap.map (·.1) = ns) (hk : scope.kind = .function) (hn : ∀ p ∈ scope.names, p.2 ≠ .cell /\ (p.2 = .free -> p.1 ∈ ns)) (hl : ∀ y ∈ scope.names, y.2 = .local -> scope.names.lookup y.1 = some .local)
  (hx : scope.names.lookup x = some .local) (hnd : (x :: ns).Nodup) (hc : closureFor scope X.env = pure (cap.map fun p => (p.1, p.2.2))) (hok : X.env.scope.kind = .function)
  (h : ∀ p ∈ cap, scope.names.lookup p.1 = some .free /\ X.env.cells.lookup p.1 = some p.2.2 /\ X.env.scope.names.lookup p.1 = some .cell /\ X.N[p.2.1]? = some p.1) :
  ZjJ X (x :: ns) scope (cap.map fun p => (p.1, p.2.2)) (fun σ => none :: cap.map fun p => σ.getD p.2.1 none) 0 x where
 kind := hk
 cell := fun y hy => (hn y hy).1
 names := hl
 clos := hc
 lk := fun z c q => by
  have m := PySem.mem_of_lookup q
  obtain ⟨p, hp, e⟩ := ZaS.mp m
  cases e
  exact (h p hp).2.1
 has := fun z q => by
  refine Zh8 ?_
  rw [hns]
  rcases q with q | q
  ·obtain ⟨k0, e, q⟩ := Zek q
   have m := hn _ (PySem.mem_of_lookup e)
   rcases q with q | ⟨q, _⟩
   ·exact absurd q.symm m.1
   ·exact m.2 q
  ·obtain ⟨k0, e, q⟩ := Zek q
   have m := hn _ (PySem.mem_of_lookup e)
   rcases q with q | ⟨q, _⟩
   ·exact m.2 q.symm
   ·exact m.2 q
 nd := hnd
 ix := rfl
 loc := hx
 len := fun _ _ => by simp [<- hns]
 val := fun σ k z v h1 h2 => by
  cases k with
  | zero => simp at h2
  | succ k =>
   rw [<- hns, Za2, Zaz] at h1
   rw [Za2, Zaz] at h2
   cases e : cap[k]? with
   | none => rw [e] at h1; cases h1
   | some p =>
    rw [e] at h1 h2
    have ez : p.1 = z := Zb4.inj h1
    have ev : σ.getD p.2.1 none = some v := Zb4.inj h2
    subst ez
    obtain ⟨a1, a2, a3, a4⟩ := h p (ZaA e)
    rw [Za3] at ev
    refine ⟨p.2.1, a4, ?_, a3, Zfw hok a3 a1⟩
    cases q : σ[p.2.1]? with
    | none => rw [q] at ev; cases ev
    | some o => rw [q] at ev; exact congrArg some ev
section
variable {X : Cx}
end
section
variable {X : Cx} {CX : CXT} {k : Nat} {f C : Addr} {fd : FuncData} {ps : List Str} {sp : Sp} {dvs : List V} {ds : List Value} {E : XK} {m : Str} {pos apos : Pos} {e o : Expr} {es : List Expr} {t : TA}
end
section
variable {X : Cx}
theorem ZpQ : bootBuiltins "max" = some (.builtin "max") := by decide +kernel
theorem Zi4 (hc : X.calm = true) : Zg8 X (.builtin "sum") (fun xs H Q => ∃ (a : Addr) (ns : List Int), xs = [.ref a] /\ SqL X.K H a (ns.map V.int) /\ ∀ n, Q (.int n) H) := by
 intro pins s σ H xs us Q I r h
 obtain ⟨a, ns, rfl, hq, q⟩ := h
 obtain ⟨u, rfl, ru⟩ := ZgX r
 cases ru
 obtain ⟨its, rv, p, hz⟩ := I.list hq
 obtain ⟨zs, e⟩ := (Zh4 rv).allInts.items
 have l := p.isList
 rw [e] at l
 exact sum_intListG (I.ok.hd hc) l fun h' tk t' hk => ⟨.int _, H, I.kept (t' := tk) hk, ⟨_, rfl⟩, q _⟩
end
theorem Zhg {X : Cx} {elt iter : Expr} {x y : Str} {j : Nat} {py spos : Pos} {px : Pos} {ifs : List Expr} {scope : Scope} {pos : Pos} {N : List Str} {cl : List (Str × Addr)} {f : St -> St} {i : Nat} {wi : TI} {tt : TT} {te : TE}
  (hc : X.calm = true) (B : ZjJ X N scope cl f i x) (hi : PI X (.Name x px) iter wi)
  (htt : ∀ C s₀ H₀ ex pins, PTs (blk X N scope cl C s₀ H₀ ex pins) ifs tt) (hte : ∀ C s₀ H₀ ex pins, PE (blk X N scope cl C s₀ H₀ ex pins) elt te)
  (hN : X.N.Nodup) (hj : X.N[j]? = some y) (hy : Loc X.env.scope y) (hsw : autoParam (swapsWith (.ListComp elt [⟨.Name x px, iter, ifs, 0⟩] scope pos) (some (.Name y py)) spos.line X.env = pure true) L2.Internal.auR._auto_1) (hs : autoParam (∀ x, foldedSetIterable iter X.env x = pure x) L2.Internal.auI._auto_1)
  (hf : autoParam (X.fn y = true \/ X.env.scope.names.lookup y = some .local) L2.Internal.auL._auto_1) : PS X (.Assign [.Name y py] (.ListComp elt [⟨.Name x px, iter, ifs, 0⟩] scope pos) spos) (Zpe (tLC wi f i tt te) (Zd1 j)) := by
 intro pins s σ H En I h
 rw [exec_Assign_Name_used _ _ _ _ hsw]
 refine wpAny_bind (wpAny_standAt (wpAny_bind ?_))
 show wpAny _ X.A (do let _ <- comprehension (.ListComp elt [⟨.Name x px, iter, ifs, 0⟩] scope pos) scope X.env _ (newList []) false (eval iter X.env) (some (assign (.Name y py) X.env))) _ _ s
 refine wpAny_bind (wpAny_mono (wpAny_comprehension_free (use := some (assign (.Name y py) X.env)) (Q := fun _ s' => SP X pins En .next s') rfl hs B.clos B.kind B.names (thn (hi pins s σ H _ I h) fun xv s1 h1 => thn h1 fun itv s2 h2 => ?_)) (fun _ s' hq => wpAny_pure (wpAny_pure hq)) fun _ _ e => e)
 obtain ⟨it, fp, tn, J, H2, rfl, I2, T, st2, f2, q⟩ := h2
 have hD : H2 s2.heap.objs.size = none := I2.fresh
 obtain ⟨W, ⟨m0, w0⟩, turn⟩ := q _ hD
 refine wpAny_newObj_type (wpAny_newFunctionEnv B.cell (by intro y hy; simp at hy) (fun h₁ hns₁ hsb₁ => ?_) B.kind)
 have I3 : Inv X pins σ (upd H2 s2.heap.objs.size (.lst [])) { s2 with heap := s2.heap.push { cls := .type "list", data := .seq ([] : List Value).toArray } } := I2.lnew (its := []) (ys := []) (t' := s2.toks) .nil (ZbW _)
 have lt2 : ∀ b ∈ fp, b < s2.heap.objs.size := fun b hb => by
  obtain ⟨o, ho, _⟩ := T.obj _ _ st2 b hb
  exact Zde ho
 have fp3 : ∀ b ∈ fp, Zjy X pins (upd H2 s2.heap.objs.size (.lst [])) b := fun b hb => by
  refine ⟨?_, (f2 b hb).2⟩
  rw [Zdt (ZbR (lt2 b hb))]
  exact (f2 b hb).1
 generalize hs3 : ({ s2 with heap := s2.heap.push { cls := .type "list", data := .seq ([] : List Value).toArray } } : Shared) = s3 at I3 hns₁ hsb₁ ⊢
 have eh : s2.heap.push { cls := .type "list", data := .seq ([] : List Value).toArray } = s3.heap := by rw [<- hs3]
 have lt3 : ∀ b ∈ fp, b < s3.heap.objs.size := fun b hb => by
  rw [<- eh, Zdi]
  exact Zb0 (lt2 b hb)
 have old : ∀ b o, s3.heap.get? b = some o -> h₁.get? b = some o := fun b o e => hsb₁.extBut b o (ZbR (Zde e)) (Zdh _ e)
 have I4 := ZjK (tk := s3.toks + ([] : List (Str × Value)).length) B I3 (ex := fp) (fun b hb => ⟨fp3 b hb, lt3 b hb⟩) old hns₁
 have st4 : tn 0 h₁ := T.keep _ _ _ st2 fun b _ o e => old b o (by rw [<- eh]; exact Zdh _ e)
 have fpB : ∀ {H' : Hp}, (∀ b ∈ fp, H' b = none) -> ∀ b ∈ fp, Zjy (blk X N scope cl s3.heap.objs.size s3 (upd H2 s2.heap.objs.size (.lst [])) fp pins) [] H' b := fun {H'} hn b hb => by
  obtain ⟨_, g2, g3, g4, g5, g6⟩ := f2 b hb
  refine ⟨hn b hb, ZbR (lt3 b hb), fun z => (Zag.mp (I3.stkSub b z)).elim g2 g3, .inl hb, fun y c e => g5 y c (B.lk y c e), fun p hp => ?_⟩
  rw [Zas] at hp
  exact g6 p hp
 have loop : ∀ s4 : Shared, s4 = { s3 with heap := h₁, toks := s3.toks + ([] : List (Str × Value)).length } ->
   codeAny (model X.prog X.w) X.A (.compLoop (.ListComp elt [⟨.Name x px, iter, ifs, 0⟩] scope pos) 0 (.ref it) (.ref s2.heap.objs.size) (compEnvC scope cl s3.heap.objs.size X.env))
    (compPost (model X.prog X.w) X.A X.xe (some (assign (.Name y py) X.env)) (fun _ s' => SP X pins En .next s') (.ref s2.heap.objs.size) s3.heap.objs.size) s4 := by
  rintro s4 rfl
  refine codeAny_compLoop_tests (I := fun n s' => ∃ k σ' H', Inv (blk X N scope cl s3.heap.objs.size s3 (upd H2 s2.heap.objs.size (.lst [])) fp pins) [] σ' H' s' /\ tn k s'.heap /\ (∀ b ∈ fp, H' b = none) /\ W k n σ' H') ?_ m0
   ⟨0, f σ, _, I4, st4, fun b hb => (fp3 b hb).1, w0⟩
  rintro n s5 ⟨k, σ5, H5, I5, st5, fr5, w5⟩
  rcases turn k n σ5 H5 w5 with ⟨stop, qn⟩ | ⟨go, step⟩
  ·refine wpAny_mono (T.done (blk X N scope cl s3.heap.objs.size s3 (upd H2 s2.heap.objs.size (.lst [])) fp pins) rfl rfl rfl hc k [] s5 σ5 H5 _ I5 (fpB fr5) st5 stop) (fun r s6 h6 => ?_) fun _ _ z => z
   obtain ⟨hr, I6⟩ := h6
   subst hr
   obtain ⟨m6, hn6, _⟩ := id I6.loc
   have I7 : Inv X pins σ H5 s6 := I3.call' (s' := s6) (ch := fp) I6.os I6.base I6.hok I6.bare fun b hb => by
    obtain ⟨_, g2, g3, g4, g5, g6⟩ := f2 b hb
    exact ⟨g4, g2, g5, g6⟩
   obtain ⟨oC, es, ep, hoC, hdC, hkC⟩ := id hn6
   have hCL : s3.heap.objs.size ≠ X.env.locals := ZbU I3.lt
   have I8 : Inv X (pins ++ [(s3.heap.objs.size, oC)]) σ H5 s6 := I7.pins_of fun p hp => (Zah.mp hp).elim (fun z => I7.pin p (Zan _ z)) fun z => by
    have ez : p = (s3.heap.objs.size, oC) := by simpa using z
    subst ez
    exact ⟨hoC, I6.free, hCL, I3.nofs (ZbV _), fun v q => by rw [hdC] at q; cases q⟩
   show wpAny _ X.A (assign (.Name y py) X.env (.ref s2.heap.objs.size)) _ _ s6
   refine wpAny_assign_Name (ZfJ (X := X) I8 hN hj hy (v := .ref s2.heap.objs.size) rfl (fun s7 I9 => ?_) hf)
   have pC := I9.pin (s3.heap.objs.size, oC) (Zan _ (Zan _ (by simp)))
   refine ⟨m6, ⟨oC, es, ep, pC.1, hdC, hkC⟩, fun h' sb => ?_⟩
   refine ⟨σ.set j (some (.ref s2.heap.objs.size)), H5, ?_, qn⟩
   exact Inv.turned (h' := h') (t' := s7.toks) (it := s3.heap.objs.size) I9.unpinned (fun b o hb e => (sb.2 b hb).trans e) pC.2.1 hCL (.inr I3.sz) (fun z c e q => by
    obtain ⟨v, q2⟩ := I3.cell z c e
    exact absurd (q ▸ q2.lt) (ZbQ _)) fun p hp q => absurd (q ▸ Zde (I3.pin p hp).1) (ZbQ _)
  ·refine wpAny_mono (T.item (blk X N scope cl s3.heap.objs.size s3 (upd H2 s2.heap.objs.size (.lst [])) fp pins) rfl rfl rfl hc k [] s5 σ5 H5 _ I5 (fpB fr5) st5 go) (fun r s6 h6 => ?_) fun _ _ z => z
   obtain ⟨u, hr, h6⟩ := h6
   subst hr
   show wpAny _ _ (pure () >>= fun _ => assign (.Name x px) (compEnvC scope cl s3.heap.objs.size X.env) u) _ _ s6
   refine wpAny_bind (wpAny_mono (show wpAny _ _ (pure ()) _ _ s6 from h6) (fun _ s7 h7 => ?_) fun _ _ z => z)
   obtain ⟨v, H7, I7, r7, y7, st7, fr7⟩ := h7
   have I7' := I7.pinned (fpB fr7) (T.obj _ _ st7)
   refine wpAny_assign_Name (ZfJ (X := blk X N scope cl s3.heap.objs.size s3 (upd H2 s2.heap.objs.size (.lst [])) fp pins) I7' B.nd B.ix (.inl (lookup_relabel_local B.loc)) r7 (fun s8 I8 => ?_) (.inr (lookup_relabel_local B.loc)))
   have back : ∀ {σ9 : St} {H9 : Hp} {s9 : Shared}, Inv (blk X N scope cl s3.heap.objs.size s3 (upd H2 s2.heap.objs.size (.lst [])) fp pins) ([] ++ Zhl fp s7.heap) σ9 H9 s9 -> (∃ m', m' < n /\ W (k + 1) m' σ9 H9) ->
     ∃ m', m' < n /\ ∃ k σ' H', Inv (blk X N scope cl s3.heap.objs.size s3 (upd H2 s2.heap.objs.size (.lst [])) fp pins) [] σ' H' s9 /\ tn k s9.heap /\ (∀ b ∈ fp, H' b = none) /\ W k m' σ' H' := fun {σ9 H9 s9} I9 q9 => by
    obtain ⟨m', hm, w9⟩ := q9
    refine ⟨m', hm, k + 1, σ9, H9, I9.unpinned, T.keep _ _ _ st7 fun b hb o e => (I9.pin (b, o) (Zan _ (Zan _ (Ze1 hb e)))).1, fun b hb => ?_, w9⟩
    obtain ⟨o, e, d⟩ := T.obj _ _ st7 b hb
    exact (I9.pin (b, o) (Zan _ (Zan _ (Ze1 hb e)))).2.1
   refine wpAny_mono (htt _ _ _ _ _ _ s8 _ H7 _ I8 (step v H7 y7)) (fun ok s9 h9 => ?_) fun _ _ z => False.elim z
   obtain ⟨H9, I9, q9⟩ := h9
   cases ok with
   | false =>
    rw [if_neg ZcY]
    rw [if_neg ZcY] at q9
    exact back I9 q9
   | true =>
    rw [if_pos rfl]
    rw [if_pos rfl] at q9
    refine wpAny_mono (hte _ _ _ _ _ _ s9 _ H9 _ I9 q9) (fun y s10 h10 => ?_) fun _ _ z => False.elim z
    obtain ⟨v10, H10, I10, r10, xs, hx10, hz, q10⟩ := h10
    refine wpAny_mono (Zee (X := blk X N scope cl s3.heap.objs.size s3 (upd H2 s2.heap.objs.size (.lst [])) fp pins) _ s10 _ H10 (.ref s2.heap.objs.size) [v10] _ [y] (fun _ H11 => H11 = upd H10 s2.heap.objs.size (.lst (xs ++ [v10]))) I10 rfl (.cons r10 .nil) ⟨_, xs, v10, rfl, rfl, hx10, hz, rfl⟩) (fun _ s11 h11 => ?_) fun _ _ z => False.elim z
    obtain ⟨_, H11, I11, _, e11⟩ := h11
    subst e11
    exact back I11 q10
 exact codeAny_compStart_list (loop _ rfl) (T.self _ 0 _ _ _ st4 (loop _ rfl))
end L2.Internal
namespace L2.Internal
open PySem PySem.Spec PyProof.Rows
section
variable {prog : Program} {w : World} {A : Around} {E : Value -> Shared -> Prop} {s : Shared}
end
section
variable {prog : Program} {w : World} {A : Around} {E : Value -> Shared -> Prop} {s : Shared}
end
section
variable {X : Cx}
end
end L2.Internal
namespace L2.Internal
open PySem PySem.Spec PyProof.Rows
section
variable {prog : Program} {w : World} {A : Around} {E : Value -> Shared -> Prop} {s : Shared}
end
section
variable {X : Cx} {pins : List (Addr × Obj)} {σ : St} {H : Hp} {d it t : Addr} {vs : List V} {A : Around} {R : Result -> Shared -> Prop}
end
section
variable {X : Cx}
end
end L2.Internal
namespace BO.Internal
open PySem L2.Internal
def rIsi (K : PySem.W.Frag) : List V -> Hp -> VK -> Prop := fun xs H Q => ∃ x v c t b, xs = [x, v] /\ (∀ u, ZeB v u -> u = c) /\ ZjB K H x t /\ Zcs K t c = some b /\ Q (.bl b) H
theorem sz {n : Nat} (h : n <= 100000) : n <= sizeLine := ZbS h (by decide)
theorem Zdr {H : Hp} {p : Addr} (h : H p = none) (o : HO) : ZdH H (upd H p o) := fun b u q => by rw [Zdt (Zdv q h)]; exact q
theorem Zi5 {α : Type} (l : List α) (i : Int) (h0 : 0 <= i) (h1 : i < (l.length : Int)) : ∃ c, atI l i = some c /\ c ∈ l := by
 have e : i = ((i.toNat : Nat) : Int) := by omega
 have hi : i.toNat < l.length := by omega
 refine ⟨l[i.toNat], ?_, Za4 hi⟩
 have z : atI l ((i.toNat : Nat) : Int) = some l[i.toNat] := Zdw (Za0 hi)
 rw [<- e] at z
 exact z
noncomputable def flN : V -> Bool
 | .non => true
 | .int _ => true
 | .str _ => true
 | _ => false
mutual
inductive Im (H : Hp) : V -> Dt -> Prop where
 | flat {v : V} (h : flN v = true) : Im H v (.flat v)
 | tup {a : Addr} {xs : List V} {ds : List Dt} (h : H a = some (.tup xs)) (hs : Ims H xs ds) : Im H (.ref a) (.tup ds)
inductive Ims (H : Hp) : List V -> List Dt -> Prop where
 | nil : Ims H [] []
 | cons {x : V} {d : Dt} {xs : List V} {ds : List Dt} (h : Im H x d) (hs : Ims H xs ds) : Ims H (x :: xs) (d :: ds)
end
mutual
inductive Dta (H : Hp) : V -> Dt -> Prop where
 | flat {v : V} (h : flN v = true) : Dta H v (.flat v)
 | tup {a : Addr} {xs : List V} {ds : List Dt} (h : H a = some (.tup xs)) (hs : Zga H xs ds) : Dta H (.ref a) (.tup ds)
 | lst {a : Addr} {xs : List V} {ds : List Dt} (h : H a = some (.lst xs)) (hs : Zga H xs ds) : Dta H (.ref a) (.lst ds)
inductive Zga (H : Hp) : List V -> List Dt -> Prop where
 | nil : Zga H [] []
 | cons {x : V} {d : Dt} {xs : List V} {ds : List Dt} (h : Dta H x d) (hs : Zga H xs ds) : Zga H (x :: xs) (d :: ds)
end
def TK (H H' : Hp) : Prop := ∀ a xs, H a = some (.tup xs) -> H' a = some (.tup xs)
theorem ZdH.tk {H H' : Hp} (s : ZdH H H') : TK H H' := fun a xs e => s a _ e
mutual
theorem Im.mono {H H' : Hp} (k : TK H H') : ∀ {v : V} {d : Dt}, Im H v d -> Im H' v d
 | _, _, .flat h => .flat h
 | _, _, .tup h hs => .tup (k _ _ h) (Ims.mono k hs)
theorem Ims.mono {H H' : Hp} (k : TK H H') : ∀ {v : List V} {d : List Dt}, Ims H v d -> Ims H' v d
 | _, _, .nil => .nil
 | _, _, .cons h hs => .cons (Im.mono k h) (Ims.mono k hs)
end
mutual
theorem Im.da {H : Hp} : ∀ {v : V} {d : Dt}, Im H v d -> Dta H v d
 | _, _, .flat h => .flat h
 | _, _, .tup h hs => .tup h (Ims.das hs)
theorem Ims.das {H : Hp} : ∀ {v : List V} {d : List Dt}, Ims H v d -> Zga H v d
 | _, _, .nil => .nil
 | _, _, .cons h hs => .cons (Im.da h) (Ims.das hs)
end
mutual
theorem Dta.same {H H' : Hp} (k : ZdH H H') : ∀ {v : V} {d : Dt}, Dta H v d -> Dta H' v d
 | _, _, .flat h => .flat h
 | _, _, .tup h hs => .tup (k _ _ h) (Zga.same k hs)
 | _, _, .lst h hs => .lst (k _ _ h) (Zga.same k hs)
theorem Zga.same {H H' : Hp} (k : ZdH H H') : ∀ {v : List V} {d : List Dt}, Zga H v d -> Zga H' v d
 | _, _, .nil => .nil
 | _, _, .cons h hs => .cons (Dta.same k h) (Zga.same k hs)
end
theorem Ims.length {H : Hp} : ∀ {xs : List V} {ds : List Dt}, Ims H xs ds -> xs.length = ds.length
 | _, _, .nil => rfl
 | _, _, .cons _ t => by rw [Zao, Zao, Ims.length t]
theorem Ims.app {H : Hp} : ∀ {xs ys : List V} {ds es : List Dt}, Ims H xs ds -> Ims H ys es -> Ims H (xs ++ ys) (ds ++ es)
 | _, _, _, _, .nil, h => h
 | _, _, _, _, .cons a b, h => .cons a (Ims.app b h)
inductive ZmW {α β : Type} (F : α -> β -> Prop) : List α -> List β -> Prop
 | nil : ZmW F [] []
 | cons {a : α} {b : β} {l : List α} {m : List β} : F a b -> ZmW F l m -> ZmW F (a :: l) (b :: m)
theorem ZmW.imp {α β : Type} {F G : α -> β -> Prop} (f : ∀ a b, F a b -> G a b) : ∀ {l : List α} {m : List β}, ZmW F l m -> ZmW G l m
 | _, _, .nil => .nil
 | _, _, .cons h t => .cons (f _ _ h) (ZmW.imp f t)
mutual
noncomputable def okD : Dt -> Prop
 | .flat _ => True
 | .tup l => l.length <= 100000 /\ Zrb l
 | .lst l => l.length <= 100000 /\ Zrb l
noncomputable def Zrb : List Dt -> Prop
 | [] => True
 | x :: xs => okD x /\ Zrb xs
end
theorem Zhv {α : Type} {f : α -> Dt} {n : Nat} : ∀ {l : List α}, (∀ x ∈ l, ZhV (f x) <= n) -> ZeK (l.map f) <= n
 | [], _ => ZbW _
 | x :: xs, h => Nat.max_le.mpr ⟨h x (by simp), Zhv fun y hy => h y (by simp [hy])⟩
noncomputable def prL (p : Str × Int) : Dt := .tup [.flat (.str p.1), .flat (.int p.2)]
noncomputable def prD (l : List (Str × Int)) : Dt := .tup (l.map prL)
inductive Us where
 | num (a p s : Int)
 | call (a p s x y : Int)
 | take (a p s : Int) (l : List (Str × Int))
 | case (a p s : Int) (l : List (Str × Int))
 | row (a p s x : Int)
noncomputable def hdD (n : Str) (a p s : Int) : List Dt := [.flat (.str n), .flat (.int a), .flat (.int p), .flat (.int s)]
noncomputable def Us.d : Us -> Dt
 | .num a p s => .tup (hdD "num" a p s)
 | .call a p s x y => .tup (hdD "call" a p s ++ [.flat (.int x), .flat (.int y)])
 | .take a p s l => .tup (hdD "take" a p s ++ [prD l])
 | .case a p s l => .tup (hdD "case" a p s ++ [prD l])
 | .row a p s x => .tup (hdD "row" a p s ++ [.flat (.int x)])
structure Mkg where
 s : Str
 f : Dt
 a : Int
 p : Int
noncomputable def Mkg.d (m : Mkg) : Dt := .tup [.flat (.str m.s), m.f, .flat (.int m.a), .flat (.int m.p)]
noncomputable def fU (a p s : V) : List (Str × V) := [("at", a), ("place", p), ("slot", s)]
noncomputable def fU1 (n : Str) (a p s x : V) : List (Str × V) := [("at", a), ("place", p), ("slot", s), (n, x)]
noncomputable def fU2 (a p s x y : V) : List (Str × V) := [("at", a), ("place", p), ("slot", s), ("arg", x), ("out", y)]
noncomputable def fM (s f a p : V) : List (Str × V) := [("shape", s), ("parts", f), ("at", a), ("place", p)]
noncomputable def fB (p0 p1 p2 p3 : Addr) (r : V) : List (Str × V) := [("points", .ref p0), ("makes", .ref p1), ("uses", .ref p2), ("flows", .ref p3), ("root", r)]
structure Cs where
 M : Addr
 N : Addr
 C : Addr
 T : Addr
 K : Addr
 R : Addr
 B : Addr
noncomputable def ZpR (c : Cs) (H : Hp) (v : V) : Us -> Prop
 | .num a p s => ∃ x dx, v = .ref x /\ H x = some (.ins c.N dx (fU (.int a) (.int p) (.int s)))
 | .call a p s y z => ∃ x dx, v = .ref x /\ H x = some (.ins c.C dx (fU2 (.int a) (.int p) (.int s) (.int y) (.int z)))
 | .take a p s l => ∃ x dx f, v = .ref x /\ H x = some (.ins c.T dx (fU1 "fields" (.int a) (.int p) (.int s) f)) /\ Im H f (prD l) /\ l.length <= 10
 | .case a p s l => ∃ x dx f, v = .ref x /\ H x = some (.ins c.K dx (fU1 "arms" (.int a) (.int p) (.int s) f)) /\ Im H f (prD l) /\ l.length <= 10
 | .row a p s y => ∃ x dx, v = .ref x /\ H x = some (.ins c.R dx (fU1 "out" (.int a) (.int p) (.int s) (.int y)))
def ZpS (c : Cs) (H : Hp) (v : V) (m : Mkg) : Prop := ∃ x dx f, v = .ref x /\ H x = some (.ins c.M dx (fM (.str m.s) f (.int m.a) (.int m.p))) /\ Im H f m.f /\ ZhV m.f <= 2 /\ okD m.f
noncomputable def Fz : HO -> Prop
 | .tup _ => True
 | .ins _ _ fs => fs.length ≠ 5 \/ ∃ v r, fs = (("at" : Str), v) :: r
 | _ => False
def FK (H H' : Hp) : Prop := ∀ a o, H a = some o -> Fz o -> H' a = some o
theorem FK.tk {H H' : Hp} (k : FK H H') : TK H H' := fun a xs e => k a _ e trivial
theorem FK.trans {H H1 H2 : Hp} (a : FK H H1) (b : FK H1 H2) : FK H H2 := fun c o e f => b c o (a c o e f) f
theorem ZpR.mono {c : Cs} {H H' : Hp} {v : V} (k : FK H H') : ∀ {u : Us}, ZpR c H v u -> ZpR c H' v u
 | .num _ _ _, ⟨x, dx, e, h⟩ => ⟨x, dx, e, k _ _ h (.inr ⟨_, _, rfl⟩)⟩
 | .call _ _ _ _ _, ⟨x, dx, e, h⟩ => ⟨x, dx, e, k _ _ h (.inr ⟨_, _, rfl⟩)⟩
 | .take _ _ _ _, ⟨x, dx, f, e, h, i, n⟩ => ⟨x, dx, f, e, k _ _ h (.inr ⟨_, _, rfl⟩), i.mono k.tk, n⟩
 | .case _ _ _ _, ⟨x, dx, f, e, h, i, n⟩ => ⟨x, dx, f, e, k _ _ h (.inr ⟨_, _, rfl⟩), i.mono k.tk, n⟩
 | .row _ _ _ _, ⟨x, dx, e, h⟩ => ⟨x, dx, e, k _ _ h (.inr ⟨_, _, rfl⟩)⟩
theorem ZpS.mono {c : Cs} {H H' : Hp} {v : V} {m : Mkg} (k : FK H H') : ZpS c H v m -> ZpS c H' v m
 | ⟨x, dx, f, e, h, i, d⟩ => ⟨x, dx, f, e, k _ _ h (.inl (by show 4 ≠ 5; decide)), i.mono k.tk, d⟩
theorem ZgF {J : It} {i : Nat} {te : TE} {Q : VK} {τ : St} {H1 : Hp} {D : Addr} (n : Nat) (hn : n < sizeLine) (R : List V -> Hp -> Prop) (hR : ∀ xs H H', R xs H -> TK H H' -> R xs H') (hD : H1 D = none) (hτ : τ.set i none = τ)
  (hgo : ∀ k H, ZdH H1 H -> k < n -> J.go k H) (hst : ∀ H, ZdH H1 H -> J.stop n H) (h0 : R [] H1)
  (step : ∀ k H v H3 xs (Z : VK), ZdH H1 H -> k < n -> J.yld k H v H3 -> R xs H -> xs.length = k -> (∀ y H5, ZdH H H5 -> R (xs ++ [y]) H5 -> Z y H5) -> te (τ.set i (some v)) H3 Z)
  (hq : ∀ H' xs, ZdH H1 H' -> R xs H' -> xs.length = n -> H' D = some (.lst xs) -> Q (.ref D) H') : LcP J i Zht te Q τ H1 D := by
 have nd : ∀ (H5 : Hp) (xs ys : List V), H5 D = some (.lst xs) -> TK H5 (upd H5 D (.lst ys)) := fun H5 xs ys e a zs q => by rw [Zdt (ZgC q e (fun z => nomatch z))]; exact q
 have up : ∀ {H : Hp} (o : HO), ZdH H1 H -> ZdH H1 (upd H D o) := fun {H} o S b u e => by rw [Zdt (Zdv e hD)]; exact S b u e
 refine ⟨fun k m σ' H2 => m = n - k /\ k <= n /\ (∃ o, σ' = τ.set i o) /\ ZdH H1 H2 /\ ∃ xs, H2 D = some (.lst xs) /\ xs.length = k /\ R xs H2, ⟨n, by simp, ZbW _, ⟨none, hτ.symm⟩, Zdr hD _, [], Zdp, rfl, hR _ _ _ h0 (ZdH.tk (Zdr hD _))⟩, ?_⟩
 rintro k m σ' H2 ⟨rfl, hk, ⟨o, rfl⟩, S, xs, e, hl, hr⟩
 by_cases hlt : k < n
 ·refine .inr ⟨hgo k H2 S hlt, fun v H3 y => ?_⟩
  rw [Za5]
  refine step k H2 v H3 xs _ S hlt y hr hl fun y H5 S5 r5 => ?_
  refine ⟨xs, S5 D _ e, by omega, n - (k + 1), by omega, rfl, hlt, ⟨some v, rfl⟩, up _ (S.trans S5), xs ++ [y], Zdp, by rw [ZaB, hl]; rfl, hR _ _ _ r5 (nd H5 _ _ (S5 D _ e))⟩
 ·have e1 : k = n := by omega
  subst e1
  exact .inl ⟨hst H2 S, hq H2 xs S hr hl e⟩
theorem Zg4 {lo : Int} {n k : Nat} {H : Hp} (h : k < n) : (Itr lo n).go k H := h
theorem Zi6 {K : PySem.W.Frag} {a : Addr} {xs : List V} {k : Nat} {H1 H : Hp} (e : H1 a = some (.lst xs)) (S : ZdH H1 H) (h : k < xs.length) : (Itl K a).go k H := ⟨xs, xs[k], SqL.of (S a _ e), Za0 h⟩
theorem Zi7 {K : PySem.W.Frag} {a : Addr} {xs : List V} {H1 H : Hp} (e : H1 a = some (.lst xs)) (S : ZdH H1 H) : (Itl K a).stop xs.length H := ⟨xs, SqL.of (S a _ e), ZbV _⟩
theorem ZpT {K : PySem.W.Frag} {a : Addr} {xs : List V} {k : Nat} {H1 H : Hp} (e : H1 a = some (.tup xs)) (S : ZdH H1 H) (h : k < xs.length) : (Itt K a).go k H := ⟨xs, xs[k], SqT.of (S a _ e), Za0 h⟩
theorem ZpU {K : PySem.W.Frag} {a : Addr} {xs : List V} {H1 H : Hp} (e : H1 a = some (.tup xs)) (S : ZdH H1 H) : (Itt K a).stop xs.length H := ⟨xs, SqT.of (S a _ e), ZbV _⟩
inductive Ls (H : Hp) : List Addr -> List (List V) -> Prop
 | nil : Ls H [] []
 | cons {a : Addr} {c : List V} {l : List Addr} {m : List (List V)} : H a = some (.lst c) -> Ls H l m -> Ls H (a :: l) (c :: m)
theorem Ls.frame {H H' : Hp} {M : List Addr} (k : ∀ a o, H a = some o -> a ∉ M -> H' a = some o) : ∀ {l : List Addr} {m : List (List V)}, Ls H l m -> (∀ a ∈ l, a ∉ M) -> Ls H' l m
 | _, _, .nil, _ => .nil
 | _, _, .cons (a := a) h t, n => .cons (k _ _ h (n a (by simp))) (Ls.frame k t fun b hb => n b (by simp [hb]))
structure Sd where
 b : Addr
 dx : Addr
 p0 : Addr
 p1 : Addr
 p2 : Addr
 p3 : Addr
 d : Addr
 q0 : Addr
 q1 : Addr
 q2 : Addr
 q3 : Addr
noncomputable def Sd.ls (S : Sd) : List Addr := [S.p0, S.p1, S.p2, S.p3, S.d, S.q0, S.q1, S.q2, S.q3]
structure Bd where
 pts : List Int
 mks : List Mkg
 uss : List Us
 fls : List (Int × Int)
 root : Int
noncomputable def flD (p : Int × Int) : Dt := .tup [.flat (.int p.1), .flat (.int p.2)]
structure BSx (c : Cs) (H : Hp) (S : Sd) (E D : Bd) : Prop where
 nd : S.ls.Nodup
 ob : H S.b = some (.ins c.B S.dx (fB S.p0 S.p1 S.p2 S.p3 (.int D.root)))
 st : ∃ mv uv fv mv' uv' fv' : List V, Ls H S.ls [D.pts.map V.int, mv, uv, fv, [.ref S.q0, .ref S.q1, .ref S.q2, .ref S.q3, .int E.root], E.pts.map V.int, mv', uv', fv'] /\
  ZmW (ZpS c H) mv D.mks /\ ZmW (ZpR c H) uv D.uss /\ Ims H fv (D.fls.map flD) /\ Ims H mv' (E.mks.map Mkg.d) /\ Ims H uv' (E.uss.map Us.d) /\ Ims H fv' (E.fls.map flD)
theorem ZpV {H : Hp} {a : Addr} {xs : List V} {o : HO} (h : H a = some (.lst xs)) : FK H (upd H a o) := fun b u e f => by
 rw [Zdt (ZgC e h (fun z => by rw [z] at f; exact f))]
 exact e
section
variable {c : Cs} {H H' : Hp} {S : Sd} {E D : Bd}
theorem BSx.frame {M : List Addr} (B : BSx c H S E D) (k : ∀ a o, H a = some o -> a ∉ M -> H' a = some o) (hb : S.b ∉ M) (hl : ∀ a ∈ S.ls, a ∉ M) (fk : FK H H') : BSx c H' S E D := by
 obtain ⟨nd, ob, mv, uv, fv, mv', uv', fv', L, h1, h2, h3, h4, h5, h6⟩ := B
 exact ⟨nd, k _ _ ob hb, mv, uv, fv, mv', uv', fv', L.frame k hl, h1.imp fun _ _ => ZpS.mono fk, h2.imp fun _ _ => ZpR.mono fk, h3.mono fk.tk, h4.mono fk.tk, h5.mono fk.tk, h6.mono fk.tk⟩
end
theorem BSx.hl {c : Cs} {H : Hp} {S : Sd} {E D : Bd} {l : Addr} {xs : List V} {o : HO} (B : BSx c H S E D) (hn : l ∉ S.ls) (e : H l = some (.lst xs)) : BSx c (upd H l o) S E D := by
 refine B.frame (M := [l]) (fun a u q n => ?_) (fun z => ?_) (fun a ha z => ?_) (ZpV e)
 ·rw [Zdt (fun z => n (by simp [z]))]; exact q
 ·have z' : S.b = l := by simpa using z
  have q := B.ob
  rw [z', e] at q
  cases q
 ·have z' : a = l := by simpa using z
  rw [z'] at ha
  exact hn ha
def Frm (M : List Addr) (H H' : Hp) : Prop := ∀ a o, H a = some o -> a ∉ M -> H' a = some o
theorem Frm.trans {M : List Addr} {H H1 H2 : Hp} (a : Frm M H H1) (b : Frm M H1 H2) : Frm M H H2 := fun c o e n => b c o (a c o e n) n
end BO.Internal
namespace BO.Internal
open PySem L2.Internal
inductive Mf where
 | num
 | fn (x y : Int)
 | rcd (l : List (Str × Int))
 | tag (w : Str) (x : Int)
 | row (x : Int)
 | any
noncomputable def Mf.s : Mf -> Str
 | .num => "num"
 | .fn _ _ => "fn"
 | .rcd _ => "rec"
 | .tag _ _ => "tag"
 | .row _ => "row"
 | .any => "any"
noncomputable def Mf.f : Mf -> Dt
 | .num => .tup []
 | .fn x y => .tup [.flat (.int x), .flat (.int y)]
 | .rcd l => prD l
 | .tag w x => .tup [.flat (.str w), .flat (.int x)]
 | .row x => .tup [.flat (.int x)]
 | .any => .tup []
end BO.Internal
namespace L2.Internal
open PySem PySem.Spec PyProof.Rows
section
variable {X : Cx} {e a b o f : Expr} {st : Stmt} {ta tb td ty tx to : TE} {pos apos cpos : Pos}
theorem PE.weak {t t' : TE} (h : PE X e t) (m : ∀ σ H Q, t' σ H Q -> t σ H Q) : PE X e t' := fun pins s σ H Q I q => h pins s σ H Q I (m σ H Q q)
theorem PT.weak {t t' : TT} (h : PT X e t) (m : ∀ σ H Q, t' σ H Q -> t σ H Q) : PT X e t' := fun pins s σ H Q I q => h pins s σ H Q I (m σ H Q q)
theorem PS.weak {t t' : TS} (h : PS X st t) (m : ∀ D σ H, t' D σ H -> t D σ H) : PS X st t' := fun pins s σ H D I q => h pins s σ H D I (m D σ H q)
theorem OpR.weak {g : Value -> Value -> Sem Value} {r r' : R2} (h : OpR X g r) (m : ∀ x y H Q, r' x y H Q -> r x y H Q) : OpR X g r' := fun pins s σ H x y v u Q I rx ry q => h pins s σ H x y v u Q I rx ry (m x y H Q q)
theorem IxR.weak {r r' : R2} (h : IxR X r) (m : ∀ x y H Q, r' x y H Q -> r x y H Q) : IxR X r' := fun value slice pins s σ H x y v u Q I rx ry q hs => h value slice pins s σ H x y v u Q I rx ry (m x y H Q q) hs
def mT (t : TE) : TE := fun σ H Q => ∃ Q0 : VK, t σ H Q0 /\ ∀ x H1, Q0 x H1 -> Q x H1
theorem PE.mono {t : TE} (h : PE X e t) : PE X e (mT t) := fun pins s σ H Q I ⟨Q0, h0, m⟩ => thn (h pins s σ H Q0 I h0) fun v s1 ⟨x, H1, I1, r1, q1⟩ => ⟨x, H1, I1, r1, m x H1 q1⟩
def mR (r : R2) : R2 := fun x y H Q => ∃ Q0 : VK, r x y H Q0 /\ ∀ x H1, Q0 x H1 -> Q x H1
theorem OpR.mono {g : Value -> Value -> Sem Value} {r : R2} (h : OpR X g r) : OpR X g (mR r) := fun pins s σ H x y v u Q I rx ry ⟨Q0, h0, m⟩ => thn (h pins s σ H x y v u Q0 I rx ry h0) fun v s1 ⟨x, H1, I1, r1, q1⟩ => ⟨x, H1, I1, r1, m x H1 q1⟩
noncomputable def onV : Option (Option V) -> (V -> Prop) -> Prop
 | some (some v), k => k v
 | _, _ => False
noncomputable def onS {α : Type} : Option α -> (α -> Prop) -> Prop
 | some v, k => k v
 | none, _ => False
theorem Zdx {α : Type} {x : Option α} {v : α} {k : α -> Prop} (h : x = some v) (q : k v) : onS x k := by rw [h]; exact q
theorem ZlM {α : Type} {x : Option α} {k : α -> Prop} (h : onS x k) : ∃ v, x = some v /\ k v := by
 cases x with
 | none => exact h.elim
 | some v => exact ⟨v, rfl, h⟩
def cV (i : Nat) : TE := fun σ H Q => onV σ[i]? fun v => Q v H
theorem cv (i : Nat) {x : Str} {pos : Pos} (hN : autoParam (X.N[i]? = some x) L2.Internal.auR._auto_1) (hv : Vis X.env.scope x := by first | exact Or.inl rfl | exact Or.inr (.inl rfl) | exact Or.inr (.inr rfl)) (hd : autoParam ((x == ("__debug__" : Str)) = false) L2.Internal.auD._auto_1)
  (hcd : autoParam ((x == ("__classdict__" : Str)) = false) L2.Internal.auD._auto_1) : PE X (.Name x pos) (cV i) := (pv i hN hv hd hcd).weak fun σ H Q h => by
 unfold cV at h
 cases q : σ[i]? with
 | none => rw [q] at h; exact h.elim
 | some o =>
  rw [q] at h
  cases o with
  | none => exact h.elim
  | some v => exact ⟨v, q, h⟩
def cI0 (g : Int -> Int -> V) : R2 := fun x y H Q => match x, y with
 | .int i, .int j => Q (g i j) H
 | _, _ => False
def cI (C : Int -> Int -> Prop) (g : Int -> Int -> V) : R2 := fun x y H Q => match x, y with
 | .int i, .int j => C i j /\ Q (g i j) H
 | _, _ => False
theorem Zi8 {g : Int -> Int -> V} : ∀ x y H Q, cI0 g x y H Q -> rI0 g x y H Q := fun x y H Q h => by
 unfold cI0 at h
 split at h
 ·exact ⟨_, _, rfl, rfl, h⟩
 ·exact h.elim
theorem ZmX {C : Int -> Int -> Prop} {g : Int -> Int -> V} : ∀ x y H Q, cI C g x y H Q -> rI C g x y H Q := fun x y H Q h => by
 unfold cI at h
 split at h
 ·exact ⟨_, _, rfl, rfl, h.1, h.2⟩
 ·exact h.elim
theorem Zez : OpR X (binaryOp .Add) (cI0 fun i j => .int (i + j)) := Zpt.weak Zi8
theorem ZfR : OpR X (binaryOp .Sub) (cI0 fun i j => .int (i - j)) := Zpu.weak Zi8
theorem Zgl : OpR X (binaryOp .Mult) (cI Zps fun i j => .int (i * j)) := Zpv.weak ZmX
theorem ZeC : OpR X (binaryOp .FloorDiv) (cI ZqJ fun i j => .int (i / j)) := Zn8.weak ZmX
theorem Zd8 : OpR X (binaryOp .Mod) (cI (fun _ j => 0 < j) fun i j => .int (i % j)) := Zpw.weak ZmX
theorem Zh9 : OpR X (binaryOp .Pow) (cI ZrA fun i j => .int (i ^ j.toNat)) := Zpx.weak ZmX
theorem Zhw : OpR X (compareOp .Lt) (cI0 fun i j => .bl (decide (i < j))) := ZqV.weak Zi8
theorem Zhx : OpR X (compareOp .Gt) (cI0 fun i j => .bl (decide (j < i))) := ZqW.weak Zi8
theorem Zrc : OpR X (compareOp .GtE) (cI0 fun i j => .bl (decide (j <= i))) := ZqX.weak Zi8
def cEq (n : Bool) : R2 := fun x y H Q => match x, y with
 | .int i, .int j => Q (.bl (xor n (decide (i = j)))) H
 | .str i, .str j => Q (.bl (xor n (decide (i = j)))) H
 | _, _ => False
theorem ZrE {i j : Str} : decide (V.str i = V.str j) = decide (i = j) := by
 rw [ZcZ]
 simp
theorem ZrF {i j : Int} : decide (V.int i = V.int j) = decide (i = j) := by
 rw [ZcZ]
 simp
theorem ZeH : OpR X (compareOp .Eq) (cEq false) := ZqU.weak fun x y H Q h => by
 unfold cEq at h
 split at h
 ·refine ⟨rfl, ?_⟩; rw [ZrF]; rw [Zc4] at h; exact h
 ·refine ⟨rfl, ?_⟩; rw [ZrE]; rw [Zc4] at h; exact h
 ·exact h.elim
theorem ZkN : OpR X (compareOp .NotEq) (cEq true) := Zjz.weak fun x y H Q h => by
 unfold cEq at h
 split at h
 ·refine ⟨rfl, ?_⟩; rw [ZrF]; rw [Bool.true_xor] at h; exact h
 ·refine ⟨rfl, ?_⟩; rw [ZrE]; rw [Bool.true_xor] at h; exact h
 ·exact h.elim
noncomputable def onB : V -> (Bool -> Prop) -> Prop
 | .bl k, q => q k
 | _, _ => False
theorem ZpW {x : V} {k : Bool -> Prop} (h : onB x k) : ∃ c, x = .bl c /\ k c := by
 cases x <;> first | exact ⟨_, rfl, h⟩ | exact h.elim
def cT (t : TE) : TT := fun σ H Q => t σ H fun x H' => onB x fun k => Q k H'
theorem ZdA {op : CmpOp} {r : R2} (ho : OpR X (compareOp op) r) (ha : PE X a ta) (hb : PE X b tb) (hm : behindInMarks op b = false) : PT X (.Compare a [op] [b] pos) (cT (tOp r ta tb)) :=
 (Zn9 ho.mono ha.mono hb.mono hm).weak fun σ H Q h => ⟨_, h, fun x H1 h1 => ⟨_, h1, fun y H2 h2 => ⟨_, h2, fun z H' h3 => ZpW h3⟩⟩⟩
def Zrd : R2 := fun x y H Q => match x, y with
 | .ref p, .int i => ∃ xs, H p = some (.lst xs) /\ onS (atI xs i) fun v => Q v H
 | _, _ => False
def ZpX : R2 := fun x y H Q => match x, y with
 | .ref p, .int i => ∃ xs, H p = some (.tup xs) /\ onS (atI xs i) fun v => Q v H
 | _, _ => False
def ZrG : R2 := fun x y H Q => match x, y with
 | .str z, .int i => z.length <= sizeLine /\ onS (atI z.cps.toList i) fun c => Q (.str ⟨#[c]⟩) H
 | _, _ => False
theorem ZdD : IxR X Zrd := Zok.weak fun x y H Q h => by
 unfold Zrd at h
 split at h
 ·obtain ⟨xs, e, h⟩ := h
  obtain ⟨v, ev, h⟩ := ZlM h
  exact ⟨_, xs, _, v, rfl, rfl, SqL.of e, ev, h⟩
 ·exact h.elim
theorem ZdT : IxR X ZpX := ZpI.weak fun x y H Q h => by
 unfold ZpX at h
 split at h
 ·obtain ⟨xs, e, h⟩ := h
  obtain ⟨v, ev, h⟩ := ZlM h
  exact ⟨_, xs, _, v, rfl, rfl, SqT.of e, ev, h⟩
 ·exact h.elim
theorem ZgG : IxR X ZrG := ZpJ.weak fun x y H Q h => by
 unfold ZrG at h
 split at h
 ·obtain ⟨e, h⟩ := h
  obtain ⟨v, ev, h⟩ := ZlM h
  exact ⟨_, _, v, rfl, rfl, e, ev, h⟩
 ·exact h.elim
def Fd (H : Hp) (a C : Addr) (f : Str) (v : V) : Prop := ∃ dx fs, H a = some (.ins C dx fs) /\ fs.lookup f = some v
def cFld (C : Addr) (f : Str) (ta : TE) : TE := fun σ H Q => ta σ H fun x H1 => match x with
 | .ref a => ∃ v, Fd H1 a C f v /\ Q v H1
 | _ => False
theorem Zev {C : Addr} {f : Str} (c : Cls X.K C) (n : ZfV X.K C f) (he : PE X e ta) (hb : autoParam (attributeBase e f X.env (eval e X.env) = eval e X.env) L2.Internal.auR._auto_1) : PE X (.Attribute e f pos) (cFld C f ta) :=
 (Zpy he.mono hb).weak fun σ H Q h => ⟨_, h, fun x H1 h1 => by
  cases x with
  | ref a =>
   obtain ⟨v, ⟨dx, fs, ea, ev⟩, q⟩ := h1
   exact ⟨a, C, dx, fs, v, rfl, ea, c, n, ev, q⟩
  | _ => exact h1.elim⟩
def Zre (C : Addr) (f : Str) (ta tv : TE) : TS := fun D σ H => tv σ H fun y H1 => ta σ H1 fun x H2 => match x with
 | .ref a => ∃ dx fs, H2 a = some (.ins C dx fs) /\ fs.length < 1000 /\ D.nx σ (upd H2 a (.ins C dx (Zhe f y fs)))
 | _ => False
theorem ZjM {C : Addr} {f : Str} {tv : TE} (c : Cls X.K C) (n : ZfV X.K C f) (h : PS X st (ZrC X.K (mT ta) (mT tv) f)) : PS X st (Zre C f ta tv) := h.weak fun D σ H h => ⟨_, h, fun y H1 h1 => ⟨_, h1, fun x H2 h2 => by
  cases x with
  | ref a =>
   obtain ⟨dx, fs, ea, l, q⟩ := h2
   exact ⟨a, C, dx, fs, rfl, ea, c, n, l, q⟩
  | _ => exact h2.elim⟩⟩
def cS : R2 := fun x y H Q => match x, y with
 | .str i, .str j => i.length + j.length <= sizeLine /\ Q (.str (i ++ j)) H
 | _, _ => False
theorem ZfY : OpR X (binaryOp .Add) cS := ZkB.weak fun x y H Q h => by
 unfold cS at h
 split at h
 ·exact ⟨_, _, rfl, rfl, h.1, h.2⟩
 ·exact h.elim
def ZrH (to ta : TE) : TE := fun σ H Q => to σ H fun x H1 => match x with
 | .ref l => (∃ xs, H1 l = some (.lst xs)) /\ ta σ H1 fun y H2 => ∃ xs, H2 l = some (.lst xs) /\ xs.length < sizeLine /\ Q .non (upd H2 l (.lst (xs ++ [y])))
 | _ => False
theorem Zfc (h : PE X e (tBM X.K "list" ZlA (mT to) (Zln (mT ta) Zpz))) : PE X e (ZrH to ta) := h.weak fun σ H Q h => ⟨_, h, fun x H1 h1 => by
  cases x with
  | ref l =>
   obtain ⟨⟨xs, e⟩, q⟩ := h1
   exact ⟨.inl ⟨rfl, xs, SqL.of e⟩, _, q, fun y H2 ⟨xs, e, hl, q2⟩ => ⟨l, xs, y, rfl, rfl, e, hl, q2⟩⟩
  | _ => exact h1.elim⟩
end
end L2.Internal
namespace BO.Internal
open PySem L2.Internal
noncomputable def wd : Bool -> Str
 | true => "goes"
 | false => "here"
structure Rw where
 w : Bool
 a : Int
 b : Int
 y : Option (Int × Int)
noncomputable def Rw.k (r : Rw) : List Key := [.inr (wd r.w), .inl r.a, .inl r.b]
noncomputable def whyD : Option (Int × Int) -> Dt
 | none => .flat .non
 | some p => flD p
noncomputable def Rw.d (r : Rw) : Dt := .tup [.flat (.str (wd r.w)), .flat (.int r.a), .flat (.int r.b), whyD r.y]
end BO.Internal
namespace BO.Internal
open PySem L2.Internal
open Classical in
noncomputable def putR (R : List Rw) (ρ : Rw) : List Rw := if ρ.k ∈ R.map Rw.k then R else R ++ [ρ]
noncomputable def putsR (R l : List Rw) : List Rw := l.foldl putR R
end BO.Internal
namespace L2.Internal
open PySem PySem.Spec PyProof.Rows
section
variable {X : Cx}
end
end L2.Internal
namespace L2.Internal
open PySem PySem.Spec PyProof.Rows
noncomputable def Itv (K : PySem.W.Frag) (a : Addr) (n : Nat) : It :=
 ⟨fun i H => i < n /\ ∃ xs, SqL K H a xs /\ xs.length = n, fun i H x H' => H' = H /\ ∀ xs, SqL K H a xs -> xs[n - 1 - i]? = some x, fun i _ => i = n⟩
theorem ZmY {P : Program} {w : World} {K : PySem.W.Frag} {tg : Expr} (a it : Addr) (n : Nat) : Znw P w K tg (Itv K a n) [it] it (fun i h => h.IsRevIter it a ((n : Int) - 1 - (i : Int))) where
 mem := by simp
 obj := fun i h st b hb => by
  have e : b = it := by simpa using hb
  subst e
  obtain ⟨o, e, c, d⟩ := st
  exact ⟨o, e, fun v z => by rw [d] at z; cases z⟩
 keep := fun i h h' st k => st.at fun o e => k it (by simp) o e
 item := by
  intro X hP hw hK hc i pins s σ H E I hf st hg
  subst hP hw hK
  obtain ⟨hi, xs, hq, hn⟩ := hg
  obtain ⟨its, rv, p, hz⟩ := I.list hq
  have hlt : n - 1 - i < xs.length := by omega
  obtain ⟨u, hu, ru⟩ := rv.get (Za0 hlt)
  obtain ⟨f0, f1, f2, f3, f4, f5⟩ := hf it (by simp)
  have e : (n : Int) - 1 - (i : Int) = ((n - 1 - i : Nat) : Int) := by omega
  have st' := st
  rw [e] at st'
  refine wpAny_pyNext_rev_item st' p.isList (x := u) (by simpa using hu) fun h' st2 sb => ?_
  have e2 : ((n - 1 - i : Nat) : Int) - 1 = (n : Int) - 1 - ((i + 1 : Nat) : Int) := by omega
  rw [e2] at st2
  have I1 : Inv X pins σ H { s with heap := h' } := I.turned (t' := s.toks) (fun b o hb e => (sb.2 b hb).trans e) f0 f1 f3 f4 f5
  obtain ⟨o, eo, c, d⟩ := id st2
  exact ⟨u, rfl, Zlb (s := { s with heap := h' }) eo c d (by decide) ⟨xs[n - 1 - i], H, I1, ru, ⟨rfl, fun ys hy => by rw [I.list_inj hy hq]; exact Za0 hlt⟩, st2, fun b hb => (hf b hb).1⟩⟩
 done := by
  intro X hP hw hK hc i pins s σ H E I hf st hg
  subst hP hw hK
  have hi : i = n := hg
  subst hi
  obtain ⟨f0, f1, f2, f3, f4, f5⟩ := hf it (by simp)
  have e : (i : Int) - 1 - (i : Int) = -1 := by omega
  have st' := st
  rw [e] at st'
  exact wpAny_pyNext_rev_end (I.ok.hd hc) st' fun h' eb => ⟨rfl, I.turned (t' := s.toks) (fun b o hb e => eb b o hb e) f0 f1 f3 f4 f5⟩
 self := fun _ _ _ _ _ st h => wpAny_pyIter_revIter st h
def iRev (K : PySem.W.Frag) (ta : TA) : TI := fun σ H R => ta σ H fun vs H1 => ∃ a xs, vs = [.ref a] /\ SqL K H1 a xs /\ R (Itv K a xs.length) H1
theorem Zgt : bootBuiltins "reversed" = some (.type "reversed") := by first | rfl | decide +kernel
section
variable {X : Cx}
theorem ZpY {tg : Expr} {a : Expr} {ta : TA} {p pos : Pos} (hg : Gl X "reversed") (hm : X.mg "reversed" = none) (ha : PA X [a] ta) (hs : autoParam (starEach [a] X.env = [(false, eval a X.env)]) L2.Internal.auR._auto_1) :
  PI X tg (.Call (.Name "reversed" p) [a] [] pos) (iRev X.K ta) := by
 intro pins s σ H R I h
 refine Call_ (ZfT I hg hm Zgt (Zdl (thn (ha pos pins s σ H _ I h) fun us s1 ⟨vs, H1, I1, r1, q1⟩ => ?_) hs rfl))
 obtain ⟨l1, xs, e, hq, q⟩ := q1
 subst e
 obtain ⟨u, rfl, ru⟩ := ZgX r1
 cases ru
 obtain ⟨i1s, w1, p1, z1⟩ := I1.list hq
 have hl := w1.length
 refine call_reversed_list p1.isList ?_
 have sz : ((i1s.toArray.size : Nat) : Int) - 1 = (xs.length : Int) - 1 - ((0 : Nat) : Int) := by simp only [ZaI]; omega
 rw [sz]
 have st : (s1.heap.push (revObj l1 ((xs.length : Int) - 1 - ((0 : Nat) : Int)))).IsRevIter s1.heap.objs.size l1 ((xs.length : Int) - 1 - ((0 : Nat) : Int)) := ⟨_, Zdf _ rfl, rfl, rfl⟩
 refine wpAny_pyIter_revIter (s := { s1 with heap := s1.heap.push (revObj l1 ((xs.length : Int) - 1 - ((0 : Nat) : Int))) }) st ?_
 refine ⟨s1.heap.objs.size, [s1.heap.objs.size], _, _, H1, rfl, I1.kept (t' := s1.toks) fun b o e => Zdh _ e, ZmY l1 _ xs.length, st, fun b hb => ?_, q⟩
 have e : b = s1.heap.objs.size := by simpa using hb
 subst e
 exact I1.fpOk (ZbV _) (I1.hok.fresh (ZbV _))
theorem Zi9 {prog : Program} {w : World} {A : Around} {E : Value -> Shared -> Prop} {it t : Addr} {items : Array Value} (hne : t ≠ it) : ∀ (n i : Nat) (s : Shared) (Q : List Value -> Shared -> Prop), s.heap.IsListIter it t i -> s.heap.IsList t items -> i + n <= items.size ->
  (∀ h', h'.IsListIter it t (i + n) -> Heap.SameBut it s.heap h' -> Q ((items.toList.drop i).take n) { s with heap := h' }) -> wpAny (model prog w) A (draw (.ref it) n) Q E s
 | 0, i, s, Q, hit, _, _, hQ => by
  show wpAny _ _ (pure []) Q E s
  exact wpAny_pure (by simpa using hQ s.heap hit (Heap.SameBut.refl ..))
 | n + 1, i, s, Q, hit, ht, hle, hQ => by
  have hlt : i < items.size := by omega
  show wpAny _ _ (pyNext (.ref it) >>= _) Q E s
  refine wpAny_bind (wpAny_pyNext_list_item hit ht (x := items[i]) (by simp [hlt]) fun h₁ hit₁ hs₁ => ?_)
  refine wpAny_bind (wpAny_holding (Zi9 hne n (i + 1) _ _ hit₁ (ht.at fun o e => (hs₁.2 t hne).trans e) (by omega) fun h₂ hit₂ hs₂ => wpAny_pure ?_))
  have hd : items.toList.drop i = items[i] :: items.toList.drop (i + 1) := by simp [Za6, hlt]
  have := hQ h₂ (by rw [show i + (n + 1) = i + 1 + n by omega]; exact hit₂) (hs₁.trans hs₂)
  rw [hd, List.take_succ_cons] at this
  exact this
theorem Zha {prog : Program} {w : World} {A : Around} {E : Value -> Shared -> Prop} {s : Shared} {t : Addr} {items : Array Value} {Q : List Value -> Shared -> Prop} (hh : A.handled = none) (ht : s.heap.IsList t items)
  (hQ : ∀ h', Heap.ExtBut s.heap.objs.size s.heap h' -> Q items.toList { s with heap := h' }) : wpAny (model prog w) A (unpackItems (.ref t) items.size none) Q E s := by
 have hlt : t ≠ s.heap.objs.size := by obtain ⟨o, ho, _⟩ := ht; exact ZbR (Zde ho)
 unfold unpackItems
 refine wpAny_bind ?_
 ·unfold notIterableAtAll
  refine wpAny_bind (wpAny_specialOf ht.typeIs F.slot_list_iter.lookup ?_)
  refine wpAny_pure ?_
  simp only [Zc5, if_false]
  refine wpAny_bind (wpAny_holding (wpAny_pyIter_list ht ?_))
  have htp : (s.heap.push { cls := .type "list_iterator", data := .fields #[.ref t, .int 0 0] }).IsList t items := ht.at fun o e => Zdh _ e
  refine wpAny_bind (wpAny_holding (Zi9 hlt items.size 0 _ _ ⟨_, Zdf _ rfl, rfl, rfl⟩ htp (by omega) fun h₁ hit₁ hs₁ => ?_))
  have hall : List.take items.size (List.drop 0 items.toList) = items.toList := by
   rw [Za7]; exact Za8 (by simp)
  rw [hall]
  rw [if_neg (by simp)]
  have ht₁ : h₁.IsList t items := htp.at fun o e => (hs₁.2 t hlt).trans e
  refine wpAny_bind (wpAny_holding (wpAny_pyNext_list_end hh hit₁ ht₁ (by simp) fun h₂ he₂ => ?_))
  simp only [Option.isSome_none, Zc5, if_false]
  refine wpAny_pure (hQ h₂ fun b o hb e => he₂ b o hb (hs₁.extBut b o hb (Zdh _ e)))
theorem Zg0 {prog : Program} {w : World} {A : Around} {E : Value -> Shared -> Prop} {s : Shared} {env : Env} {elts : List Expr} {x1} {pos : Pos} {t : Addr} {items : Array Value} {Q : Unit -> Shared -> Prop} (hh : A.handled = none) (ht : s.heap.IsList t items)
  (hn : (assignEach elts env).length = items.size) (hstar : (assignEach elts env).findIdx? (·.1) = none)
  (h : ∀ h', Heap.ExtBut s.heap.objs.size s.heap h' -> wpAny (model prog w) A (assignInOrder ((assignEach elts env).map (·.2)) items.toList) Q E { s with heap := h' }) :
  wpAny (model prog w) A (assign (.Tuple elts x1 pos) env (.ref t)) Q E s := by
 rw [assign_Tuple]
 refine wpAny_bind (wpAny_standAt ?_)
 unfold unpack
 rw [hn, hstar]
 exact wpAny_bind (wpAny_holding (Zha hh ht h))
def gLst (K : PySem.W.Frag) (n : Nat) (t : TGs) : TG := fun v σ H Q => ∃ a xs, v = .ref a /\ SqL K H a xs /\ xs.length = n /\ t xs σ H Q
theorem ZnH {es : List Expr} {k : Nat} {t : TGs} {n : Nat} {pos : Pos} (hc : X.calm = true) (h : PGs X es t)
  (hn : autoParam ((assignEach es X.env).length = n) L2.Internal.auR._auto_1) (hst : autoParam ((assignEach es X.env).findIdx? (·.1) = none) L2.Internal.auR._auto_1) : PG X (.Tuple es k pos) (gLst X.K n t) := by
 intro pins s σ H v u Q I r hw
 obtain ⟨a, xs, e1, hq, hl, hw⟩ := hw
 subst e1
 cases r
 obtain ⟨its, rv, ht, hz⟩ := I.list hq
 refine Zg0 (I.ok.hd hc) ht.isList (by simp [hn, <- hl, rv.length]) hst fun h' hx => ?_
 have I1 : Inv X pins σ H { s with heap := h' } := I.kept (t' := s.toks) fun b o e => hx b o (ZbR (Zde e)) e
 exact h pins _ σ H xs _ Q I1 (by simpa using rv) hw
theorem ZkO : Zg8 X (.type "dict") (fun xs H Q => ∃ (d : Addr) (kvs : List (Key × V)), xs = [.ref d] /\ H d = some (.dK kvs) /\ ∀ p, H p = none -> Q (.ref p) (upd H p (.dK kvs))) := by
 intro pins s σ H xs us Q I r h
 obtain ⟨d, kvs, rfl, hd, q⟩ := h
 obtain ⟨u, rfl, ru⟩ := ZgX r
 cases ru
 obtain ⟨z, hS, vs, rel, dd⟩ := ZmO I.hok hd
 refine kt_call_dict hS dd (by rw [<- rel.length]; exact z) fun h' dd' sb => ?_
 have fr : H s.heap.objs.size = none := I.fresh
 refine ⟨.ref s.heap.objs.size, _, ?_, rfl, q _ fr⟩
 refine I.laid (fun b o e => (sb.2 b (ZbR (Zde e))).trans (Zdh _ e)) (ZbV _) (Zlt z ?_ rel dd')
 have hb := I.big
 show (s.heap.objs.size == sysModules) = false
 rw [beq_eq_false_iff_ne]
 exact ZbU hb
theorem ZlN : MtR X "dict.update" (fun x xs H Q => ∃ d o kvs more, x = .ref d /\ xs = [.ref o] /\ d ≠ o /\ H d = some (.dK kvs) /\ H o = some (.dK more) /\ kvs.length + more.length <= sizeLine /\ Q .non (upd H d (.dK (ZgD kvs more)))) := by
 intro pins s σ H x xs v us Q I rx rs h
 obtain ⟨d, o, kvs, more, rfl, rfl, hne, hd, ho, hl, q⟩ := h
 cases rx
 obtain ⟨u, rfl, ru⟩ := ZgX rs
 cases ru
 obtain ⟨z1, s1, vs, rel, dd⟩ := ZmO I.hok hd
 obtain ⟨z2, s2, ws, rel2, dd2⟩ := ZmO I.hok ho
 refine call_meetsIn ZcO dd.typeIs PySem.F.entry_dict_update (PySem.F.args_dict_update_2 _ _) (meets_dict_update (Ze3 X.prog X.w) d o hne s2) ⟨vs, ws, dd, dd2, by rw [<- rel.length, <- rel2.length]; exact hl, fun h' dd' _ sb => ?_⟩
 have he : ∃ q, h'.get? d = some q := let ⟨q, _, _, hq, _⟩ := dd'; ⟨q, hq⟩
 have hl' : (ZgD kvs more).length <= sizeLine := ZbS (ZfL more kvs) hl
 exact ⟨.non, _, ZjC (t' := s.toks) I (by rw [hd]; exact True.intro) sb he (Zlt hl' s1 (rel2.merge rel) dd'), rfl, q⟩
end
end L2.Internal
namespace L2.Internal
open PySem PySem.Spec PyProof.Rows
section
variable {X : Cx}
end
section
variable {X : Cx} {pins : List (Addr × Obj)} {σ : St} {H : Hp} {s : Shared}
end
section
variable {prog : Program} {w : World} {A : Around} {R : Result -> Shared -> Prop} {I : Addr} {fp wr : List Addr} {n : Nat} {P : Nat -> Value -> Prop} {St : Nat -> Heap -> Prop}
end
section
variable {prog : Program} {w : World} {A : Around} {E : Value -> Shared -> Prop} {s : Shared} {l : Addr} {xs : Array (Int × Tok)}
end
section
variable {X : Cx}
end
end L2.Internal
namespace L2.Internal
open PySem PySem.Spec PyProof.Rows
section
variable {X : Cx}
end
end L2.Internal
namespace L2.Internal
open PySem PySem.Spec PyProof.Rows
theorem ZkP : typeLookup (.type "list_reverseiterator") "__len__" = pure none := by rw [typeLookup_type, builtinLookup_eq_fast]; kernel_rfl
theorem ZmZ : typeLookup (.type "list_reverseiterator") "__length_hint__" = pure (some (.builtin "list_reverseiterator.__length_hint__")) := by rw [typeLookup_type, builtinLookup_eq_fast]; kernel_rfl
section
variable {prog : Program} {w : World} {A : Around} {s : Shared}
theorem Zm0 {E : Value -> Shared -> Prop} {it l : Addr} {i : Int} {Q : Bool -> Shared -> Prop} (hit : s.heap.IsRevIter it l i) (h : Q false s) : wpAny (model prog w) A (Builtin.List.listLengthHint (.ref it)) Q E s := by
 unfold Builtin.List.listLengthHint
 refine wpAny_bind (wpAny_specialOf hit.typeIs ZkP ?_)
 show wpAny _ _ (specialOf (Value.ref it) (Str.ofString "__length_hint__") >>= _) _ _ _
 refine wpAny_bind (wpAny_specialOf hit.typeIs ZmZ ?_)
 generalize hid : ("list_reverseiterator.__length_hint__" : String) = idr
 wp_delta
 rw [show splitId idr = some ("list_reverseiterator", "__length_hint__") from by subst hid; decide +kernel]
 subst hid
 refine wpAny_bind (wpAny_isInstance (T := "list_reverseiterator") (b := true) hit.typeIs (by rw [isSubtype_type]; kernel_rfl) ?_)
 refine wpAny_ite_split (fun hz => absurd hz (by decide)) (fun _ => ?_)
 refine wpAny_ite_split (fun _ => ?_) (fun hz => absurd (by decide +kernel) hz)
 exact wpAny_ite_split (fun hz => absurd hz (by decide)) (fun _ => wpAny_pure h)
theorem ZkQ {R : Result -> Shared -> Prop} {it l : Addr} {items : Array Value} (hh : A.handled = none) (hit : s.heap.IsRevIter it l ((items.size : Int) - 1)) (hl : s.heap.IsList l items) (hne : l ≠ it) (hz : items.size <= sizeLine) (D : Addr) (res : Value) (c0 : Nat)
  (hD : s.heap.get? D = some { cls := .type "list", data := .seq #[] c0 }) (hDi : D ≠ it) (hDl : D ≠ l)
  (hR : ∀ h2 tk acc c2, (∀ b o, b ≠ D -> b ≠ it -> s.heap.get? b = some o -> h2.get? b = some o) -> h2.get? D = some { cls := .type "list", dict := none, data := .seq acc c2, slots := #[] } ->
   ItemsOf (fun i v => items[items.size - 1 - i]? = some v) acc items.size -> R (.ok (.ret res)) { s with heap := h2, toks := tk }) :
  wpAny (model prog w) A.in1 (Builtin.List.listExtendWith (.ref D) (.ref it) res)
   (fun fin s' => match fin with | .done f => R (.ok f) s' | .again c' => c'.quiet = true /\ codeAny (model prog w) A c' R s') (fun e s' => R (.error e) s') s := by
 have W := (Walks.listRev (prog := prog) (w := w) (A := A.in1) hh it l hne items).toS
 unfold Builtin.List.listExtendWith
 refine wpAny_bind (wpAny_typeOf hit.typeIs ?_)
 have h1 : Builtin.List.listSameRef (.ref D) (.ref it) = false := by simp [Builtin.List.listSameRef, hDi]
 have h2 : (Value.type "list_reverseiterator" == Value.type "list") = false := by decide
 have h3 : (Value.type "list_reverseiterator" == Value.type "tuple") = false := by decide
 simp only [h1, h2, h3, Bool.or_false, Zc5, if_false]
 refine wpAny_bind (wpAny_pyIter_revIter hit ?_)
 refine wpAny_bind (wpAny_holding (Zm0 hit ?_))
 refine wpAny_ite_split (fun hz => absurd hz (by decide)) (fun _ => ?_)
 refine wpAny_pure ⟨plainId_quiet F.plain_extend_loop _, codeAny_extend_loopS W hz D (fun hm => ?_) res items.size 0 _ #[] c0 rfl (ZbW _) ⟨ZbW _, by simpa using hit, hl⟩ hD (ItemsOf.nil _) fun s' acc c2 hm hS hacc => ?_⟩
 ·rcases Zag.mp hm with e | hm
  ·exact hDi e
  ·exact hDl (ZaU.mp hm)
 ·rw [Moved.eq_with hm]
  refine hR s'.heap s'.toks acc c2 (fun b o hb hb2 e => hm.heap b o (fun hmem => ?_) e) hS hacc
  rcases Zag.mp hmem with e' | hmem
  ·exact hb e'
  ·exact hb2 (ZaU.mp hmem)
theorem Zin {E : Value -> Shared -> Prop} {Q : Value -> Shared -> Prop} {it l : Addr} {items : Array Value} (hh : A.handled = none) (hit : s.heap.IsRevIter it l ((items.size : Int) - 1)) (hl : s.heap.IsList l items) (hne : l ≠ it) (hz : items.size <= sizeLine)
  (hQ : ∀ h2 tk acc c2, (∀ b o, b ≠ it -> s.heap.get? b = some o -> h2.get? b = some o) -> h2.get? s.heap.objs.size = some { cls := .type "list", dict := none, data := .seq acc c2, slots := #[] } ->
   ItemsOf (fun i v => items[items.size - 1 - i]? = some v) acc items.size -> Q (.ref s.heap.objs.size) { s with heap := h2, toks := tk }) :
  wpAny (model prog w) A (call (.type "list") [.ref it]) Q E s := by
 have hi : it < s.heap.objs.size := by obtain ⟨o, e, _⟩ := hit; exact Zde e
 have hll : l < s.heap.objs.size := by obtain ⟨o, e, _⟩ := hl; exact Zde e
 refine callType_codes (Q₁ := fun obj s₁ => obj = .ref s.heap.objs.size /\ s₁ = { s with heap := s.heap.push { cls := .type "list", data := .seq #[] } }) F.called_list (F.typeCall_list_1 _) F.entry_list_init (code_list_new _ ⟨rfl, rfl⟩) fun obj s1 h1 => ?_
 obtain ⟨rfl, rfl⟩ := h1
 have hS : (s.heap.push { cls := .type "list", data := .seq #[] }).get? s.heap.objs.size = some { cls := .type "list", data := .seq #[] } := Zdf _ rfl
 have hit1 : (s.heap.push { cls := .type "list", data := .seq #[] }).IsRevIter it l ((items.size : Int) - 1) := hit.at fun o e => Zdh _ e
 have hl1 : (s.heap.push { cls := .type "list", data := .seq #[] }).IsList l items := hl.push _
 refine ⟨⟨_, hS, rfl⟩, F.args_list_init_2 _ _, ?_⟩
 show wpAny _ A.in1.in1 (do let old <- Builtin.List.listItems (.ref s.heap.objs.size); Builtin.List.listUpdate (.ref s.heap.objs.size) (fun _ => #[]); letGo old.toList.reverse; Builtin.List.listExtendWith (.ref s.heap.objs.size) (.ref it) .none) _ _ _
 refine wpAny_bind ?_
 unfold Builtin.List.listItems
 refine wpAny_bind (wpAny_seqItems hS rfl (wpAny_pure ?_))
 show wpAny _ A.in1.in1 (updateSeq s.heap.objs.size (fun _ => #[]) >>= fun _ => letGo (#[] : Array Value).toList.reverse >>= fun _ => Builtin.List.listExtendWith (.ref s.heap.objs.size) (.ref it) .none) _ _ _
 refine wpAny_bind (wpAny_updateSeq hS rfl ?_)
 have hS2 := Zdj (Obj.mapSeq (fun _ => (#[] : Array Value))) hS rfl
 refine wpAny_bind (wpAny_letGo ?_)
 have ni : s.heap.objs.size ≠ it := ZbU hi
 have nl : s.heap.objs.size ≠ l := ZbU hll
 refine ZkQ (A := A.in1) hh (hit1.at fun o e => (Zdk _ _ ni).trans e) (hl1.at fun o e => (Zdk _ _ nl).trans e) hne hz _ .none _ hS2 ni nl fun h2 tk acc c2 hk hD hacc => ?_
 exact ⟨rfl, hQ h2 tk acc c2 (fun b o hb e => hk b o (ZbR (Zde e)) hb ((Zdk _ _ (ZbU (Zde e))).trans (Zdh _ e))) hD hacc⟩
end
section
variable {X : Cx}
def tLR (K : PySem.W.Frag) (ta : TA) : TE := fun σ H Q => ta σ H fun vs H1 => ∃ a xs, vs = [.ref a] /\ SqL K H1 a xs /\ ∀ l, H1 l = none -> Q (.ref l) (upd H1 l (.lst xs.reverse))
theorem ZkR {a : Expr} {ta : TA} {p pos p2 pos2 : Pos} (hc : X.calm = true) (hg : Gl X "list") (hm : X.mg "list" = none) (hg2 : Gl X "reversed") (hm2 : X.mg "reversed" = none) (ha : PA X [a] ta)
  (hs : autoParam (starEach [a] X.env = [(false, eval a X.env)]) L2.Internal.auR._auto_1) (hs2 : autoParam (starEach [.Call (.Name "reversed" p2) [a] [] pos2] X.env = [(false, eval (.Call (.Name "reversed" p2) [a] [] pos2) X.env)]) L2.Internal.auR._auto_1) :
  PE X (.Call (.Name "list" p) [.Call (.Name "reversed" p2) [a] [] pos2] [] pos) (tLR X.K ta) := by
 intro pins s σ H Q I h
 refine wpAny_Call_Name_kw (ZfT I hg hm Zil ?_ (by decide) (by decide))
 refine Zdl ?_ hs2 rfl
 rw [hs2]
 refine Calls.spliced_cons ?_
 refine Call_ (ZfT I hg2 hm2 Zgt (Zdl (thn (ha pos2 pins s σ H _ I h) fun us s1 ⟨vs, H1, I1, r1, q1⟩ => ?_) hs rfl))
 obtain ⟨l1, xs, e, hq, q⟩ := q1
 subst e
 obtain ⟨u, rfl, ru⟩ := ZgX r1
 cases ru
 obtain ⟨i1s, w1, p1, z1⟩ := I1.list hq
 have hlen := w1.length
 refine call_reversed_list p1.isList ?_
 refine Calls.spliced_nil ?_
 have st : (s1.heap.push (revObj l1 ((i1s.toArray.size : Int) - 1))).IsRevIter s1.heap.objs.size l1 ((i1s.toArray.size : Int) - 1) := ⟨_, Zdf _ rfl, rfl, rfl⟩
 have hlt : l1 < s1.heap.objs.size := by obtain ⟨o, e, _⟩ := p1.isList; exact Zde e
 refine Zin (I1.ok.hd hc) st (p1.isList.push _) (ZbR hlt) (by rw [ZaI]; omega) fun h2 tk acc c2 hk hD hacc => ?_
 have kp : ∀ b o, s1.heap.get? b = some o -> h2.get? b = some o := fun b o e => hk b o (ZbR (Zde e)) (Zdh _ e)
 have sz : (s1.heap.push (revObj l1 ((i1s.toArray.size : Int) - 1))).objs.size = s1.heap.objs.size + 1 := Zdi ..
 have hv : Zei xs.reverse acc.toList := by
  have e2 : acc.toList = i1s.reverse := by
   refine Za9 fun j => ?_
   by_cases hj : j < acc.size
   ·have h3 := hacc.2 j acc[j] (Zc9 hj)
    have hs3 : acc.size = i1s.length := by have h9 := hacc.1; simpa using h9
    rw [ZaI] at h3
    rw [List.getElem?_reverse (show j < i1s.length by omega)]
    rw [Zc8, Zc9 hj, <- h3]
    simp
   ·have h4 : acc.size = i1s.length := by
     have h9 := hacc.1
     simpa using h9
    rw [Zba (by simpa using hj), Zba (by rw [Zbb]; omega)]
  rw [e2]
  exact w1.reverse
 refine ⟨.ref (s1.heap.objs.size + 1), _, ?_, by rw [sz]; rfl, q (s1.heap.objs.size + 1) (I1.hok.fresh (ZbZ _))⟩
 refine I1.laid (a := s1.heap.objs.size + 1) (t' := tk) kp (ZbZ _) ⟨by rw [Zbb]; exact z1, acc.toList, c2, hv, ?_⟩
 rw [<- sz]
 simpa using hD
end
end L2.Internal
namespace L2.Internal
open PySem PySem.Spec PyProof.Rows
section
variable {X : Cx}
end
end L2.Internal
namespace L2.Internal
open PySem PySem.Spec PyProof.Rows
section
variable {prog : Program} {w : World} {A : Around} {E : Value -> Shared -> Prop} {h : Heap} {g : Array GenState} {d : Drawn} {t : Nat} {os : OsState} {a D : Addr} {o : Obj} {K : PySem.W.Frag}
structure Zju (K : PySem.W.Frag) (D : Addr) : Prop where
 ga : Zci K (.ref D) "__getattribute__" = some (some (.builtin "BaseException.__getattribute__"))
 gn : Zci K (.ref D) "__getattr__" = some none
 cl : Zci K (.ref D) "__class__" = some (some (.builtin "object.__class__"))
 sb : ZcB K (.ref D) (.type "BaseException") = some true
 so : ZcB K (.ref D) (.type "object") = some true
 is : Zch K D = true
theorem ZpZ {R : Result -> Shared -> Prop} (X : K.In h) (C : Zju K D) (hx : h.get? a = some o) (hc : o.cls = .ref D) (hq : R (.ok (.ret (.ref D))) ⟨h, g, d, t, os⟩) :
  codeAny (model prog w) A (.call (.builtin "getset_descriptor.__get__") ⟨[.builtin "object.__class__", .ref a, .ref D], []⟩) R ⟨h, g, d, t, os⟩ := by
 have hT5 : (⟨h, g, d, t, os⟩ : Shared).TypeIs (.builtin "object.__class__") "getset_descriptor" := F.typeOf_object_class
 have L := ZcC (M := model prog w) X C.so
 refine codeAny_call_builtin F.slot_gs_get.plain F.entry_gs_get (F.slot_gs_get.check _ _ _ _ _ _ _ _ hT5 (F.args_gs_get _ _ _) ?_)
 repeat (any_goals (first | assumption | (with_reducible refine wpAny_loadPart_at hx ?_; rw [hc]) | (rw [F.owner_object_class]) | (with_reducible refine L.at ?_) | wp_step))
 refine ⟨Code.quiet_builtin _ (by decide +kernel), codeAny_builtin F.entry_object_class ?_⟩
 repeat (any_goals (first | assumption | (with_reducible refine wpAny_loadPart_at hx ?_; rw [hc]) | wp_step))
theorem Zm1 {tk : Tok} {Q : Fin -> Shared -> Prop} (X : K.In h) (C : Zju K D) (hx : h.get? a = some o) (hc : o.cls = .ref D) (hq : Q (.done (.ret (.ref D))) ⟨h, g, d, t, os⟩) :
  wpAny (model prog w) A (Builtin.«object.__getattribute__» ⟨[.ref a, .str "__class__" tk], []⟩) Q E ⟨h, g, d, t, os⟩ := by
 have hT5 : (⟨h, g, d, t, os⟩ : Shared).TypeIs (.builtin "object.__class__") "getset_descriptor" := F.typeOf_object_class
 have f5 := F.typeOf_object_class
 have f6 := F.slot_gs_get.lookup
 have f7 := F.slot_gs_set.lookup
 have L := Zcq (M := model prog w) X C.cl
 repeat (any_goals (first | assumption | (with_reducible refine wpAny_loadPart_at hx ?_; rw [hc]) | (with_reducible refine L.at ?_) | wp_step))
 refine ZpZ X C hx hc ?_
 repeat (any_goals (first | assumption | wp_step))
theorem Zkf {M : Model} {nameV : Value} {Q : Unit -> Shared -> Prop} (X : K.In h) (C : Zju K D) (hx : h.get? a = some o) (hc : o.cls = .ref D) (hq : Q () ⟨h, g, d, t, os⟩) : wpAny M A (checkBuiltinCall "BaseException.__getattribute__" ⟨[.ref a, nameV], []⟩) Q E ⟨h, g, d, t, os⟩ := by
 have hk : builtinKind "BaseException.__getattribute__" = some .slot := by decide +kernel
 have hsplit : splitId "BaseException.__getattribute__" = some ("BaseException", "__getattribute__") := by decide +kernel
 have ha := F.args_bexc_ga (.ref a) nameV
 have L := ZcC (M := M) X C.sb
 simp only [checkBuiltinCall, hk, hsplit]
 refine wpAny_bind ?_
 ·unfold isInstance
  repeat (first | (with_reducible refine wpAny_loadPart_at hx ?_; rw [hc]) | (with_reducible refine L.at ?_) | wp_step)
  exact hq
theorem Zos {tk : Tok} {R : Result -> Shared -> Prop} (X : K.In h) (C : Zju K D) (hx : h.get? a = some o) (hc : o.cls = .ref D) (hq : R (.ok (.ret (.ref D))) ⟨h, g, d, t, os⟩) :
  codeAny (model prog w) A (.call (.builtin "BaseException.__getattribute__") ⟨[.ref a, .str "__class__" tk], []⟩) R ⟨h, g, d, t, os⟩ :=
 codeAny_call_builtin F.excAttr_ValueError.ga.plain F.entry_bexc_ga (Zkf X C hx hc (Zm1 X C hx hc hq))
theorem Zrf {tk : Tok} {fill expr : Bool} {Q : Value -> Shared -> Prop} (X : K.In h) (C : Zju K D) (hx : h.get? a = some o) (hc : o.cls = .ref D) (hq : Q (.ref D) ⟨h, g, d, t, os⟩) :
  wpAny (model prog w) A (getAttrBy (.ref a) (.str "__class__" tk) fill expr) Q E ⟨h, g, d, t, os⟩ := by
 have f3 := F.excAttr_ValueError.ga.bind (.ref a)
 have hx0 : (expr && onTheHeap (Value.builtin "BaseException.__getattribute__")) = false := by cases expr <;> rfl
 have hx2 : (Value.builtin "BaseException.__getattribute__" == Value.builtin "object.__getattribute__") = false := by decide +kernel
 have hx1 : (onTheHeap (Value.ref D) && Value.builtin "BaseException.__getattribute__" == Value.builtin "object.__getattribute__") = false := by rw [hx2]; rfl
 have L1 := Zcq (M := model prog w) X C.ga
 have L2.Internal := Zcq (M := model prog w) X C.gn
 repeat (any_goals (first | assumption | (with_reducible refine wpAny_loadPart_at hx ?_; rw [hc]) | (with_reducible refine L1.at ?_) | (with_reducible refine L2.Internal.at ?_) | wp_step))
 refine Zos X C hx hc ?_
 repeat (any_goals (first | assumption | wp_step))
theorem Zot {Q : Option Value -> Shared -> Prop} (X : K.In h) (C : Zju K D) (hx : h.get? a = some o) (hc : o.cls = .ref D) (hq : Q (some (.ref D)) ⟨h, g, d, t + 1, os⟩) : wpAny (model prog w) A (getAttr? (.ref a) "__class__") Q E ⟨h, g, d, t, os⟩ := by
 unfold getAttr? getAttrBy?
 repeat (any_goals (first | assumption | with_reducible apply Zrf X C hx hc | wp_step))
theorem Zm2 (C : Zju K D) : PySem.W.KitX K (.ref a) (.ref D) (fun h => ∃ o, h.get? a = some o /\ o.cls = .ref D) where
 ty := fun M h _ ⟨o, e, c⟩ => by
  have z : PySem.W.Looks M h (typeOf (.ref a)) o.cls := (PySem.W.Looks.ld e).andThen .now
  rw [c] at z
  exact z
 it := fun _ _ X _ => by
  obtain ⟨cd, hc, _⟩ := Zcm C.is
  unfold ZcD at hc
  split at hc
  ·rename_i c' d' cd' sl' ho
   intro A' Q' E' s' k q
   unfold isType loadHead
   exact wpAny_bind (wpAny_loadPart (k _ _ (X _ _ ho)) (wpAny_pure q))
  ·cases hc
 ne := fun h tp dd its n sl X htp => by
  obtain ⟨cd, hc, _⟩ := Zcm C.is
  refine Bool.eq_false_iff.mpr fun q => ?_
  have e : D = tp := Value.ref.inj (beq_iff_eq.mp q)
  subst e
  unfold ZcD at hc
  split at hc
  ·rename_i c' d' cd' sl' ho
   have z := (X _ _ ho).symm.trans htp
   cases z
  ·cases hc
 ca := fun {_ _ _ _ _ s} X ⟨o, e, c⟩ k => by
  obtain ⟨h, g, d, t, os⟩ := s
  exact Zot X C e c k
end
section
variable {X : Cx}
end
end L2.Internal
namespace L2.Internal
open PySem PySem.Spec PyProof.Rows
open Sem (wp)
def DK (h h' : Heap) : Prop := ∀ b o, h.get? b = some o -> ∃ o', h'.get? b = some o' /\ o'.dict = o.dict /\ o'.cls = o.cls
theorem DK.refl (h : Heap) : DK h h := fun _ o e => ⟨o, e, rfl, rfl⟩
theorem DK.trans {h h1 h2 : Heap} (a : DK h h1) (b : DK h1 h2) : DK h h2 := fun x o e => by
 obtain ⟨o1, e1, d1, c1⟩ := a x o e
 obtain ⟨o2, e2, d2, c2⟩ := b x o1 e1
 exact ⟨o2, e2, d2.trans d1, c2.trans c1⟩
def Zrg (f : Obj -> Obj) : Prop := ∀ o, (f o).dict = o.dict /\ (f o).cls = o.cls /\ (o.isFreed = false -> (f o).isFreed = false)
theorem DK.upd {h : Heap} {a : Addr} {f : Obj -> Obj} (m : Zrg f) : DK h (h.update a f) := fun b o e => by
 by_cases q : a = b
 ·subst q
  exact ⟨f o, Zdj f e ((m o).2.2 (Heap.get?_some_iff.mp e).2), (m o).1, (m o).2.1⟩
 ·exact ⟨o, (Zdk _ f q).trans e, rfl, rfl⟩
theorem DK.push {h : Heap} (o : Obj) : DK h (h.push o) := fun b u e => ⟨u, Zdh _ e, rfl, rfl⟩
noncomputable def ZfG {α : Type} : Sem α -> Prop
 | .pure _ => True
 | .raise _ => True
 | .unsupported _ => True
 | .finish _ => True
 | .rule _ k => ZfG (k ())
 | .at _ k => ZfG (k ())
 | .load _ _ k => ∀ o, ZfG (k o)
 | .update _ _ f k => Zrg f /\ ZfG (k ())
 | .loadIfAlive _ k => ∀ o, ZfG (k o)
 | .point _ k => ZfG (k ())
 | .alloc _ k => ∀ a, ZfG (k a)
 | .fresh k => ∀ a, ZfG (k a)
 | .ask k => ∀ a, ZfG (k a)
 | .stack k => ∀ a, ZfG (k a)
 | .handled _ k => ∀ a, ZfG (k a)
 | _ => False
theorem ZlO {α β : Type} {f : α -> Sem β} (hf : ∀ a, ZfG (f a)) : ∀ {t : Sem α}, ZfG t -> ZfG (t.bind f) := by
 intro t
 induction t with
 | pure a => intro _; exact hf a
 | raise e => intro _; trivial
 | unsupported e => intro _; trivial
 | finish e => intro _; trivial
 | rule t k ih => exact fun h => ih () h
 | «at» p k ih => exact fun h => ih () h
 | load a p k ih => exact fun h o => ih o (h o)
 | update a p g k ih => exact fun h => ⟨h.1, ih () h.2⟩
 | loadIfAlive a k ih => exact fun h o => ih o (h o)
 | point l k ih => exact fun h => ih () h
 | alloc o k ih => exact fun h a => ih a (h a)
 | fresh k ih => exact fun h a => ih a (h a)
 | ask k ih => exact fun h a => ih a (h a)
 | stack k ih => exact fun h a => ih a (h a)
 | handled o k ih => exact fun h a => ih a (h a)
 | _ => intro h; exact absurd h (by unfold ZfG; exact fun z => z)
theorem Zou {α : Type} {M : Model} {Γ : PySem.Ctx} {t : Sem α} : ZfG t -> ∀ {Q : α -> Pos -> Shared -> Prop} {E : Value -> Pos -> Shared -> Prop} {p : Pos} {s : Shared}, wp M Γ t Q E p s -> wp M Γ t (fun a q s' => Q a q s' /\ DK s.heap s'.heap) (fun e q s' => E e q s' /\ DK s.heap s'.heap) p s := by
 induction t with
 | pure a => intro _ Q E p s h; rw [wp] at h ⊢; exact ⟨h, DK.refl _⟩
 | raise e => intro _ Q E p s h; rw [wp] at h ⊢; exact ⟨h, DK.refl _⟩
 | unsupported e => intro _ Q E p s h; rw [wp] at h; exact h.elim
 | finish e => intro _ Q E p s h; rw [wp] at h; exact h.elim
 | rule t k ih => intro m Q E p s h; rw [wp] at h ⊢; exact ih () m h
 | «at» p' k ih => intro m Q E p s h; rw [wp] at h ⊢; exact ih () m h
 | load a pp k ih => intro m Q E p s h; rw [wp] at h ⊢; obtain ⟨o, e, h⟩ := h; exact ⟨o, e, ih o (m o) h⟩
 | update a pp g k ih =>
  intro m Q E p s h
  rw [wp] at h ⊢
  refine ⟨h.1, ?_⟩
  have z := ih () m.2 h.2
  have d : DK s.heap (s.heap.update a g) := DK.upd m.1
  exact Sem.wp_mono _ _ _ (fun a q s' x => ⟨x.1, d.trans x.2⟩) (fun a q s' x => ⟨x.1, d.trans x.2⟩) _ _ z
 | loadIfAlive a k ih => intro m Q E p s h; rw [wp] at h ⊢; exact ih _ (m _) h
 | point l k ih => intro m Q E p s h; rw [wp] at h ⊢; exact ih () m h
 | alloc o k ih =>
  intro m Q E p s h
  rw [wp] at h ⊢
  have z := ih _ (m _) h
  have d : DK s.heap (s.heap.push o) := DK.push o
  exact Sem.wp_mono _ _ _ (fun a q s' x => ⟨x.1, d.trans x.2⟩) (fun a q s' x => ⟨x.1, d.trans x.2⟩) _ _ z
 | fresh k ih => intro m Q E p s h; rw [wp] at h ⊢; exact ih _ (m _) h
 | ask k ih => intro m Q E p s h; rw [wp] at h ⊢; exact ih _ (m _) h
 | stack k ih => intro m Q E p s h; rw [wp] at h ⊢; exact ih _ (m _) h
 | handled o k ih => intro m Q E p s h; rw [wp] at h ⊢; exact ih _ (m _) h
 | _ => intro h; exact absurd h (by unfold ZfG; exact fun z => z)
theorem ZgH {α : Type} {M : Model} {A : Around} {t : Sem α} {Q : α -> Shared -> Prop} {E : Value -> Shared -> Prop} {s : Shared} (T : ZfG t) (h : wpAny M A t Q E s) : wpAny M A t (fun a s' => Q a s' /\ DK s.heap s'.heap) (fun e s' => E e s' /\ DK s.heap s'.heap) s := fun Γ p hΓ => Zou T (h Γ p hΓ)
theorem Zeb {α β : Type} {t : Sem α} {f : α -> Sem β} (h : ZfG t) (hf : ∀ a, ZfG (f a)) : ZfG (t >>= f) := ZlO hf h
theorem Ze5 {α : Type} (a : α) : ZfG (pure a : Sem α) := trivial
theorem ZgI {α : Type} (x : String) : ZfG (unsupported x : Sem α) := trivial
theorem ZjN (a : Addr) : ZfG (load a) := fun _ => trivial
theorem Zio : ZfG stack := fun _ => trivial
theorem ZlP (v : Value) : ZfG (fieldsOf v) := by
 unfold fieldsOf
 split
 ·refine Zeb (ZjN _) fun o => ?_
  split
  ·exact Ze5 _
  ·exact ZgI _
 ·exact ZgI _
theorem ZgJ (v : Value) (i : Nat) : ZfG (field v i) := by
 unfold field
 refine Zeb (ZlP _) fun vs => ?_
 split
 ·exact Ze5 _
 ·exact ZgI _
theorem ZjO (f : Array Value -> Array Value) : Zrg (Obj.mapFields f) := fun o => by
 obtain ⟨c, d, dt, sl⟩ := o
 cases dt <;> exact ⟨rfl, rfl, fun h => h⟩
theorem ZfM (v : Value) (i : Nat) (x : Value) : ZfG (setField v i x) := by
 unfold setField
 split
 ·unfold updateField
  refine Zeb (ZjN _) fun o => ?_
  split
  ·split
   ·exact ⟨ZjO _, trivial⟩
   ·exact ZgI _
  ·exact ZgI _
 ·exact ZgI _
theorem ZfZ (e : Value) (o : Option Addr) : ZfG (setFlight e o) := by
 unfold setFlight
 refine Zeb (ZgJ _ _) fun tb => ?_
 split
 ·exact ZfM _ _ _
 ·exact Ze5 _
theorem ZlQ (env : Env) (outer : List Env) : ZfG (behindIsImport env outer) := by
 unfold behindIsImport
 repeat (first | exact Ze5 _ | exact ZgJ _ _ | refine Zeb (ZgJ _ _) fun _ => ?_ | split)
theorem ZlR : ZfG underTheClaimsCaller := Zeb Zio fun _ => Ze5 _
theorem Zov (env : Env) (b : Bool) (l : List Env) : ZfG (keptBack env b l) := by
 cases l with
 | nil =>
  simp only [keptBack]
  split
  ·exact Ze5 _
  ·exact Zeb ZlR fun _ => Ze5 _
 | cons c l => exact Ze5 _
theorem Zkg : ∀ l : List Env, ZfG (readyFrames l)
 | [] => trivial
 | env :: outer => by
  unfold readyFrames
  split
  ·refine Zeb (ZjN _) fun o => ?_
   split
   ·exact Ze5 _
   ·refine Zeb (ZlQ _ _) fun b => Zeb (Zov _ _ _) fun bk => Zeb ⟨fun o => ⟨rfl, rfl, fun h => ?_⟩, trivial⟩ fun _ => Zkg outer
    obtain ⟨c, d, dt, sl⟩ := o
    cases dt <;> exact h
  ·exact ZgI _
theorem ZjP (l : List Env) : ZfG (frameObject l) := by
 cases l with
 | nil => trivial
 | cons e l => exact Zeb (Zkg _) fun _ => Ze5 _
theorem Zow : ZfG frameEnvs := Zeb Zio fun _ => Ze5 _
theorem Zia (env : Env) : ZfG (PySem.frameOf env) := by
 unfold PySem.frameOf
 refine Zeb Zow fun l => Zeb (ZjP _) fun o => ?_
 split
 ·exact Ze5 _
 ·exact ZgI _
theorem Zkh (f : Addr) (b : Bool) : ZfG (entryPlaceOf f b) := by
 unfold entryPlaceOf
 refine Zeb Zio fun acts => ?_
 split <;> exact Ze5 _
theorem Zox (ty : String) (xs : Array Value) : ZfG (newObj (.type ty) (.fields xs)) := by
 unfold newObj
 dsimp only
 split
 ·trivial
 ·exact fun _ => trivial
theorem Zki (a b c d e : Value) (l : List Value) : ZfG (EntryCells.newEntry a b c d e l) := Zox _ _
theorem ZlS (e : Value) (env : Env) : ZfG (noteFrame e env) := by
 unfold noteFrame
 split
 ·refine Zeb (ZgJ _ _) fun head => ?_
  split
  ·refine Zeb (ZgJ _ _) fun x => ?_
   split
   ·exact Ze5 _
   ·exact Zeb (ZfM _ _ _) fun _ => Zeb (Zia _) fun _ => Zeb (Zkh _ _) fun _ => Zeb (Zki _ _ _ _ _ _) fun _ => ZfM _ _ _
  ·exact Zeb (Zia _) fun _ => Zeb (Zkh _ _) fun _ => Zeb (Zki _ _ _ _ _ _) fun _ => ZfM _ _ _
 ·exact ZgI _
theorem Zib (env : Env) (e : Value) : ZfG (leaving env e) := Zeb (ZlS _ _) fun _ => ZfZ _ _
end L2.Internal
namespace L2.Internal
open PySem PySem.Spec PyProof.Rows
section
variable {prog : Program} {w : World} {A : Around} {E : Value -> Shared -> Prop} {h : Heap} {g : Array GenState} {d : Drawn} {t : Nat} {os : OsState} {a D dx : Addr} {o : Obj} {K : PySem.W.Frag} {name : Str} {v : Value} {mA : Str -> Option Value}
theorem ZlT {K : PySem.W.Frag} {D : Addr} {h : Heap} (X : K.In h) (z : Zch K D = true) : ∃ oc cd, h.get? D = some oc /\ oc.data = .cls cd /\ cd.hasDict = true := by
 obtain ⟨cd, hc, hh⟩ := Zcm z
 unfold ZcD at hc
 split at hc
 ·rename_i c' d' cd' sl' ho
  cases hc
  exact ⟨_, _, X _ _ ho, rfl, hh⟩
 ·cases hc
theorem Zm3 {tk : Tok} {Q : Fin -> Shared -> Prop} (X : K.In h) (C : Zju K D) (hn : Zci K (.ref D) name = some none) (hx : h.get? a = some o) (hc : o.cls = .ref D) (hdt : ∀ c, o.data ≠ .cls c) (hd : o.dict = some dx) (hN : h.Ns dx mA) (hv : mA name = some v) (hq : Q (.done (.ret v)) ⟨h, g, d, t, os⟩) :
  wpAny (model prog w) A (Builtin.«object.__getattribute__» ⟨[.ref a, .str name tk], []⟩) Q E ⟨h, g, d, t, os⟩ := by
 have L := Zcq (M := model prog w) X hn
 repeat (any_goals (first | assumption | (with_reducible refine wpAny_loadPart_at hx ?_; first | rw [hc] | rw [hd]) | (with_reducible refine L.at ?_) | wp_step))
 split
 ·rename_i c z
  exact absurd z (hdt c)
 obtain ⟨oc, cd, eD, hcd, hdc⟩ := ZlT X C.is
 unfold instanceDict
 repeat (any_goals (first | assumption | (with_reducible refine wpAny_loadPart_at hx ?_; rw [hc]) | (with_reducible refine wpAny_load eD ?_; rw [hcd]) | wp_step))
 rw [hd]
 repeat (any_goals (first | assumption | (with_reducible refine wpAny_nsGet hN ?_; rw [hv]) | wp_step))
theorem Zoy {tk : Tok} {R : Result -> Shared -> Prop} (X : K.In h) (C : Zju K D) (hn : Zci K (.ref D) name = some none) (hx : h.get? a = some o) (hc : o.cls = .ref D) (hdt : ∀ c, o.data ≠ .cls c) (hd : o.dict = some dx) (hN : h.Ns dx mA) (hv : mA name = some v) (hq : R (.ok (.ret v)) ⟨h, g, d, t, os⟩) :
  codeAny (model prog w) A (.call (.builtin "BaseException.__getattribute__") ⟨[.ref a, .str name tk], []⟩) R ⟨h, g, d, t, os⟩ :=
 codeAny_call_builtin F.excAttr_ValueError.ga.plain F.entry_bexc_ga (Zkf X C hx hc (Zm3 X C hn hx hc hdt hd hN hv hq))
theorem Zrh {tk : Tok} {fill expr : Bool} {Q : Value -> Shared -> Prop} (X : K.In h) (C : Zju K D) (hn : Zci K (.ref D) name = some none) (hx : h.get? a = some o) (hc : o.cls = .ref D) (hdt : ∀ c, o.data ≠ .cls c) (hd : o.dict = some dx) (hN : h.Ns dx mA) (hv : mA name = some v) (hh : Zcj v = true) (hq : Q v ⟨h, g, d, t, os⟩) :
  wpAny (model prog w) A (getAttrBy (.ref a) (.str name tk) fill expr) Q E ⟨h, g, d, t, os⟩ := by
 have f3 := F.excAttr_ValueError.ga.bind (.ref a)
 have hx0 : (expr && onTheHeap (Value.builtin "BaseException.__getattribute__")) = false := by cases expr <;> rfl
 have hx2 : (Value.builtin "BaseException.__getattribute__" == Value.builtin "object.__getattribute__") = false := by decide +kernel
 have hx1 : (onTheHeap (Value.ref D) && Value.builtin "BaseException.__getattribute__" == Value.builtin "object.__getattribute__") = false := by rw [hx2]; rfl
 have L1 := Zcq (M := model prog w) X C.ga
 have L2.Internal := Zcq (M := model prog w) X C.gn
 repeat (any_goals (first | assumption | (with_reducible refine wpAny_loadPart_at hx ?_; rw [hc]) | (with_reducible refine L1.at ?_) | (with_reducible refine L2.Internal.at ?_) | wp_step))
 refine Zoy X C hn hx hc hdt hd hN hv ?_
 exact PySem.W.handed_on hh hq
theorem Zoz {expr : Bool} {Q : Value -> Shared -> Prop} (X : K.In h) (C : Zju K D) (hn : Zci K (.ref D) name = some none) (hx : h.get? a = some o) (hc : o.cls = .ref D) (hdt : ∀ c, o.data ≠ .cls c) (hd : o.dict = some dx) (hN : h.Ns dx mA) (hv : mA name = some v) (hh : Zcj v = true) (hq : Q v ⟨h, g, d, t + 1, os⟩) :
  wpAny (model prog w) A (getAttr (.ref a) name expr) Q E ⟨h, g, d, t, os⟩ := by
 unfold getAttr
 repeat (any_goals (first | assumption | with_reducible apply Zrh X C hn hx hc hdt hd hN hv hh | wp_step))
end
end L2.Internal
namespace L2.Internal
open PySem PySem.Spec PyProof.Rows
open Builtin Builtin.ObjectAttr
section
variable {prog : Program} {w : World} {A : Around} {E : Value -> Shared -> Prop} {h : Heap} {g : Array GenState} {d : Drawn} {t : Nat} {os : OsState} {a D dx : Addr} {o : Obj} {K : PySem.W.Frag} {name : Str} {v : Value} {mA : Str -> Option Value} {cd : ClassData} {vs : Array Value}
structure ZlU (K : PySem.W.Frag) (D : Addr) : Prop where
 xc : Zju K D
 sa : Zci K (.ref D) "__setattr__" = some (some (.builtin "object.__setattr__"))
 mro : ∃ cd, ZcD K D = some cd /\ cd.hasDict = true /\ ∀ self, refuseLoop self "__setattr__" cd.mro = pure ()
theorem ZoA {tk : Tok} {R : Result -> Shared -> Prop} (X : K.In h) (C : ZlU K D) (hn : Zci K (.ref D) name = some none) (hx : h.get? a = some o) (hc : o.cls = .ref D) (hdt : o.data = .fields vs) (hd : o.dict = none)
  (hq : ∀ h' tk', h'.get? a = some { o with dict := some h.objs.size } -> h'.Ns1 h.objs.size (fun y => if y = name then some v else none) -> (∀ b ob, b ≠ a -> h.get? b = some ob -> h'.get? b = some ob) -> R (.ok (.ret .none)) ⟨h', g, d, tk', os⟩) :
  codeAny (model prog w) A (.call (.builtin "object.__setattr__") ⟨[.ref a, .str name tk, v], []⟩) R ⟨h, g, d, t, os⟩ := by
 obtain ⟨cd, hcd, hdc, hr⟩ := C.mro
 have SF := ZcP
 have LT : ∀ M : Model, PySem.W.Looks M h (typeOf (.ref a)) (.ref D) := fun M => by
  have z : PySem.W.Looks M h (typeOf (.ref a)) o.cls := (PySem.W.Looks.ld hx).andThen .now
  rw [hc] at z
  exact z
 have sub : PySem.W.Looks (model prog w) h (isInstance (.ref a) (.type "object")) true := (LT _).andThen (ZcC X C.xc.so)
 refine codeAny_call_builtin SF.slot.plain SF.entry (@ZcE (model prog w) _ _ ⟨h, g, d, t, os⟩ "object.__setattr__" "object" "__setattr__" (.ref a) [.str name tk, v] [] _ SF.kind SF.split sub (SF.args (.ref a) (.str name tk) v) ?_)
 have hm : PySem.W.Looks (model prog w) h (mroOf (.ref D)) cd.mro := (Zcn X hcd).andThen .now
 rw [PySem.W.osa_eq, refuse_eq]
 refine wpAny_bind (wpAny_bind ((LT _).here (wpAny_bind (hm.here ?_))))
 rw [hr]
 refine wpAny_pure (wpAny_bind ((LT _).here (wpAny_bind ((Zcq X hn).here (wpAny_bind (wpAny_pure ?_))))))
 obtain ⟨oc, cd', eD, hcd', hdc'⟩ := ZlT X C.xc.is
 show wpAny _ _ (storeInOwnDict (.ref a) (.ref D) (.str name tk) name v false) _ _ _
 unfold storeInOwnDict ownDictForStores
 repeat (any_goals (first | assumption | (with_reducible refine wpAny_loadPart_at hx ?_; rw [hc]) | (with_reducible refine wpAny_load eD ?_; rw [hcd']) | wp_step))
 rw [hd]
 dsimp only
 rw [if_neg (show ¬ (!true || !typeHasDict (Value.ref D)) = true from by simp [typeHasDict]), hdt]
 have ea : a ≠ h.objs.size := ZbR (Zde hx)
 have e1 : (h.push { cls := .type "dict", data := .dict #[] }).get? a = some o := Zdh _ hx
 refine wpAny_bind (wpAny_alloc' (wpAny_bind (wpAny_update' e1 ?_)))
 generalize hh : (h.push { cls := .type "dict", data := .dict #[] }).update a (fun o => { cls := o.cls, dict := some h.objs.size, data := o.data, slots := o.slots }) = h2
 have fo : ({ cls := o.cls, dict := some h.objs.size, data := o.data, slots := o.slots } : Obj).isFreed = false := by
  obtain ⟨q1, q2, q3, q4⟩ := o
  dsimp only at hdt
  rw [hdt]
  rfl
 have g1 : h2.get? a = some { cls := o.cls, dict := some h.objs.size, data := o.data, slots := o.slots } := by rw [<- hh]; exact Zdj _ e1 fo
 have g2 : h2.get? h.objs.size = some { cls := .type "dict", data := .dict #[] } := by rw [<- hh, Zdk _ _ ea]; exact Zdf _ rfl
 have g3 : ∀ b ob, b ≠ a -> h.get? b = some ob -> h2.get? b = some ob := fun b ob n q => by rw [<- hh, Zdk _ _ n.symm]; exact Zdh _ q
 have n1 : h2.Ns h.objs.size (fun _ => none) := ⟨_, #[], _, g2, rfl, fun e he => absurd he (by simp), fun _ => rfl⟩
 refine wpAny_pure (a := some h.objs.size) ?_
 show wpAny _ _ (storeInDict h.objs.size (.str name tk) name v) _ _ _
 unfold storeInDict newKeyGuard
 refine wpAny_bind (wpAny_pure (wpAny_bind (wpAny_nsSet1 (Heap.Ns1.of_empty n1) fun h3 n3 sb => ?_)))
 obtain ⟨oD, es, ep, k1, k2, k3⟩ := n3.count (Within.cons name v Within.nil)
 refine wpAny_bind (wpAny_lookBehind k1 (by rw [k2]; exact pastItsLine_dict (ZbS k3 (by rw [sizeLine_eq, Zao, ZaG]; omega))) ?_)
 refine wpAny_pure (hq h3 _ ?_ ?_ fun b ob n q => (sb.2 b (ZbR (Zde q))).trans (g3 b ob n q))
 ·rw [sb.2 a ea, g1]
 ·exact n3
theorem Zm4 {tk : Tok} {R : Result -> Shared -> Prop} {ns : List Str} (X : K.In h) (C : ZlU K D) (hn : Zci K (.ref D) name = some none) (hx : h.get? a = some o) (hc : o.cls = .ref D) (hd : o.dict = some dx) (hN : h.Ns1 dx mA) (hne : dx ≠ a) (hw : Within mA ns) (hl : ns.length <= 100)
  (hq : ∀ h' tk', h'.Ns1 dx (fun y => if y = name then some v else mA y) -> (∀ b ob, b ≠ dx -> h.get? b = some ob -> h'.get? b = some ob) -> R (.ok (.ret .none)) ⟨h', g, d, tk', os⟩) :
  codeAny (model prog w) A (.call (.builtin "object.__setattr__") ⟨[.ref a, .str name tk, v], []⟩) R ⟨h, g, d, t, os⟩ := by
 obtain ⟨cd, hcd, hdc, hr⟩ := C.mro
 have SF := ZcP
 have LT : ∀ M : Model, PySem.W.Looks M h (typeOf (.ref a)) (.ref D) := fun M => by
  have z : PySem.W.Looks M h (typeOf (.ref a)) o.cls := (PySem.W.Looks.ld hx).andThen .now
  rw [hc] at z
  exact z
 have sub : PySem.W.Looks (model prog w) h (isInstance (.ref a) (.type "object")) true := (LT _).andThen (ZcC X C.xc.so)
 refine codeAny_call_builtin SF.slot.plain SF.entry (@ZcE (model prog w) _ _ ⟨h, g, d, t, os⟩ "object.__setattr__" "object" "__setattr__" (.ref a) [.str name tk, v] [] _ SF.kind SF.split sub (SF.args (.ref a) (.str name tk) v) ?_)
 have hm : PySem.W.Looks (model prog w) h (mroOf (.ref D)) cd.mro := (Zcn X hcd).andThen .now
 rw [PySem.W.osa_eq, refuse_eq]
 refine wpAny_bind (wpAny_bind ((LT _).here (wpAny_bind (hm.here ?_))))
 rw [hr]
 refine wpAny_pure (wpAny_bind ((LT _).here (wpAny_bind ((Zcq X hn).here (wpAny_bind (wpAny_pure ?_))))))
 obtain ⟨oc, cd', eD, hcd', hdc'⟩ := ZlT X C.xc.is
 show wpAny _ _ (storeInOwnDict (.ref a) (.ref D) (.str name tk) name v false) _ _ _
 unfold storeInOwnDict ownDictForStores
 repeat (any_goals (first | assumption | (with_reducible refine wpAny_loadPart_at hx ?_; rw [hc]) | (with_reducible refine wpAny_load eD ?_; rw [hcd']) | wp_step))
 rw [hd]
 refine wpAny_pure (a := some dx) ?_
 show wpAny _ _ (storeInDict dx (.str name tk) name v) _ _ _
 unfold storeInDict newKeyGuard
 refine wpAny_bind (wpAny_pure (wpAny_bind (wpAny_nsSet1 hN fun h3 n3 sb => ?_)))
 obtain ⟨oD, es, ep, k1, k2, k3⟩ := n3.count (Within.cons name v hw)
 refine wpAny_bind (wpAny_lookBehind k1 (by rw [k2]; exact pastItsLine_dict (ZbS k3 (by rw [sizeLine_eq, Zao]; omega))) ?_)
 exact wpAny_pure (hq h3 _ n3 fun b ob n q => (sb.2 b n).trans q)
theorem ZoB {Q : Unit -> Shared -> Prop} (X : K.In h) (C : ZlU K D) (hn : Zci K (.ref D) name = some none) (hx : h.get? a = some o) (hc : o.cls = .ref D) (hdt : o.data = .fields vs) (hd : o.dict = none)
  (hq : ∀ h' tk', h'.get? a = some { o with dict := some h.objs.size } -> h'.Ns1 h.objs.size (fun y => if y = name then some v else none) -> (∀ b ob, b ≠ a -> h.get? b = some ob -> h'.get? b = some ob) -> Q () ⟨h', g, d, tk', os⟩) :
  wpAny (model prog w) A (setAttr (.ref a) name v) Q E ⟨h, g, d, t, os⟩ := by
 have f3 := ZcP.slot.bind (.ref a)
 have L := Zcq (M := model prog w) X C.sa
 unfold setAttr callSpecial? specialOf
 repeat (any_goals (first | assumption | (with_reducible refine wpAny_loadPart_at hx ?_; rw [hc]) | (with_reducible refine L.at ?_) | wp_step))
 refine ZoA X C hn hx hc hdt hd fun h' tk' k1 k2 k3 => ?_
 repeat (any_goals (first | assumption | wp_step))
 exact hq h' tk' k1 k2 k3
theorem Zm5 {Q : Unit -> Shared -> Prop} {ns : List Str} (X : K.In h) (C : ZlU K D) (hn : Zci K (.ref D) name = some none) (hx : h.get? a = some o) (hc : o.cls = .ref D) (hd : o.dict = some dx) (hN : h.Ns1 dx mA) (hne : dx ≠ a) (hw : Within mA ns) (hl : ns.length <= 100)
  (hq : ∀ h' tk', h'.Ns1 dx (fun y => if y = name then some v else mA y) -> (∀ b ob, b ≠ dx -> h.get? b = some ob -> h'.get? b = some ob) -> Q () ⟨h', g, d, tk', os⟩) :
  wpAny (model prog w) A (setAttr (.ref a) name v) Q E ⟨h, g, d, t, os⟩ := by
 have f3 := ZcP.slot.bind (.ref a)
 have L := Zcq (M := model prog w) X C.sa
 unfold setAttr callSpecial? specialOf
 repeat (any_goals (first | assumption | (with_reducible refine wpAny_loadPart_at hx ?_; rw [hc]) | (with_reducible refine L.at ?_) | wp_step))
 refine Zm4 X C hn hx hc hd hN hne hw hl fun h' tk' k1 k2 => ?_
 repeat (any_goals (first | assumption | wp_step))
 exact hq h' tk' k1 k2
end
end L2.Internal
namespace L2.Internal
open PySem PySem.Spec PyProof.Rows
section
variable {prog : Program} {w : World} {A : Around} {E : Value -> Shared -> Prop} {h : Heap} {g : Array GenState} {d : Drawn} {t : Nat} {os : OsState}
variable {nm q : Str} {C N : Addr} {bs bm bmB : List Value} {hdct : Bool} {sn : List Str} {sub : List Value} {ab : Bool} {col : Option Bool} {dd : Option Addr} {k0 k1 k2 k3 k5 : Option Value} {B newId initId : String}
theorem ZoC {mN : Str -> Option Value} {rest : List Value} {fI : Addr} {oI : Obj} {Q : Fin -> Shared -> Prop} (F : ExcBaseFacts B newId initId bmB) (T : OwnTail h bmB bm)
  (eC : h.get? C = some (excClassObj nm q C N bs bm hdct sn sub ab col dd k0 k1 k2 k3 k5 newId)) (hn : h.Ns N mN) (hi : mN "__init__" = some (.ref fI)) (ho : h.get? fI = some oI) (hf : oI.cls = .type "function") (hl : rest.length <= sizeLine)
  (hq : ∀ h' e, Heap.MadeExcOf h h' e (.ref C) rest -> wpAny (model prog w) A (call (.ref fI) (.ref e :: rest)) (fun r s' => r = .none /\ Q (.done (.ret (.ref e))) s') E ⟨h', g, d, t, os⟩) :
  wpAny (model prog w) A (Builtin.«type.__call__» ⟨.ref C :: rest, []⟩) Q E ⟨h, g, d, t, os⟩ := by
 repeat (first | with_reducible refine wpAny_loadPart_at eC ?_ | with_reducible refine wpAny_madeBy_exc eC ?_ | wp_step)
 refine codeAny_call_builtin_code (Code.quiet_builtin _ F.quiet) (wpAny_check_new_subT F T eC (codeAny_exc_new_subT F T eC ?_ hl))
 have up : ∀ b u, h.get? b = some u -> ((h.push { cls := .type "tuple", data := .seq rest.toArray }).push { cls := .ref C, data := .fields #[.ref h.objs.size, .none, .none, .none, .bool false, .none] }).get? b = some u := fun b u e => Zdh _ (Zdh _ e)
 have ee : ((h.push { cls := .type "tuple", data := .seq rest.toArray }).push { cls := .ref C, data := .fields #[.ref h.objs.size, .none, .none, .none, .bool false, .none] }).get? (h.objs.size + 1) = some { cls := .ref C, data := .fields #[.ref h.objs.size, .none, .none, .none, .bool false, .none] } := by
  have z := Zdf (h.push { cls := .type "tuple", data := .seq rest.toArray }) (o := { cls := .ref C, data := .fields #[.ref h.objs.size, .none, .none, .none, .bool false, .none] }) rfl
  rwa [Zdi] at z
 have et : ((h.push { cls := .type "tuple", data := .seq rest.toArray }).push { cls := .ref C, data := .fields #[.ref h.objs.size, .none, .none, .none, .bool false, .none] }).get? h.objs.size = some { cls := .type "tuple", data := .seq rest.toArray } := Zdh _ (Zdf _ rfl)
 show wpAny _ _ _ _ _ _
 generalize hg : (h.push { cls := .type "tuple", data := .seq rest.toArray }).push { cls := .ref C, data := .fields #[.ref h.objs.size, .none, .none, .none, .bool false, .none] } = h2 at up ee et
 have n2 : h2.Ns N mN := by
  obtain ⟨o, es, ep, e, r⟩ := hn
  exact ⟨o, es, ep, up _ _ e, r⟩
 have cc : (Value.ref C :: bm).contains (.ref C) = true := by simp
 unfold isInstance
 repeat (first | with_reducible refine wpAny_loadPart_at ee ?_ | (with_reducible refine wpAny_isSubtype_exc (up _ _ eC) ?_; rw [cc]) | wp_step)
 show wpAny _ _ (typeLookup (Value.ref C) _) _ _ _
 refine wpAny_typeLookup_tail (up _ _ eC) n2 (T.keeps up) F.mroIs F.init.lookup ?_
 rw [hi]
 refine wpAny_holding (wpAny_bind ?_); unfold bindSpecial
 refine wpAny_bind (wpAny_typeOf (T := "function") ⟨_, up _ _ ho, hf⟩ ?_)
 rw [if_pos (by decide)]
 refine wpAny_pure (wpAny_bind (wpAny_mono (hq h2 (h.objs.size + 1) ⟨up, Zdg (ZbZ _), h.objs.size, ee, Zdg (ZbV _), et⟩) (fun r s' hr => ?_) fun _ _ z => z))
 obtain ⟨rfl, hQ⟩ := hr
 wp_walk
 exact hQ
theorem ZoD {mN : Str -> Option Value} {rest : List Value} {fI : Addr} {oI : Obj} {Q : Value -> Shared -> Prop} (F : ExcBaseFacts B newId initId bmB) (T : OwnTail h bmB bm)
  (eC : h.get? C = some (excClassObj nm q C N bs bm hdct sn sub ab col dd k0 k1 k2 k3 k5 newId)) (hn : h.Ns N mN) (hi : mN "__init__" = some (.ref fI)) (ho : h.get? fI = some oI) (hf : oI.cls = .type "function") (hl : rest.length <= sizeLine)
  (hq : ∀ h' e, Heap.MadeExcOf h h' e (.ref C) rest -> wpAny (model prog w) (A.under (.builtin "type.__call__" ⟨.ref C :: rest, []⟩)) (call (.ref fI) (.ref e :: rest)) (fun r s' => r = .none /\ Q (.ref e) s') E ⟨h', g, d, t, os⟩) :
  wpAny (model prog w) A (call (.ref C) rest) Q E ⟨h, g, d, t, os⟩ := by
 have f1 := tc_lookup
 have f2 := tc_bind (.ref C)
 have ty : (⟨h, g, d, t, os⟩ : Shared).TypeIs (.ref C) "type" := ⟨_, eC, rfl⟩
 refine wpAny_call (codeAny_of_tree ?_)
 show wpAny _ _ (callAny (Value.ref C) _) _ _ _
 repeat (any_goals (first | assumption | with_reducible refine wpAny_loadPart_at eC ?_ | wp_step))
 refine ⟨rfl, ?_⟩
 exact codeAny_call_builtin_at (Code.quiet_builtin _ (by decide +kernel)) entry_typeCall (wpAny_check_type_call_sub eC (ZoC F T eC hn hi ho hf hl fun h' e hm => hq h' e hm))
end
section
variable {prog : Program} {w : World} {A : Around} {E : Value -> Shared -> Prop} {s : Shared} {env : Env}
variable {nm q : Str} {C N : Addr} {bs bm bmB : List Value} {hdct : Bool} {sn : List Str} {sub : List Value} {ab : Bool} {col : Option Bool} {dd : Option Addr} {k0 k1 k2 k3 k5 : Option Value} {B newId initId : String}
theorem ZoE {x : Sem Value} {Q : Flow -> Shared -> Prop} (hb : bm.contains (.type "BaseException") = true) (hh : A.handled = none)
  (h : wpAny (model prog w) A x (fun v s1 => ∃ e oe, v = .ref e /\ s1.heap.get? C = some (excClassObj nm q C N bs bm hdct sn sub ab col dd k0 k1 k2 k3 k5 newId) /\ s1.heap.get? e = some oe /\ oe.cls = .ref C /\ (∃ vs, oe.data = .fields vs /\ vs[1]? = some .none) /\ E (.ref e) s1) E s) :
  wpAny (model prog w) A (raiseStmt env (some x) none) Q E s := by
 have hB : (Value.ref C :: bm).contains (.type "BaseException") = true := by rw [List.contains_cons, hb]; exact Bool.or_true _
 unfold raiseStmt
 refine wpAny_bind (wpAny_mono h (fun v s1 h1 => ?_) fun _ _ z => z)
 obtain ⟨e, oe, rfl, eC, he, hc, ⟨vs, hv, h1⟩, hE⟩ := h1
 obtain ⟨hp, g, d, tk, os⟩ := s1
 obtain ⟨oc, od, odt, osl⟩ := oe
 dsimp only at hc hv
 subst hc hv
 repeat (first | with_reducible refine wpAny_loadPart_at he ?_ | with_reducible refine wpAny_loadPart_at eC ?_ | (with_reducible refine wpAny_isSubtype_exc eC ?_; rw [hB]) | wp_step)
 rw [h1]
 refine wpAny_pure ?_
 rw [if_neg (by decide)]
 exact wpAny_pure (wpAny_raiseNew_none hh hE)
theorem Zm6 {mN : Str -> Option Value} {x : Str} {np cpos pos : Pos} {args : List Expr} {Q : Flow -> Shared -> Prop} {fI : Addr} (F : ExcBaseFacts B newId initId bmB)
  (hb : bm.contains (.type "BaseException") = true) (hh : A.handled = none) (hp : (backTo cpos (starEach args env)).any (·.1) = false) (hi : mN "__init__" = some (.ref fI))
  (h : wpAny (model prog w) A (eval (.Name x np) env) (fun f s1 => f = .ref C /\ wpAny (model prog w) A (evalArgs (.ref C) true (backTo cpos (starEach args env)) [])
   (fun a s2 => a.kw = [] /\ a.pos.length <= sizeLine /\ s2.heap.get? C = some (excClassObj nm q C N bs bm hdct sn sub ab col dd k0 k1 k2 k3 k5 newId) /\ s2.heap.Ns N mN /\ OwnTail s2.heap bmB bm /\ (∃ oI, s2.heap.get? fI = some oI /\ oI.cls = .type "function") /\
    ∀ h' e, Heap.MadeExcOf s2.heap h' e (.ref C) a.pos -> wpAny (model prog w) (A.under (.builtin "type.__call__" ⟨.ref C :: a.pos, []⟩)) (call (.ref fI) (.ref e :: a.pos)) (fun r s3 => r = .none /\ s3.heap.get? C = some (excClassObj nm q C N bs bm hdct sn sub ab col dd k0 k1 k2 k3 k5 newId) /\ (∃ oe, s3.heap.get? e = some oe /\ oe.cls = .ref C /\ ∃ vs, oe.data = .fields vs /\ vs[1]? = some .none) /\ E (.ref e) s3) E { s2 with heap := h' }) E s1) E s) :
  wpAny (model prog w) A (exec (.Raise (some (.Call (.Name x np) args [] cpos)) none pos) env) Q E s := by
 rw [arm_exec_Raise]
 refine wpAny_bind (wpAny_standAt (ZoE (C := C) (nm := nm) (q := q) (N := N) (bs := bs) (bm := bm) (hdct := hdct) (sn := sn) (sub := sub) (ab := ab) (col := col) (dd := dd) (k0 := k0) (k1 := k1) (k2 := k2) (k3 := k3) (k5 := k5) (newId := newId) hb hh ?_))
 refine wpAny_bind (wpAny_mono (wpAny_Call_ofName (wpAny_mono h (fun f s1 h1 => ?_) fun _ _ z => z)) (fun v s3 h3 => wpAny_bind (wpAny_standAt (wpAny_pure h3))) fun _ _ z => z)
 obtain ⟨rfl, h1⟩ := h1
 unfold callWith
 refine wpAny_bind (wpAny_holding (wpAny_mono h1 (fun a s2 h2 => wpAny_bind (wpAny_standAt ?_)) fun _ _ z => z))
 obtain ⟨ap, ak⟩ := a
 obtain ⟨hk, hl, eC, hn, T, ⟨oI, e1, e2⟩, h2⟩ := h2
 obtain rfl : ak = [] := hk
 obtain ⟨hp2, g, d, tk, os⟩ := s2
 simp only [hp]
 refine wpAny_bind (wpAny_keeperOf_exc eC ?_)
 refine wpAny_bind (ZoD F T eC hn hi e1 e2 hl fun h' e hm => wpAny_mono (h2 h' e hm) (fun r s3 z => ⟨z.1, ?_⟩) fun _ _ z => z)
 obtain ⟨_, z1, ⟨oe, z2, z3, z4⟩, z5⟩ := z
 exact wpAny_bind (wpAny_holding (wpAny_point (wpAny_pure ⟨e, oe, rfl, z1, z2, z3, z4, z5⟩)))
end
end L2.Internal
namespace L2.Internal
open PySem PySem.Spec PyProof.Rows
noncomputable def ZnI (a C : Addr) : HO := .ext fun h => ∃ o vs, h.get? a = some o /\ o.cls = .ref C /\ o.dict = none /\ o.data = .fields vs /\ vs[1]? = some .none /\ ∃ a0, vs[0]? = some a0
noncomputable def ZkS (a C dx : Addr) : HO := .ext fun h => ∃ o vs, h.get? a = some o /\ o.cls = .ref C /\ o.dict = some dx /\ o.data = .fields vs /\ vs[1]? = some .none /\ ∃ a0, vs[0]? = some a0
noncomputable def Zk2 (a C dx : Addr) : HO := .ext fun h => ∃ o vs, h.get? a = some o /\ o.cls = .ref C /\ o.dict = some dx /\ o.data = .fields vs
noncomputable def ZjQ (dx : Addr) (fs : List (Str × V)) : HO := .ext fun h => fs.length <= 50 /\ ∃ mA, h.Ns1 dx mA /\ (∀ f, ZiK (fs.lookup f) (mA f)) /\ Within mA (fs.map (·.1))
section
variable {P : Program} {w : World} {H : Hp} {h : Heap} {a C dx : Addr}
theorem ZoF {o : Obj} {vs : Array Value} {a0 : Value} (e : h.get? a = some o) (c : o.cls = .ref C) (d : o.dict = none) (t : o.data = .fields vs) (n : vs[1]? = some .none) (z : vs[0]? = some a0) : Zer P w H h a (ZnI a C) :=
 ⟨⟨o, vs, e, c, d, t, n, a0, z⟩, ⟨o, e⟩, fun h1 h2 ⟨o1, v1, e1, r⟩ k => ⟨o1, v1, k o1 e1, r⟩⟩
theorem ZoG {o : Obj} {vs : Array Value} {a0 : Value} (e : h.get? a = some o) (c : o.cls = .ref C) (d : o.dict = some dx) (t : o.data = .fields vs) (n : vs[1]? = some .none) (z : vs[0]? = some a0) : Zer P w H h a (ZkS a C dx) :=
 ⟨⟨o, vs, e, c, d, t, n, a0, z⟩, ⟨o, e⟩, fun h1 h2 ⟨o1, v1, e1, r⟩ k => ⟨o1, v1, k o1 e1, r⟩⟩
theorem ZoH {o : Obj} {vs : Array Value} (e : h.get? a = some o) (c : o.cls = .ref C) (d : o.dict = some dx) (t : o.data = .fields vs) : Zer P w H h a (Zk2 a C dx) :=
 ⟨⟨o, vs, e, c, d, t⟩, ⟨o, e⟩, fun h1 h2 ⟨o1, v1, e1, r⟩ k => ⟨o1, v1, k o1 e1, r⟩⟩
theorem ZlV {fs : List (Str × V)} {mA : Str -> Option Value} (hl : fs.length <= 50) (n : h.Ns1 dx mA) (r : ∀ f, ZiK (fs.lookup f) (mA f)) (wi : Within mA (fs.map (·.1))) : Zer P w H h dx (ZjQ dx fs) := by
 refine ⟨⟨hl, mA, n, r, wi⟩, ?_, fun h1 h2 ⟨hl, m1, n1, r1, w1⟩ k => ⟨hl, m1, ?_, r1, w1⟩⟩
 ·obtain ⟨o, es, ep, e, _⟩ := n
  exact ⟨o, e⟩
 ·obtain ⟨o, es, ep, e, z⟩ := n1
  exact ⟨o, es, ep, k o e, z⟩
end
section
variable {X : Cx} {pins : List (Addr × Obj)} {σ : St} {H : Hp} {s : Shared} {A : Around} {E : Value -> Shared -> Prop} {a C dx : Addr} {f : Str} {fs : List (Str × V)}
theorem Inv.newAddr (I : Inv X pins σ H s) {b : Addr} (hb : s.heap.get? b = none) : X.s₀.heap.get? b = none /\ b ≠ X.env.locals /\ (∀ x c, X.env.cells.lookup x = some c -> c ≠ b) /\ (∀ p ∈ X.pn ++ pins, p.1 ≠ b) \/ b ∈ X.ex := by
 by_cases hx : b ∈ X.ex
 ·exact .inr hx
 refine .inl ⟨?_, ?_, ?_, ?_⟩
 ·cases z : X.s₀.heap.get? b with
  | none => rfl
  | some o =>
   obtain ⟨o1, e1⟩ := I.base.there b o z hx
   rw [hb] at e1
   cases e1
 ·intro z
  obtain ⟨m, ⟨o, _, _, ho, _⟩, _⟩ := I.loc
  rw [<- z, hb] at ho
  cases ho
 ·intro x c e z
  obtain ⟨v, o, ho, _⟩ := I.cell x c e
  rw [z, hb] at ho
  cases ho
 ·intro p hp z
  have e := (I.pin p hp).1
  rw [z, hb] at e
  cases e
theorem Zri {y : V} {u : Value} {Q : Unit -> Shared -> Prop} (I : Inv X pins σ H s) (hex : X.ex = []) (e : H a = some (ZnI a C)) (c : ZlU X.K C) (n : Zci X.K (.ref C) f = some none) (ry : ZeB y u)
  (h : ∀ dx s', H dx = none -> dx ≠ a -> Inv X pins σ (upd (upd H a (ZkS a C dx)) dx (ZjQ dx [(f, y)])) s' -> Q () s') : wpAny (model X.prog X.w) A (setAttr (.ref a) f u) Q E s := by
 obtain ⟨⟨o, vs, eo, ec, ed, et, en, a0, e0⟩, _, _⟩ := (show Zer X.prog X.w H s.heap a (ZnI a C) from I.hok a _ e)
 obtain ⟨hp, g, d, t, os⟩ := s
 have fr : H hp.objs.size = none := I.hok.fresh (ZbV _)
 refine ZoB I.kIn c n eo ec et ed fun h' tk' k1 k2 k3 => ?_
 have na : hp.objs.size ≠ a := (ZbR (Zde eo)).symm
 have hn : hp.get? hp.objs.size = none := Zdg (ZbV _)
 have I1 : Inv X pins σ (upd H a (ZkS a C hp.objs.size)) ⟨h', g, d, tk', os⟩ := I.write (x := a) (e := a) (by rw [e]; exact True.intro) (.inl rfl) (fun b q hb z => k3 b q hb z) ⟨_, k1⟩ (ZoG k1 ec rfl et en e0)
 rcases I.newAddr hn with ⟨z1, z2, z3, z4⟩ | z
 ·refine h hp.objs.size _ fr na (I1.track (by rw [Zdt na]; exact fr) z1 z2 z3 z4 (ZlV (by show 1 <= 50; decide) k2 (fun g => ?_) ?_))
  ·show ZiK (Zap g [(f, y)]) (if g = f then some u else none)
   by_cases q : g = f
   ·subst q
    rw [if_pos rfl, ZaW, beq_self_eq_true]
    exact ry
   ·rw [if_neg q, ZaW, show (g == f) = false from beq_eq_false_iff_ne.mpr q]
    trivial
  ·exact Within.cons f u Within.nil
 ·rw [hex] at z; cases z
theorem Zrj {y : V} {u : Value} {Q : Unit -> Shared -> Prop} (I : Inv X pins σ H s) (e : H a = some (ZkS a C dx)) (ed : H dx = some (ZjQ dx fs)) (hne : dx ≠ a) (hl : fs.length < 40) (c : ZlU X.K C) (n : Zci X.K (.ref C) f = some none) (ry : ZeB y u)
  (h : ∀ s', Inv X pins σ (upd H dx (ZjQ dx (Zhe f y fs))) s' -> Q () s') : wpAny (model X.prog X.w) A (setAttr (.ref a) f u) Q E s := by
 obtain ⟨⟨o, vs, eo, ec, edd, et, en, a0, e0⟩, _, _⟩ := (show Zer X.prog X.w H s.heap a (ZkS a C dx) from I.hok a _ e)
 obtain ⟨⟨_, mA, nA, r, wi⟩, _, _⟩ := (show Zer X.prog X.w H s.heap dx (ZjQ dx fs) from I.hok dx _ ed)
 obtain ⟨hp, g, d, t, os⟩ := s
 refine Zm5 I.kIn c n eo ec edd nA hne wi (by rw [Zar]; omega) fun h' tk' k1 k2 => h _ ?_
 have hd : ∃ o, h'.get? dx = some o := let ⟨o, _, _, e', _⟩ := k1; ⟨o, e'⟩
 refine I.write (x := dx) (e := dx) (by rw [ed]; exact True.intro) (.inl rfl) (fun b q hb z => k2 b q hb z) hd (ZlV ?_ k1 (fun g => ?_) fun g hg => ?_)
 ·have := Zgq f y fs; omega
 ·show ZiK ((Zhe f y fs).lookup g) (if g = f then some u else mA g)
  rw [Zgp]
  by_cases q : g = f
  ·rw [if_pos q, if_pos q]; exact ry
  ·rw [if_neg q, if_neg q]; exact r g
 ·by_cases q : g = f
  ·rw [q]; exact (ZfU f y fs).1
  ·refine (ZfU f y fs).2 g (wi g fun z => hg ?_)
   show (if g = f then some u else mA g) = none
   rw [if_neg q]; exact z
theorem getx {v : V} {ex : Bool} {Q : Value -> Shared -> Prop} (I : Inv X pins σ H s) (e : H a = some (Zk2 a C dx)) (ed : H dx = some (ZjQ dx fs)) (c : Zju X.K C) (n : Zci X.K (.ref C) f = some none) (l : fs.lookup f = some v)
  (h : ∀ u s', Inv X pins σ H s' -> ZeB v u -> Q u s') : wpAny (model X.prog X.w) A (getAttr (.ref a) f ex) Q E s := by
 obtain ⟨⟨o, vs, eo, ec, edd, et⟩, _, _⟩ := (show Zer X.prog X.w H s.heap a (Zk2 a C dx) from I.hok a _ e)
 obtain ⟨⟨_, mA, nA, r, wi⟩, _, _⟩ := (show Zer X.prog X.w H s.heap dx (ZjQ dx fs) from I.hok dx _ ed)
 obtain ⟨hp, g, d, t, os⟩ := s
 have rf := r f
 rw [l] at rf
 obtain ⟨u, hu, ru⟩ : ∃ u, mA f = some u /\ ZeB v u := by
  cases z : mA f with
  | none => rw [z] at rf; exact rf.elim
  | some u => rw [z] at rf; exact ⟨u, rfl, rf⟩
 exact Zoz I.kIn c n eo ec (fun c z => by rw [et] at z; cases z) edd nA.ns hu (ZiP ru) (h u _ (I.tok _) ru)
end
section
variable {X : Cx} {o value e : Expr} {ta tv : TE} {f : Str} {pos pos' : Pos}
def Zp0 (K : PySem.W.Frag) (ta tv : TE) (f : Str) : TS := fun D σ H => tv σ H fun y H1 => ta σ H1 fun x H2 => ∃ a C, x = .ref a /\ H2 a = some (ZnI a C) /\ ZlU K C /\ Zci K (.ref C) f = some none /\ ∀ dx, H2 dx = none -> dx ≠ a -> D.nx σ (upd (upd H2 a (ZkS a C dx)) dx (ZjQ dx [(f, y)]))
def Zp1 (K : PySem.W.Frag) (ta tv : TE) (f : Str) : TS := fun D σ H => tv σ H fun y H1 => ta σ H1 fun x H2 => ∃ a C dx fs, x = .ref a /\ H2 a = some (ZkS a C dx) /\ H2 dx = some (ZjQ dx fs) /\ dx ≠ a /\ fs.length < 40 /\ ZlU K C /\ Zci K (.ref C) f = some none /\ D.nx σ (upd H2 dx (ZjQ dx (Zhe f y fs)))
theorem Zkj (hex : X.ex = []) (ha : PE X o ta) (hv : PE X value tv) (hs : swapsWith value (some (.Attribute o f pos')) pos.line X.env = pure false) : PS X (.Assign [.Attribute o f pos'] value pos) (Zp0 X.K ta tv f) := by
 intro pins s σ H D I h
 refine plainObj_wpAny_Assign_Attribute (thn (hv pins s σ H _ I h) fun u s1 ⟨y, H1, I1, ry, q⟩ => thn (ha pins s1 σ H1 _ I1 q) fun ov s2 ⟨x, H2, I2, rx, a, C, ex, ea, c, n, q2⟩ => ?_) hs
 subst ex
 obtain rfl : ov = Value.ref a := rx
 exact Zri I2 hex ea c n ry fun dx s3 h1 h2 I3 => ⟨σ, _, I3, q2 dx h1 h2⟩
theorem Zm7 (ha : PE X o ta) (hv : PE X value tv) (hs : swapsWith value (some (.Attribute o f pos')) pos.line X.env = pure false) : PS X (.Assign [.Attribute o f pos'] value pos) (Zp1 X.K ta tv f) := by
 intro pins s σ H D I h
 refine plainObj_wpAny_Assign_Attribute (thn (hv pins s σ H _ I h) fun u s1 ⟨y, H1, I1, ry, q⟩ => thn (ha pins s1 σ H1 _ I1 q) fun ov s2 ⟨x, H2, I2, rx, a, C, dx, fs, ex, ea, ed, hne, hl, c, n, q2⟩ => ?_) hs
 subst ex
 obtain rfl : ov = Value.ref a := rx
 exact Zrj I2 ea ed hne hl c n ry fun s3 I3 => ⟨σ, _, I3, q2⟩
def Zrk (K : PySem.W.Frag) (ta : TE) (f : Str) : TE := fun σ H Q => ta σ H fun x H1 => ∃ a C dx fs v, x = .ref a /\ H1 a = some (Zk2 a C dx) /\ H1 dx = some (ZjQ dx fs) /\ Zju K C /\ Zci K (.ref C) f = some none /\ fs.lookup f = some v /\ Q v H1
theorem ZjR (he : PE X e ta) (hb : attributeBase e f X.env (eval e X.env) = eval e X.env) : PE X (.Attribute e f pos) (Zrk X.K ta f) := by
 intro pins s σ H Q I h
 refine Zlk hb (thn (he pins s σ H _ I h) fun u s1 ⟨x, H1, I1, rx, a, C, dx, fs, v, ex, ea, ed, c, n, l, q⟩ => ?_)
 subst ex
 obtain rfl : u = Value.ref a := rx
 exact getx I1 ea ed c n l fun u' s2 I2 ru => ⟨v, H1, I2, ru, q⟩
end
end L2.Internal
namespace L2.Internal
open PySem PySem.Spec PyProof.Rows
noncomputable def CXF (P : Program) (w : World) : CXT := fun outer H s E e s' => ∃ (ea : Addr) (cls a0 : Value) (B : Heap) (H' : Hp) (dx : Addr), e = .ref ea /\ Fl P w outer H s B H' s' /\ Heap.FlyingW B outer ea cls a0 s'.heap /\ (∃ o, s'.heap.get? ea = some o /\ o.dict = some dx) /\ E cls (some dx) H'
noncomputable def dr (H : Hp) (a : Addr) : Hp := fun b => if b = a then none else H b
theorem Zhy {H : Hp} {a b : Addr} (h : b ≠ a) : dr H a b = H b := if_neg h
theorem ZlW {H : Hp} {a : Addr} : dr H a a = none := if_pos rfl
theorem ZlX {H : Hp} {a b : Addr} {u : HO} (h : dr H a b = some u) : b ≠ a /\ H b = some u := by
 by_cases z : b = a
 ·rw [z, ZlW] at h; cases h
 ·rw [Zhy z] at h; exact ⟨z, h⟩
theorem Zp2 {P : Program} {w : World} {H : Hp} {h : Heap} {a : Addr} {φ : Heap -> Prop} (ok : HOk P w H h) (ha : H a = some (.ext φ)) : HOk P w (dr H a) h := fun b u e => by
 obtain ⟨n, e⟩ := ZlX e
 refine (ok b u e).stay (fun _ _ _ q => q) (fun c q => ?_) fun c xs q => ?_
 ·rw [Zhy (fun z => by rw [z, ha] at q; cases q)]; exact q
 ·rw [Zhy (fun z => by rw [z, ha] at q; cases q)]; exact q
theorem Zrl {fs ex : List Addr} {H H' : Hp} {h h' : Heap} {a : Addr} {φ : Heap -> Prop} (u : Un fs ex H H' h h') (ha : H' a = some (.ext φ)) : Un fs ex H (dr H' a) h h' := by
 refine ⟨u.keep, u.slot, fun b o e n hx => ?_, u.there, fun b xs q => ?_, fun b o x q => ?_, fun b ps q => ?_⟩
 ·have := u.free b o e n hx
  by_cases z : b = a
  ·rw [z, ZlW]
  ·rw [Zhy z]; exact this
 ·have q := u.tups b xs q
  rw [Zhy (fun z => by rw [z, ha] at q; cases q)]; exact q
 ·have q := u.frzs b o x q
  rw [Zhy (fun z => by rw [z, ha] at q; cases q)]; exact q
 ·obtain ⟨m, q⟩ := u.tbls b ps q
  exact ⟨m, by rw [Zhy (fun z => by rw [z, ha] at q; cases q)]; exact q⟩
section
variable {P : Program} {w : World} {K : PySem.W.Frag} {mg : Str -> Option Value} {base : Heap} {N : List Str} {qual : Str} {scope : Scope} {f : Addr} {cd : Value} {A : Around} {outer : List Env} {s₀ : Shared} {H₀ : Hp} {E : XK}
def ZlY (X : Cx) (E : XK) : Prop := ∀ (pins : List (Addr × Obj)) (σ : St) (H1 : Hp) (s1 : Shared) (H3 : Hp) (s3 : Shared) (e C dx : Addr), Inv X pins σ H1 s1 -> s1.heap.get? e = none -> s3.os = s1.os -> AllBare s3.gens -> Un (frs X.stack) [] H1 H3 s1.heap s3.heap -> HOk X.prog X.w H3 s3.heap -> H3 e = some (ZkS e C dx) -> E (.ref C) (some dx) (dr H3 e) -> X.xe (.ref e) s3
theorem ZlZ : ZlY (ZmC (CXF P w) P w K mg base N qual scope f cd A outer s₀ H₀ E) E := by
 intro pins σ H1 s1 H3 s3 e C dx I hn hos hba hun hok he q
 generalize hX : ZmC (CXF P w) P w K mg base N qual scope f cd A outer s₀ H₀ E = X at I hun hok
 have hst : X.stack = envOfC qual scope s₀.heap.objs.size f cd :: outer := by rw [<- hX]; rfl
 obtain ⟨⟨oe, vs, eo, ec, ed, et, en, a0, e0⟩, _, _⟩ := (show Zer X.prog X.w H3 s3.heap e (ZkS e C dx) from hok e _ he)
 have un' := Zrl hun he
 have hok' := Zp2 hok he
 have J : Inv X pins σ (dr H3 e) s3 := I.call' (ch := []) hos un' hok' hba (fun b hb => nomatch hb)
 have B1 : ∀ b o, s3.heap.get? b = some o -> b ≠ e -> b ∉ frs X.stack -> (Zcb s3.heap (e :: frs X.stack)).get? b = some o := fun b o x hb hf => Zcc _ x fun z => by
  rcases Zag.mp z with z | z
  ·exact hb z
  ·exact hf z
 have F : Fl X.prog X.w X.stack H1 s1 (Zcb s3.heap (e :: frs X.stack)) (dr H3 e) s3 := by
  refine ⟨hos, hba, un', hok', fun b o x => Zcd _ x, fun b u x => ?_, fun b o x hb => ?_⟩
  ·obtain ⟨ob, eb⟩ := (hok' b u x).there
   exact ⟨ob, B1 b ob eb (ZlX x).1 fun z => by rw [J.stkFree b z] at x; cases x⟩
  ·obtain ⟨o', x'⟩ := un'.there b o x (fun z => nomatch z)
   exact ⟨o', B1 b o' x' (fun z => by rw [z, hn] at x; cases x) hb⟩
 have fr : s3.heap.FunFrames (Zcb s3.heap (e :: frs X.stack)) X.stack := PySem.W.funFrames_hide J.stack fun env he a ha => Zaf _ (Zam.mpr ⟨env, he, ha⟩)
 have hA : X.A.frames = some X.stack := I.ok.frames
 rw [hst] at fr hA F B1
 subst hX
 show wpAny _ _ (leaving _ (.ref e)) _ _ _
 refine wpAny_mono (ZgH (Zib _ _) (wpAny_leaving_firstW (a0 := a0) hA fr rfl eo (fun b o x => Zcd _ x) (Zce _ Zae) et en e0 (Q := fun _ s' => ∃ h', s' = { s3 with heap := h' } /\ Heap.LeftW (Zcb s3.heap (e :: frs (envOfC qual scope s₀.heap.objs.size f cd :: outer))) (envOfC qual scope s₀.heap.objs.size f cd :: outer) e oe.cls a0 s3.heap h') (E := fun _ _ => False) fun h' hL => ⟨h', rfl, hL⟩)) (fun _ s' z => ?_) fun _ _ z => z.1.elim
 obtain ⟨⟨h', rfl, hL⟩, dk⟩ := z
 obtain ⟨k1, ⟨_, _, k2⟩, k3, k4⟩ := hL
 have J2 := I.flown F k1 (h := h') k4
 obtain ⟨o', eo', ed', _⟩ := dk e oe eo
 refine ⟨e, oe.cls, a0, _, dr H3 e, dx, rfl, ⟨J2.os, J2.bare, J2.base, J2.hok, k1, F.trk, fun b o x hb => ?_⟩, ⟨k1, Zce _ Zae, k2, k3⟩, ⟨o', eo', ed'.trans ed⟩, by rw [ec]; exact q⟩
 obtain ⟨o1, e1⟩ := I.base.there b o x (fun z => nomatch z)
 exact F.old b o1 e1 (I.nst (I.oldNe x) hb)
end
end L2.Internal
namespace L2.Internal
open PySem PySem.Spec PyProof.Rows
theorem ZoI {K : PySem.W.Frag} {h : Heap} {N : Addr} {m : Str -> Option Value} {n : Str} {v : Value} (X : K.In h) (G : h.Ns N m) (z : ZcF K N n = some (some v)) : m n = some v := by
 obtain ⟨ob, en, ep, eo, ed, _, ef⟩ := G
 unfold ZcF at z
 split at z
 case h_2 => cases z
 rename_i c1 d1 en' n1 sl1 lk
 have g := X _ _ lk
 rw [eo] at g
 cases g
 cases ed
 split at z
 ·rename_i e1 fe
  cases z
  rw [<- ef]
  unfold nsFind findBy
  rw [<- Array.find?_toList, fe]
  rfl
 ·split at z <;> cases z
theorem Zp3 {fs : List Addr} {H : Hp} {h h' : Heap} {a : Addr} {o : HO} (k : ∀ b u, h.get? b = some u -> h'.get? b = some u) (hn : H a = none) (ha : h.get? a = none) : Un fs [] H (upd H a o) h h' := by
 refine ⟨fun b u q _ _ _ => k b u q, fun b u q _ _ _ => ⟨u.slots, k b u q⟩, fun b u q n _ => ?_, fun b u q _ => ⟨u, k b u q⟩, fun b xs q => ?_, fun b u xs q => ?_, fun b ps q => ?_⟩
 ·rw [Zdt (fun z => by rw [z, ha] at q; cases q)]; exact n
 ·rw [Zdt (Zdv q hn)]; exact q
 ·rw [Zdt (Zdv q hn)]; exact q
 ·exact ⟨#[], by rw [Zdt (Zdv q hn), q]; simp⟩
structure ZqK (K : PySem.W.Frag) (C fI : Addr) : Prop where
 at_ : ∃ bm N nm q bs hdct sn sub ab col dd k0 k1 k2 k3 k5, K.lookup C = some (excClassObj nm q C N bs bm hdct sn sub ab col dd k0 k1 k2 k3 k5 "ValueError.__new__") /\ ZcG K N = true /\ ZcF K N "__init__" = some (some (.ref fI)) /\ ZcH K ZmU bm = true
 fn : ∃ oI, K.lookup fI = some oI /\ oI.cls = .type "function"
section
variable {X : Cx} {C fI : Addr} {E : XK} {x : Str} {np cpos pos : Pos} {e : Expr} {es : List Expr} {t : TA} {k : Nat} {fd : FuncData} {ps : List Str} {sp : Sp}
def ZoJ (C : Addr) (sp : Sp) (E : XK) (t : TA) : TS := fun _ σ H => t σ H fun vs H1 => vs.length <= sizeLine /\ ∀ e, H1 e = none -> sp (.ref e :: vs) (upd H1 e (ZnI e C)) (fun v H3 => v = .non /\ ∃ dx, H3 e = some (ZkS e C dx) /\ E (.ref C) (some dx) (dr H3 e)) fun _ _ _ => False
theorem Zja (hc : X.calm = true) (hex : X.ex = []) (hl : ZlY X E) (xi : ZqK X.K C fI) (F : ZfA X.prog X.w X.K X.mg X.base CX0 k fI fd ps sp) (hr : Zgr (k + 1) X.A) (hb : Zex X.K fd ps []) (hg : Gl X x) (hm : X.mg x = some (.ref C)) (ha : PA X (e :: es) t)
  (hst : autoParam (starEach (e :: es) X.env = (false, eval e X.env) :: starEach es X.env) L2.Internal.auR._auto_1) (hpl : autoParam ((backTo cpos (starEach es X.env)).any (·.1) = false) L2.Internal.auR._auto_1) (hd : autoParam ((x == ("__debug__" : Str)) = false) L2.Internal.auD._auto_1) :
  PS X (.Raise (some (.Call (.Name x np) (e :: es) [] cpos)) none pos) (ZoJ C sp E t) := by
 intro pins s σ H D I h
 obtain ⟨bm, N, nm, q, bs, hdct, sn, sub, ab, col, dd, k0, k1, k2, k3, k5, lk, no, ni, tl⟩ := xi.at_
 obtain ⟨oI, lI, cI⟩ := xi.fn
 have kB : X.K.In X.base := I.mod.kin
 have kp : ∀ {s1 : Shared} {H1 : Hp}, Inv X pins σ H1 s1 -> ∀ b o, X.base.get? b = some o -> s1.heap.get? b = some o := fun I1 => I1.bk
 have NB : X.base.Ns N (X.base.nsMap N) := .of_isNs (PySem.W.isNs_of_in kB no)
 have TB : OwnTail X.base ZmU bm := PySem.W.tail_of_in kB tl
 refine Zm6 (C := C) (nm := nm) (q := q) (N := N) (bs := bs) (bm := bm) (hdct := hdct) (sn := sn) (sub := sub) (ab := ab) (col := col) (dd := dd) (k0 := k0) (k1 := k1) (k2 := k2) (k3 := k3) (k5 := k5) (fI := fI) (mN := X.base.nsMap N)
  ZcQ (TB.hasType ZcQ.hasBase) (I.ok.hd hc) ?_ (ZoI kB NB ni) (Zgm I hg hm ⟨rfl, ?_⟩ hd)
 ·rw [hst]
  show (false || (backTo cpos (starEach es X.env)).any (·.1)) = false
  rw [hpl]
  rfl
 have h2 := ha cpos pins s σ H _ I h
 rw [hst] at h2 ⊢
 refine Calls.evalArgs_plain (wpAny_mono h2 (fun us s1 h3 => ?_) fun _ _ z => z)
 obtain ⟨vs, H1, I1, r, hz, q1⟩ := h3
 refine ⟨rfl, by rw [<- r.length]; exact hz, kp I1 _ _ (kB _ _ lk), NB.keeps (kp I1), TB.keeps (kp I1), ⟨oI, kp I1 _ _ (kB _ _ lI), cI⟩, fun h' ea mx => ?_⟩
 obtain ⟨tt, et, tn, te⟩ := mx.there
 have hn1 : H1 ea = none := by
  cases z : H1 ea with
  | none => rfl
  | some u =>
   obtain ⟨ob, eb⟩ := (I1.hok ea u z).there
   rw [mx.new] at eb
   cases eb
 obtain ⟨z1, z2, z3, z4⟩ : X.s₀.heap.get? ea = none /\ ea ≠ X.env.locals /\ (∀ x c, X.env.cells.lookup x = some c -> c ≠ ea) /\ ∀ p ∈ X.pn ++ pins, p.1 ≠ ea := by
  rcases I1.newAddr mx.new with z | z
  ·exact z
  ·rw [hex] at z; cases z
 have I2 : Inv X pins σ (upd H1 ea (ZnI ea C)) { s1 with heap := h', toks := s1.toks } := (I1.kept (t' := s1.toks) mx.keeps).track hn1 z1 z2 z3 z4 (ZoF et rfl rfl rfl rfl rfl)
 have hq := q1 ea hn1
 have r2 : Zei (V.ref ea :: vs) (Value.ref ea :: us) := .cons rfl r
 have hlen : (Value.ref ea :: us).length = ps.length := by rw [<- r2.length]; exact F.len _ _ _ _ hq
 refine wpAny_call (codeAny_mono (F.run _ X.stack _ _ ⟨Value.ref ea :: us, []⟩ (Value.ref ea :: us) _ _ _ (hr.make C us []) (I2.env0.make C us []) (by have z := hb { s1 with heap := h', toks := s1.toks } (Value.ref ea :: us) I2.kIn (by rw [Zas]; exact hlen); rw [Zas] at z; exact z) r2 hq) fun rr s3 hq' => ?_)
 cases rr with
 | error ev => exact hq'.elim
 | ok fl =>
  cases fl with
  | next => exact False.elim hq'
  | brk => exact False.elim hq'
  | cont => exact False.elim hq'
  | ret u =>
   obtain ⟨v, H3, o3, b3, un3, hok3, rv, ev, dx, e3, q3⟩ := hq'
   subst ev
   have un13 : Un (frs X.stack) [] H1 H3 s1.heap s3.heap := (Zp3 mx.keeps hn1 mx.new).trans un3
   have J3 : Inv X pins σ H3 s3 := I1.call' (ch := []) o3 un13 hok3 b3 (fun b hb => nomatch hb)
   obtain ⟨⟨oe, ws, eo, ec, ed, et3, en, a0, e0⟩, _, _⟩ := (show Zer X.prog X.w H3 s3.heap ea (ZkS ea C dx) from hok3 ea _ e3)
   exact ⟨rv, kp J3 _ _ (kB _ _ lk), ⟨oe, eo, ec, ws, et3, en⟩, hl pins σ H1 s1 H3 s3 ea C dx I1 mx.new o3 b3 un13 hok3 e3 q3⟩
end
end L2.Internal
namespace L2.Internal
open PySem PySem.Spec PyProof.Rows
section
variable {X : Cx} {Y : Addr} {y n : Str} {py hpos : Pos} {b₀ : Stmt} {body : List Stmt} {tb : TS} {i : Nat}
noncomputable def Zl0 (K : PySem.W.Frag) (Y : Addr) (i : Nat) (tb : TS) (D : ZfS) (σ : St) : XK := fun cls od H2 => ∃ C dx, cls = .ref C /\ od = some dx /\ ZcI K cls (.ref Y) = some true /\
 ∀ ea, H2 ea = none -> tb { nx := fun σ' H' => D.nx (σ'.set i none) H', rt := D.rt, bk := fun σ' H' => D.bk (σ'.set i none) H', ct := fun σ' H' => D.ct (σ'.set i none) H' } (σ.set i (some (.ref ea))) (upd H2 ea (Zk2 ea C dx))
theorem Zl1 {pins : List (Addr × Obj)} {σ : St} {H : Hp} {s s' : Shared} {D : ZfS} {ev : Value} (hN : X.N.Nodup) (hi : X.N[i]? = some n) (hn : X.env.scope.names.lookup n = some .local) (hgY : Gl X y) (hmY : X.mg y = some (.ref Y)) (hy : (y == ("__debug__" : Str)) = false)
  (hfr : X.stack = X.env :: X.outer /\ X.env.frame = some X.env.locals) (hex : X.ex = []) (hb : ∀ ea, PSs (X.hand ea) (b₀ :: body) tb) (I : Inv X pins σ H s) (hx : CXF X.prog X.w X.stack H s (Zl0 X.K Y i tb D σ) ev s') :
  wpAny (model X.prog X.w) X.A (noteFrame ev X.env) (fun _ s2 => wpAny (model X.prog X.w) X.A (setFlight ev none) (fun _ s3 => wpAny (model X.prog X.w) X.A (handleBy ev X.env [.ExceptHandler (some (.Name y py)) (some n) (b₀ :: body) hpos]) (SP X pins D) X.xe s3) X.xe s2) X.xe s' := by
 obtain ⟨ea, cls, a0, B, H', dx, rfl, F, fl, ⟨ob, eob, edb⟩, C, dx2, rfl, hdx, hm, q⟩ := hx
 obtain rfl : dx2 = dx := (Zb4.inj hdx).symm
 have hA : X.A.frames = some (X.env :: X.outer) := by rw [<- hfr.1]; exact I.ok.frames
 have fl' := fl
 rw [hfr.1] at fl'
 refine wpAny_mono (ZgH (ZlS _ _) (wpAny_looks_onW (outer := X.outer) (Q := fun _ s2 => ∃ h4, s2 = { s' with heap := h4 } /\ Heap.HeldW B (X.env :: X.outer) ea (.ref C) a0 X.env.locals h4 /\ s'.heap.UpToSlots h4) (E := fun _ _ => False) hA hfr.2 fl' fun h4 a b => ⟨h4, rfl, a, b⟩)) (fun _ s2 z => ?_) fun _ _ z => z.1.elim
 obtain ⟨⟨h4, rfl, held4, up4⟩, dk4⟩ := z
 refine wpAny_mono (ZgH (ZfZ _ _) (wpAny_landsW (Q := fun _ s3 => ∃ h5, s3 = { s' with heap := h5 } /\ Heap.FlyingW B (X.env :: X.outer) ea (.ref C) a0 h5 /\ h4.UpToSlots h5) (E := fun _ _ => False) held4 fun h5 a b => ⟨h5, rfl, a, b⟩)) (fun _ s3 z => ?_) fun _ _ z => z.1.elim
 obtain ⟨⟨h5, rfl, fl5, up5⟩, dk5⟩ := z
 have I5 := I.flown F fl5.1 (up4.trans up5)
 obtain ⟨ob5, eo5, ec5⟩ := fl5.there
 have LT : PySem.W.Looks (model X.prog X.w) h5 (typeOf (.ref ea)) (.ref C) := by
  have z : PySem.W.Looks (model X.prog X.w) h5 (typeOf (.ref ea)) ob5.cls := (PySem.W.Looks.ld eo5).andThen .now
  rw [ec5] at z
  exact z
 refine wpAny_handleBy_cons (codeAny_handlers_test (Zgm (X := X.hand ea) (I5.hand ea) hgY hmY ?_ hy)) (by intro z; cases z)
 refine (PySem.W.exm_one I5.kIn LT hm) _ _ _ _ (fun _ _ z => z) ?_
 refine codeAny_handlers_suite_as ?_
 refine wpAny_mono (ZgH (ZfZ _ _) (lands_againW (Q := fun _ s6 => ∃ h6, s6 = { s' with heap := h6 } /\ Heap.FlyingW B (X.env :: X.outer) ea (.ref C) a0 h6 /\ h5.UpToSlots h6) (E := fun _ _ => False) fl5 fun h6 a b => ⟨h6, rfl, a, b⟩)) (fun _ s6 z => ?_) fun _ _ z => z.1.elim
 obtain ⟨⟨h6, rfl, fl6, up6⟩, dk6⟩ := z
 have I6 := I.flown F fl6.1 ((up4.trans up5).trans up6)
 obtain ⟨oe, ws, eo6, ec6, ed6, _⟩ := fl6.first
 have edd : oe.dict = some dx2 := by
  obtain ⟨o6, x6, y6, _⟩ := (dk4.trans (dk5.trans dk6)) ea ob eob
  have x6 : h6.get? ea = some o6 := x6
  rw [eo6] at x6
  cases x6
  exact y6.trans edb
 have Bn : B.get? ea = none := fl6.2.1
 have hn' : H' ea = none := by
  cases z : H' ea with
  | none => rfl
  | some u =>
   obtain ⟨o1, e1⟩ := F.trk ea u z
   rw [Bn] at e1
   cases e1
 have nfr : ea ∉ frs X.stack := fun z => by
  obtain ⟨_, o1, e1, hd⟩ := I6.stack.mem z
  have e2 : h6.get? ea = some o1 := e1
  rw [eo6] at e2
  cases e2
  exact hd ws ed6
 have olds : s.heap.get? ea = none := by
  cases z : s.heap.get? ea with
  | none => rfl
  | some o =>
   obtain ⟨o1, e1⟩ := F.old ea o z nfr
   rw [Bn] at e1
   cases e1
 obtain ⟨z1, z2, z3, z4⟩ : X.s₀.heap.get? ea = none /\ ea ≠ X.env.locals /\ (∀ x c, X.env.cells.lookup x = some c -> c ≠ ea) /\ ∀ p ∈ X.pn ++ pins, p.1 ≠ ea := by
  rcases I.newAddr olds with z | z
  ·exact z
  ·rw [hex] at z; cases z
 have I7 : Inv X pins σ (upd H' ea (Zk2 ea C dx2)) { s' with heap := h6 } := I6.track hn' z1 z2 z3 z4 (ZoH eo6 ec6 edd ed6)
 refine ZfJ (X := X.hand ea) (i := i) (v := .ref ea) (I7.hand ea) hN hi (.inl hn) rfl (fun s8 I8 => ?_) (.inr hn)
 refine wpAny_mono (hb ea pins s8 _ _ _ I8 (q ea hn')) (fun fw s9 h9 => ?_) fun _ _ z => z.elim
 have fin : ∀ {σ9 : St} {H9 : Hp} (Z : Shared -> Prop), Inv (X.hand ea) pins σ9 H9 s9 -> (∀ s10, Inv X pins (σ9.set i none) H9 s10 -> Z s10) -> wpAny (model X.prog X.w) X.A (do bindName X.env n .none; unbindBehindTheSuite X.env n hpos) (fun _ s10 => Z s10) X.xe s9 :=
  fun Z I9 hz => ZlG (I9.unhand I.ok) hN hi hn hz
 cases fw with
 | next =>
  obtain ⟨σ9, H9, I9, q9⟩ := h9
  exact fin (fun s10 => SP X pins D .next s10) I9 fun s10 I10 => ⟨_, H9, I10, q9⟩
 | brk =>
  obtain ⟨σ9, H9, I9, q9⟩ := h9
  exact fin (fun s10 => SP X pins D .brk s10) I9 fun s10 I10 => ⟨_, H9, I10, q9⟩
 | cont =>
  obtain ⟨σ9, H9, I9, q9⟩ := h9
  exact fin (fun s10 => SP X pins D .cont s10) I9 fun s10 I10 => ⟨_, H9, I10, q9⟩
 | ret u =>
  obtain ⟨v9, σ9, H9, I9, r9, q9⟩ := h9
  exact fin (fun s10 => SP X pins D (.ret u) s10) I9 fun s10 I10 => ⟨v9, _, H9, I10, r9, q9⟩
variable {k j : Nat} {f : Addr} {fd : FuncData} {ps : List Str} {sp : Sp} {dvs : List V} {ds : List Value} {x v : Str} {p pv pos pos' tpos : Pos} {e : Expr} {es : List Expr} {t : TA}
def Zm8 (K : PySem.W.Frag) (Y : Addr) (sp : Sp) (dvs : List V) (j i : Nat) (t : TA) (tb : TS) : TS := fun D σ H => t σ H fun vs H1 => sp (vs ++ dvs) H1 (fun u H2 => D.nx (σ.set j (some u)) H2) (Zl0 K Y i tb D σ)
theorem ZkT (F : ZfA X.prog X.w X.K X.mg X.base (CXF X.prog X.w) k f fd ps sp) (hr : Zgr k X.A) (hg : Gl X x) (hm : X.mg x = some (.ref f)) (hk : Zcw X.K (.ref f) = true) (hbd : Zex X.K fd ps ds) (hd : Zei dvs ds)
  (ha : PA X.nox (e :: es) t) (hN : X.N.Nodup) (hj : X.N[j]? = some v) (hv : X.env.scope.names.lookup v = some .local) (hi : X.N[i]? = some n) (hn : X.env.scope.names.lookup n = some .local) (hgY : Gl X y) (hmY : X.mg y = some (.ref Y))
  (hfr : X.stack = X.env :: X.outer /\ X.env.frame = some X.env.locals) (hex : X.ex = []) (hb : ∀ ea, PSs (X.hand ea) (b₀ :: body) tb)
  (hdb : autoParam ((x == ("__debug__" : Str)) = false) L2.Internal.auD._auto_1) (hdy : autoParam ((y == ("__debug__" : Str)) = false) L2.Internal.auD._auto_1) (he : autoParam (starEach (e :: es) X.env = (false, eval e X.env) :: starEach es X.env) L2.Internal.auR._auto_1) (hpl : autoParam ((backTo pos (starEach es X.env)).any (·.1) = false) L2.Internal.auR._auto_1)
  (hs : autoParam (swapsWith (.Call (.Name x p) (e :: es) [] pos) (some (.Name v pv)) pos'.line X.env = pure false) L2.Internal.auR._auto_1) :
  PS X (.Try [.Assign [.Name v pv] (.Call (.Name x p) (e :: es) [] pos) pos'] [.ExceptHandler (some (.Name y py)) (some n) (b₀ :: body) hpos] [] [] tpos) (Zm8 X.K Y sp dvs j i t tb) := by
 intro pins s σ H D I h
 refine wpAny_Try_except (wpAny_execs_cons (wpAny_Assign_Name (wpAny_Call_Name_kw (Zgm I hg hm ?_ hdb)) hs))
 refine Zcx (h₀ := X.base) I.ok.mod.kin hk (wpAny_mono (ha pos pins s σ H _ (I.wish _) h) (fun us s1 ⟨vs, H1, I1, r, q⟩ => ⟨I1.kIn, ?_⟩) fun _ _ z => z.elim) he hpl
 have I1' : Inv X pins σ H1 s1 := I1.unwish
 refine wpAny_mono (ZlH F hr hbd hd (fun ev s' hx => Zl1 (py := py) (hpos := hpos) hN hi hn hgY hmY hdy hfr hex hb I1' hx) I1' r q) (fun u s2 ⟨v2, H2, I2, r2, q2⟩ => ?_) fun _ _ z => z
 exact ZfJ I2 hN hj (.inl hv) r2 (fun s3 I3 => wpAny_execs_nil (wpAny_execs_nil ⟨_, H2, I3, q2⟩)) (.inr hv)
end
end L2.Internal
namespace L2.Internal
open PySem PySem.Spec PyProof.Rows
open Builtin Builtin.ObjectAttr
theorem Zhz {K : PySem.W.Frag} (self : Value) : ∀ {l : List Value}, ZcH K ZmU l = true -> refuseLoop self "__setattr__" l = pure ()
 | [], z => by cases (beq_iff_eq.mp z : ZmU = [])
 | v :: r, z => by
  unfold ZcH at z
  rcases Bool.or_eq_true_iff.mp z with q | q
  ·rw [beq_iff_eq.mp q]
   exact ZcP.passes self
  ·split at q
   ·rename_i A
    rw [refuseLoop_ref]
    split at q
    ·rename_i c d cd sl lk
     rw [Zc2] at q
     exact Zhz self q.2
    ·cases q
   ·cases q
section
variable {K : PySem.W.Frag} {C fI N : Addr} {nm q : Str} {bs bm : List Value} {sn : List Str} {sub : List Value} {ab : Bool} {col : Option Bool} {dd : Option Addr} {k0 k1 k2 k3 k5 : Option Value} {oI : Obj}
theorem ZnJ (lk : K.lookup C = some (excClassObj nm q C N bs bm true sn sub ab col dd k0 k1 k2 k3 k5 "ValueError.__new__")) (tl : ZcH K ZmU bm = true) (xc : Zju K C) (sa : Zci K (.ref C) "__setattr__" = some (some (.builtin "object.__setattr__"))) : ZlU K C := by
 refine ⟨xc, sa, _, by unfold ZcD; rw [lk], rfl, fun self => ?_⟩
 show refuseLoop self "__setattr__" (.ref C :: bm) = pure ()
 rw [refuseLoop_ref]
 exact Zhz self tl
theorem ZnK (lk : K.lookup C = some (excClassObj nm q C N bs bm true sn sub ab col dd k0 k1 k2 k3 k5 "ValueError.__new__")) (no : ZcG K N = true) (ni : ZcF K N "__init__" = some (some (.ref fI))) (tl : ZcH K ZmU bm = true) (lI : K.lookup fI = some oI) (cI : oI.cls = .type "function") : ZqK K C fI :=
 ⟨⟨bm, N, nm, q, bs, true, sn, sub, ab, col, dd, k0, k1, k2, k3, k5, lk, no, ni, tl⟩, ⟨oI, lI, cI⟩⟩
end
section
variable {P : Program} {w : World} {K : PySem.W.Frag} {mg : Str -> Option Value} {base : Heap}
theorem Fun.okF {x qual : Str} {st : Stmt} {f : Addr} {fd : FuncData} {N ps : List Str} {k : Nat} {sp : Sp} (F : Fun K x qual st f fd) (S : ZdW N ps (Zdy st)) (len : ∀ vs H Q E, sp vs H Q E -> vs.length = ps.length)
  (hbody : ∀ (cdv : Value) (A : Around) (outer : List Env) (s : Shared) (H : Hp) (vs : List V) (Q : VK) (E : XK), Zgr k (A.deeper (envOfC qual (Zdy st) s.heap.objs.size f cdv)) -> sp vs H Q E ->
   ∃ t, PSs (ZmC (CXF P w) P w K mg base N qual (Zdy st) f cdv A outer s H E) (ZdS st) t /\ t { nx := fun _ H' => Q .non H', rt := Q } (start N vs) H) : ZfA P w K mg base (CXF P w) (k + 1) f fd ps sp := by
 obtain ⟨oc, od, kV, doc, pm, an, cdv, ct, osl, efd, lk, hcd⟩ := F.ex
 subst efd
 exact ZpC lk hcd S len (fun A outer s H vs Q E hr h => hbody cdv A outer s H vs Q E hr h)
end
end L2.Internal
namespace L2.Internal
open PySem PySem.Spec PyProof.Rows
section
variable {prog : Program} {w : World} {A : Around} {E : Value -> Shared -> Prop} {s : Shared}
theorem Zhb : isSubtype (.type "range_iterator") (.type "reversed") = pure false := by rw [isSubtype_type]; kernel_rfl
noncomputable def Zjb (N : Int) : Obj := { cls := .type "range_iterator", data := .fields #[rawInt (N - 1), rawInt N, rawInt (-1)] }
theorem ZhX {r : Addr} {N : Int} {t u v : Tok} {Q : Value -> Shared -> Prop} (hr : IsRange s.heap r 0 N 1 t u v) (h0 : 0 <= N) (hn : N < 2 ^ 62)
  (h : Q (.ref s.heap.objs.size) { s with heap := s.heap.push (Zjb N) }) : wpAny (model prog w) A (call (.builtin "range.__reversed__") [.ref r]) Q E s := by
 have hT : s.TypeIs (.ref r) "range" := ⟨_, hr, rfl⟩
 refine wpAny_call_entry F.slot_range_reversed hT F.entry_range_reversed ?_ (F.args_range_reversed_1 _)
 unfold Builtin.«range.__reversed__»
 refine wpAny_bind (wpAny_of_eq (a := Value.ref r) rfl ?_)
 unfold Builtin.Range.rangeFields
 refine wpAny_bind ?_
 refine wpAny_bind (wpAny_field hr rfl (x := .int 0 t) rfl ?_)
 refine wpAny_bind (m := asInt? _) (wpAny_of_eq (a := some (0 : Int)) rfl ?_)
 refine wpAny_bind (wpAny_field hr rfl (x := .int N u) rfl ?_)
 refine wpAny_bind (m := asInt? _) (wpAny_of_eq (a := some N) rfl ?_)
 refine wpAny_bind (wpAny_field hr rfl (x := .int 1 v) rfl ?_)
 refine wpAny_bind (m := asInt? _) (wpAny_of_eq (a := some (1 : Int)) rfl ?_)
 refine wpAny_pure ?_
 have e1 : Builtin.Range.rangeSize 0 N 1 = N := by rw [rangeSize_one]; split <;> omega
 have e2 : (Builtin.Range.rangeFitsLong 0 && Builtin.Range.rangeFitsLong N && Builtin.Range.rangeFitsLong 1 && Builtin.Range.rangeFitsLong (-1) && Builtin.Range.rangeFitsLong (0 - 1) && Builtin.Range.rangeFitsLong N) = true := by
  have : Builtin.Range.rangeFitsLong N = true := by
   unfold Builtin.Range.rangeFitsLong
   rw [Zc2]
   exact ⟨decide_eq_true (by omega), decide_eq_true (by omega)⟩
  rw [this]
  decide +kernel
 dsimp only
 rw [e1, e2]
 rw [if_neg (show ¬ (!true) = true from by decide), if_pos rfl, show (0 : Int) + (N - 1) * 1 = N - 1 by omega]
 unfold newFields
 exact wpAny_bind (wpAny_newObj_type (wpAny_pure ⟨_, rfl, h⟩))
theorem ZgK {r : Addr} {N : Int} {t u v : Tok} {Q₁ : Value -> Shared -> Prop} (hr : IsRange s.heap r 0 N 1 t u v) (h0 : 0 <= N) (hn : N < 2 ^ 62)
  (h : Q₁ (.ref s.heap.objs.size) { s with heap := s.heap.push (Zjb N) }) :
  codeAny (model prog w) A (.call (.builtin "reversed.__new__") ⟨[.type "reversed", .ref r], []⟩) (wants Q₁ E) s := by
 have hT : s.TypeIs (.ref r) "range" := ⟨_, hr, rfl⟩
 refine codeAny_of_tree ?_; show wpAny _ A.in1 (checkBuiltinCall "reversed.__new__" ⟨[.type "reversed", .ref r], []⟩ >>= fun _ => again (.builtin "reversed.__new__" ⟨[.type "reversed", .ref r], []⟩)) _ _ s
 refine wpAny_bind (wpAny_of_eq (F.newCall_reversed_1 _) (wpAny_pure ⟨plainId_quiet F.plain_reversed_new _, codeAny_builtin F.entry_reversed_new ?_⟩)); rw [Around.under_plainId F.plain_reversed_new _]; unfold Builtin.«reversed.__new__»; refine wpAny_bind (wpAny_of_eq (newClass_reversed _) ?_)
 (try dsimp only); refine wpAny_bind (wpAny_of_eq (a := ()) rfl ?_); refine wpAny_bind (wpAny_of_eq (a := ()) rfl ?_); (try dsimp only); refine wpAny_bind (wpAny_specialOf hT F.slot_range_reversed.lookup ?_); (try dsimp only); refine wpAny_bind (wpAny_of_eq (F.slot_range_reversed.bind _) ?_); (try dsimp only)
 have hne : ¬ ((Value.builtin "range.__reversed__" == Value.none) = true) := ZcY; rw [if_neg hne]; refine wpAny_bind (wpAny_rule ?_)
 refine wpAny_bind (m := runValue (.call (.builtin "range.__reversed__") ⟨[.ref r], []⟩)) (show wpAny _ _ (call (.builtin "range.__reversed__") [.ref r]) _ _ _ from ZhX hr h0 hn ?_); exact wpAny_pure h
theorem Zgu {r : Addr} {N : Int} {t u v : Tok} {Q : Value -> Shared -> Prop} (hr : IsRange s.heap r 0 N 1 t u v) (h0 : 0 <= N) (hn : N < 2 ^ 62)
  (h : Q (.ref s.heap.objs.size) { s with heap := s.heap.push (Zjb N) }) : wpAny (model prog w) A (call (.type "reversed") [.ref r]) Q E s := by
 refine callType_other (U := "range_iterator") (Q₁ := fun obj s₁ => obj = .ref s.heap.objs.size /\ s₁ = { s with heap := s.heap.push (Zjb N) }) (by decide +kernel) F.create_reversed ⟨_, _, F.mro_reversed⟩ F.made_reversed Zhb (F.typeCall_reversed_1 _) (ZgK hr h0 hn ⟨rfl, rfl⟩) ?_
 rintro obj s₁ ⟨rfl, rfl⟩
 exact ⟨⟨_, Zdf _ rfl, rfl⟩, h⟩
end
noncomputable def Itd (n : Nat) : It := ⟨fun i _ => i < n, fun i H x H' => H' = H /\ x = .int ((n - 1 - i : Nat) : Int), fun i _ => n <= i⟩
theorem Zl2 {P : Program} {w : World} {K : PySem.W.Frag} {tg : Expr} (it : Addr) (n : Nat) : Znw P w K tg (Itd n) [it] it (fun i h => IsRangeIter h it ((n : Int) - 1 + (i : Nat) * -1) ((n : Int) - (i : Nat)) (-1)) where
 mem := by simp
 obj := fun i h st b hb => by
  have e : b = it := by simpa using hb
  subst e
  exact ⟨_, st, fun v z => by
   have z' : Data.fields _ = Data.cell v := z
   cases z'⟩
 keep := fun i h h' st k => k it (by simp) _ st
 item := by
  intro X hP hw hK hc i pins s σ H E I hf st hg
  subst hP hw hK
  obtain ⟨f0, f1, f2, f3, f4, f5⟩ := hf it (by simp)
  have W := Walks.range (prog := X.prog) (w := X.w) (I.ok.hd hc) it ((n : Int) - 1) (-1) n
  refine W.item i s _ _ hg st fun v h' tk hv st' kk => ?_
  obtain ⟨t, rfl⟩ := hv
  have I1 : Inv X pins σ H { s with heap := h', toks := tk } := I.turned (fun b o hb e => kk b o (by simpa using hb) e) f0 f1 f3 f4 f5
  have hg : i < n := hg
  refine ⟨_, rfl, Zlb (s := { s with heap := h', toks := tk }) (n := "range_iterator") st' rfl rfl (by decide) ⟨.int ((n - 1 - i : Nat) : Int), H, I1, ⟨t, ?_⟩, ⟨rfl, rfl⟩, st', fun b hb => (hf b hb).1⟩⟩
  rw [show (n : Int) - 1 + (i : Int) * -1 = ((n - 1 - i : Nat) : Int) by omega]
 done := by
  intro X hP hw hK hc i pins s σ H E I hf st hg
  subst hP hw hK
  obtain ⟨f0, f1, f2, f3, f4, f5⟩ := hf it (by simp)
  exact wpAny_pyNext_range_end (I.ok.hd hc) st (by have : n <= i := hg; omega) fun h' eb => ⟨rfl, I.turned (t' := s.toks) (fun b o hb e => eb b o hb e) f0 f1 f3 f4 f5⟩
 self := fun _ _ _ _ _ st h => wpAny_pyIter_rangeiter st h
section
variable {X : Cx}
def Zrm (ta : TA) : TI := fun σ H R => ta σ H fun vs H1 => ∃ n : Nat, vs = [.int (n : Int)] /\ n <= 100000 /\ R (Itd n) H1
theorem Zl3 {tg : Expr} {a : Expr} {ta : TA} {p pos p2 pos2 : Pos} (hg : Gl X "reversed") (hm : X.mg "reversed" = none) (hg2 : Gl X "range") (hm2 : X.mg "range" = none) (ha : PA X [a] ta)
  (hs : autoParam (starEach [a] X.env = [(false, eval a X.env)]) L2.Internal.auR._auto_1) (hs2 : autoParam (starEach [.Call (.Name "range" p2) [a] [] pos2] X.env = [(false, eval (.Call (.Name "range" p2) [a] [] pos2) X.env)]) L2.Internal.auR._auto_1) :
  PI X tg (.Call (.Name "reversed" p) [.Call (.Name "range" p2) [a] [] pos2] [] pos) (Zrm ta) := by
 intro pins s σ H R I h
 refine Call_ (ZfT I hg hm Zgt (Zdl ?_ hs2 rfl))
 rw [hs2]
 refine Calls.spliced_cons ?_
 refine Call_ (ZfT I hg2 hm2 boot_range (Zdl (thn (ha pos2 pins s σ H _ I h) fun us s1 ⟨vs, H1, I1, r1, q1⟩ => ?_) hs rfl))
 obtain ⟨n, e, hn, q⟩ := q1
 subst e
 obtain ⟨u, rfl, ru⟩ := ZgX r1
 obtain ⟨t, rfl⟩ := ru
 refine call_range_1 ?_
 refine Calls.spliced_nil ?_
 refine Zgu (IsRange.new ..) (by omega) (by omega) ?_
 have sz : ∀ o : Obj, (s1.heap.push o).objs.size = s1.heap.objs.size + 1 := fun o => Zdi ..
 have st : IsRangeIter ((s1.heap.push { cls := .type "range", data := .fields #[.int 0 s1.toks, .int (n : Int) t, .int 1 (s1.toks + 1)] }).push (Zjb (n : Int))) (s1.heap.objs.size + 1) ((n : Int) - 1 + ((0 : Nat) : Int) * -1) ((n : Int) - ((0 : Nat) : Int)) (-1) := by
  rw [show (n : Int) - 1 + ((0 : Nat) : Int) * -1 = (n : Int) - 1 by omega, show (n : Int) - ((0 : Nat) : Int) = (n : Int) by omega, <- sz { cls := .type "range", data := .fields #[.int 0 s1.toks, .int (n : Int) t, .int 1 (s1.toks + 1)] }]
  exact Zdf _ rfl
 rw [sz]
 refine wpAny_pyIter_rangeiter st ?_
 refine ⟨s1.heap.objs.size + 1, [s1.heap.objs.size + 1], _, _, H1, rfl, I1.kept fun b o e => Zdh _ (Zdh _ e), Zl2 _ n, st, fun b hb => ?_, q⟩
 have e : b = s1.heap.objs.size + 1 := by simpa using hb
 subst e
 exact I1.fpOk (ZbZ _) (I1.hok.fresh (ZbZ _))
end
section
variable {X : Cx}
theorem Zl4 (hc : X.calm = true) : Zg8 X (.builtin "sum") (fun xs H Q => ∃ (a : Addr) (ns : List Int), xs = [.ref a] /\ SqL X.K H a (ns.map V.int) /\ Q (.int ns.sum) H) := by
 intro pins s σ H xs us Q I r h
 obtain ⟨a, ns, rfl, hq, q⟩ := h
 obtain ⟨u, rfl, ru⟩ := ZgX r
 cases ru
 obtain ⟨its, rv, p, hz⟩ := I.list hq
 obtain ⟨zs, e⟩ := (Zh4 rv).allInts.items
 have l := p.isList
 rw [e] at l
 have hn : ∀ j, numAt zs j = ns.getD j 0 := fun j => by
  have h1 : its.toArray[j]? = (intItems zs)[j]? := by rw [e]
  by_cases hj : j < ns.length
  ·obtain ⟨v, hv, rv'⟩ := rv.get (show (ns.map V.int)[j]? = some (.int ns[j]) by rw [Zaz, Za0 hj]; rfl)
   obtain ⟨t, rfl⟩ := rv'
   rw [Zbc, hv] at h1
   obtain ⟨t2, e2⟩ := intItems_at h1.symm
   injection e2 with e2 _
   rw [<- e2, Za3, Za0 hj]
   rfl
  ·have hlen := rv.length
   rw [Zar] at hlen
   rw [Zbc, Zba (by omega)] at h1
   have h2 : zs[j]? = none := by
    simp only [intItems, Array.getElem?_map] at h1
    cases h3 : zs[j]? with
    | none => rfl
    | some z => rw [h3] at h1; cases h1
   rw [Za3, Zba (by omega)]
   simp [numAt, h2]
 have hsz : zs.size = ns.length := by
  have h1 := congrArg Array.size e
  simp only [intItems, ZaI, Array.size_map] at h1
  have hlen := rv.length
  rw [Zar] at hlen
  omega
 have pre : ∀ j, j <= ns.length -> preSum (numAt zs) j = (ns.take j).sum := fun j => by
  induction j with
  | zero => intro _; simp [preSum]
  | succ j ih =>
   intro hj
   rw [preSum, ih (by omega), hn, Zbd, Za0 (show j < ns.length by omega), Zbe, Za3, Za0 (show j < ns.length by omega)]
   simp
 refine sum_intListG (I.ok.hd hc) l fun h2 tk t2 hk => ⟨.int ns.sum, H, I.kept (t' := tk) hk, ⟨t2, ?_⟩, q⟩
 rw [hsz, pre ns.length (ZbV _), Zbf]
end
end L2.Internal
namespace L2.Internal
open PySem PySem.Spec PyProof.Rows
section
variable {P : Program} {w : World} {K : PySem.W.Frag} {mg : Str -> Option Value} {base : Heap} {N : List Str} {qual : Str} {scope : Scope} {f : Addr} {cd : Value} {A : Around} {outer : List Env} {s₀ : Shared} {H₀ : Hp} {E : XK}
theorem Zp4 : Zhn (CXF P w) (ZmC (CXF P w) P w K mg base N qual scope f cd A outer s₀ H₀ E) E := by
 intro pins σ H s e s' I hx
 obtain ⟨ea, cls, a0, B, H', dx, rfl, F, fl, ⟨ob, eob, edb⟩, q⟩ := hx
 show wpAny _ _ (leaving _ (.ref ea)) _ _ s'
 refine wpAny_mono (ZgH (Zib _ _) (wpAny_leaves_onW (outer := outer) (Q := fun _ s2 => ∃ h', s2 = { s' with heap := h' } /\ Heap.FlyingW B outer ea cls a0 h' /\ s'.heap.UpToSlots h') (E := fun _ _ => False) I.ok.frames rfl fl fun h' fl' up => ⟨h', rfl, fl', up⟩)) (fun _ s2 z => ?_) fun _ _ z => z.1.elim
 obtain ⟨⟨h', rfl, fl', up⟩, dk⟩ := z
 have J := I.flown F fl'.1 up
 obtain ⟨o', eo', ed', _⟩ := dk ea ob eob
 refine ⟨ea, cls, a0, B, H', dx, rfl, ⟨J.os, J.bare, J.base, J.hok, fl'.1, F.trk, fun b o x hb => ?_⟩, fl', ⟨o', eo', ed'.trans edb⟩, q⟩
 obtain ⟨o1, e1⟩ := I.base.there b o x (fun z => nomatch z)
 exact F.old b o1 e1 (I.nst (I.oldNe x) hb)
end
end L2.Internal
namespace L2.Internal
open PySem PySem.Spec PyProof.Rows
section
variable {X : Cx} {i : Nat} {Y : Addr} {y n : Str} {py hpos : Pos} {b₀ : Stmt} {body : List Stmt} {tb : TS}
variable {k : Nat} {f : Addr} {fd : FuncData} {ps : List Str} {sp : Sp} {dvs : List V} {ds : List Value} {x : Str} {p pos pos' tpos : Pos} {e : Expr} {es : List Expr} {t : TA}
def ZoK (K : PySem.W.Frag) (Y : Addr) (sp : Sp) (dvs : List V) (i : Nat) (t : TA) (tb : TS) : TS := fun D σ H => t σ H fun vs H1 => sp (vs ++ dvs) H1 (fun _ H2 => D.nx σ H2) (Zl0 K Y i tb D σ)
theorem Zl5 (F : ZfA X.prog X.w X.K X.mg X.base (CXF X.prog X.w) k f fd ps sp) (hr : Zgr k X.A) (hg : Gl X x) (hm : X.mg x = some (.ref f)) (hk : Zcw X.K (.ref f) = true) (hbd : Zex X.K fd ps ds) (hd : Zei dvs ds)
  (ha : PA X.nox (e :: es) t) (hN : X.N.Nodup) (hi : X.N[i]? = some n) (hn : X.env.scope.names.lookup n = some .local) (hgY : Gl X y) (hmY : X.mg y = some (.ref Y))
  (hfr : X.stack = X.env :: X.outer /\ X.env.frame = some X.env.locals) (hex : X.ex = []) (hb : ∀ ea, PSs (X.hand ea) (b₀ :: body) tb)
  (hdb : autoParam ((x == ("__debug__" : Str)) = false) L2.Internal.auD._auto_1) (hdy : autoParam ((y == ("__debug__" : Str)) = false) L2.Internal.auD._auto_1) (he : autoParam (starEach (e :: es) X.env = (false, eval e X.env) :: starEach es X.env) L2.Internal.auR._auto_1) (hpl : autoParam ((backTo pos (starEach es X.env)).any (·.1) = false) L2.Internal.auR._auto_1)
  (hs : autoParam (swapsWith (.Call (.Name x p) (e :: es) [] pos) none pos'.line X.env = pure false) L2.Internal.auR._auto_1) :
  PS X (.Try [.Expr (.Call (.Name x p) (e :: es) [] pos) pos'] [.ExceptHandler (some (.Name y py)) (some n) (b₀ :: body) hpos] [] [] tpos) (ZoK X.K Y sp dvs i t tb) := by
 intro pins s σ H D I h
 refine wpAny_Try_except (wpAny_execs_cons (wpAny_Expr_any (wpAny_Call_Name_kw (Zgm I hg hm ?_ hdb)) I.quiet hs))
 refine Zcx (h₀ := X.base) I.ok.mod.kin hk (wpAny_mono (ha pos pins s σ H _ (I.wish _) h) (fun us s1 ⟨vs, H1, I1, r, q⟩ => ⟨I1.kIn, ?_⟩) fun _ _ z => z.elim) he hpl
 have I1' : Inv X pins σ H1 s1 := I1.unwish
 refine wpAny_mono (ZlH F hr hbd hd (fun ev s' hx => Zl1 (py := py) (hpos := hpos) hN hi hn hgY hmY hdy hfr hex hb I1' hx) I1' r q) (fun u s2 ⟨v2, H2, I2, _, q2⟩ => ?_) fun _ _ z => z
 exact wpAny_execs_nil (wpAny_execs_nil ⟨σ, H2, I2, q2⟩)
theorem Zl6 : Zg8 X (.builtin "isinstance") (fun xs H Q => ∃ ea D dx v c b, xs = [.ref ea, v] /\ (∀ u, ZeB v u -> u = c) /\ H ea = some (Zk2 ea D dx) /\ Zju X.K D /\ Zcs X.K (.ref D) c = some b /\ Q (.bl b) H) := by
 intro pins s σ H xs us Q I r h
 obtain ⟨ea, D, dx, v, c, b, rfl, hc, he, C, hk, q⟩ := h
 obtain ⟨u, u', rfl, ru, ru'⟩ := ZmK r
 cases hc u' ru'
 cases ru
 obtain ⟨⟨o, vs, eo, ec, _, _⟩, _, _⟩ := (show Zer X.prog X.w H s.heap ea (Zk2 ea D dx) from I.hok ea _ he)
 exact Zct (Zm2 C) I.kIn ⟨o, eo, ec⟩ hk (fun z => nomatch z) fun tk => ⟨.bl b, H, I.tok tk, rfl, q⟩
end
end L2.Internal
namespace K14.Internal
open PySem L2.Internal
theorem l0 {P : List Value -> Prop} (h : P []) : ∀ us : List Value, us.length = 0 -> P us := fun us e => by rw [Zbg e]; exact h
theorem lS {n : Nat} {P : List Value -> Prop} (h : ∀ a, ∀ us : List Value, us.length = n -> P (a :: us)) : ∀ us : List Value, us.length = n + 1 -> P us := fun us e => by
 cases us with
 | nil => cases e
 | cons a t => exact h a t (Nat.succ.inj e)
noncomputable def top (i : Nat) : Stmt := PySem.Challenge.pw_flowkinds_k14_asked_again.main.body.getD i (.Pass ⟨0, 0, 0, 0⟩)
noncomputable abbrev Zfd : Stmt := top 6
noncomputable abbrev ZeW : Stmt := top 7
noncomputable abbrev ZhA : Stmt := top 8
noncomputable abbrev ZeX : Stmt := top 9
noncomputable abbrev ZeL : Stmt := top 12
noncomputable abbrev ZeM : Stmt := top 13
noncomputable abbrev ZeY : Stmt := top 14
noncomputable abbrev Zfe : Stmt := top 16
noncomputable abbrev Zel : Stmt := top 17
noncomputable abbrev ZeN : Stmt := top 18
noncomputable abbrev Zfx : Stmt := top 19
noncomputable abbrev ZeD : Stmt := top 20
noncomputable abbrev Zem : Stmt := top 21
noncomputable abbrev Zfy : Stmt := top 22
noncomputable abbrev ZeZ : Stmt := top 26
noncomputable abbrev ZeO : Stmt := top 27
noncomputable abbrev Zff : Stmt := top 28
noncomputable abbrev ZeE : Stmt := top 29
noncomputable abbrev Ze0 : Stmt := top 30
noncomputable abbrev Zen : Stmt := top 31
noncomputable abbrev Zeo : Stmt := top 32
noncomputable abbrev ZeP : Stmt := top 33
noncomputable abbrev Zfg : Stmt := top 34
noncomputable abbrev Zep : Stmt := top 35
noncomputable abbrev ZeQ : Stmt := top 36
noncomputable abbrev Zeq : Stmt := top 37
noncomputable abbrev Zip : Stmt := top 38
noncomputable abbrev Zd7 : Stmt := ZjG (top 3) 0
noncomputable abbrev ZdZ : Stmt := ZjG (top 4) 0
noncomputable abbrev Zd3 : Stmt := ZjG (top 24) 0
set_option genInjectivity false in
set_option genSizeOf false in
structure Txt (K : PySem.W.Frag) (mg : Str -> Option Value) where
 t_MOST_WEIGHT : Tok
 m_MOST_WEIGHT : mg "MOST_WEIGHT" = some (.int 60 t_MOST_WEIGHT)
 a_parts_of : Addr
 fd_parts_of : FuncData
 F_parts_of : Fun K "parts_of" "parts_of" Zfd a_parts_of fd_parts_of
 b_parts_of : Zex K fd_parts_of ["row"] []
 m_parts_of : mg "parts_of" = some (.ref a_parts_of)
 k_parts_of : Zcw K (.ref a_parts_of) = true
 a_places_in : Addr
 fd_places_in : FuncData
 F_places_in : Fun K "places_in" "places_in" ZeW a_places_in fd_places_in
 b_places_in : Zex K fd_places_in ["row"] []
 m_places_in : mg "places_in" = some (.ref a_places_in)
 k_places_in : Zcw K (.ref a_places_in) = true
 a_flat : Addr
 fd_flat : FuncData
 F_flat : Fun K "flat" "flat" ZhA a_flat fd_flat
 b_flat : Zex K fd_flat ["parts"] []
 m_flat : mg "flat" = some (.ref a_flat)
 k_flat : Zcw K (.ref a_flat) = true
 a_stands_in : Addr
 fd_stands_in : FuncData
 F_stands_in : Fun K "stands_in" "stands_in" ZeX a_stands_in fd_stands_in
 b_stands_in : Zex K fd_stands_in ["program", "place", "number"] []
 m_stands_in : mg "stands_in" = some (.ref a_stands_in)
 k_stands_in : Zcw K (.ref a_stands_in) = true
 a_weights_of : Addr
 fd_weights_of : FuncData
 F_weights_of : Fun K "weights_of" "weights_of" ZeL a_weights_of fd_weights_of
 b_weights_of : Zex K fd_weights_of ["program", "homes"] []
 m_weights_of : mg "weights_of" = some (.ref a_weights_of)
 k_weights_of : Zcw K (.ref a_weights_of) = true
 a_inside_out : Addr
 fd_inside_out : FuncData
 F_inside_out : Fun K "inside_out" "inside_out" ZeM a_inside_out fd_inside_out
 b_inside_out : Zex K fd_inside_out ["rows", "root"] []
 m_inside_out : mg "inside_out" = some (.ref a_inside_out)
 k_inside_out : Zcw K (.ref a_inside_out) = true
 a_weight_of : Addr
 fd_weight_of : FuncData
 F_weight_of : Fun K "weight_of" "weight_of" ZeY a_weight_of fd_weight_of
 b_weight_of : Zex K fd_weight_of ["program", "homes", "place", "weights"] []
 m_weight_of : mg "weight_of" = some (.ref a_weight_of)
 k_weight_of : Zcw K (.ref a_weight_of) = true
 a_homes_of : Addr
 fd_homes_of : FuncData
 F_homes_of : Fun K "homes_of" "homes_of" Zfe a_homes_of fd_homes_of
 b_homes_of : Zex K fd_homes_of ["program"] []
 m_homes_of : mg "homes_of" = some (.ref a_homes_of)
 k_homes_of : Zcw K (.ref a_homes_of) = true
 a_refuse_twice : Addr
 fd_refuse_twice : FuncData
 F_refuse_twice : Fun K "refuse_twice" "refuse_twice" Zel a_refuse_twice fd_refuse_twice
 b_refuse_twice : Zex K fd_refuse_twice ["words"] []
 m_refuse_twice : mg "refuse_twice" = some (.ref a_refuse_twice)
 k_refuse_twice : Zcw K (.ref a_refuse_twice) = true
 a_words_once : Addr
 fd_words_once : FuncData
 F_words_once : Fun K "words_once" "words_once" ZeN a_words_once fd_words_once
 b_words_once : Zex K fd_words_once ["row"] []
 m_words_once : mg "words_once" = some (.ref a_words_once)
 k_words_once : Zcw K (.ref a_words_once) = true
 a_home_of : Addr
 fd_home_of : FuncData
 F_home_of : Fun K "home_of" "home_of" Zfx a_home_of fd_home_of
 b_home_of : Zex K fd_home_of ["row", "place", "scope"] []
 m_home_of : mg "home_of" = some (.ref a_home_of)
 k_home_of : Zcw K (.ref a_home_of) = true
 a_root_scopes : Addr
 fd_root_scopes : FuncData
 F_root_scopes : Fun K "root_scopes" "root_scopes" ZeD a_root_scopes fd_root_scopes
 b_root_scopes : Zex K fd_root_scopes ["program"] []
 m_root_scopes : mg "root_scopes" = some (.ref a_root_scopes)
 k_root_scopes : Zcw K (.ref a_root_scopes) = true
 a_inner_scopes : Addr
 fd_inner_scopes : FuncData
 F_inner_scopes : Fun K "inner_scopes" "inner_scopes" Zem a_inner_scopes fd_inner_scopes
 b_inner_scopes : Zex K fd_inner_scopes ["row", "scope"] []
 m_inner_scopes : mg "inner_scopes" = some (.ref a_inner_scopes)
 k_inner_scopes : Zcw K (.ref a_inner_scopes) = true
 a_widened : Addr
 fd_widened : FuncData
 F_widened : Fun K "widened" "widened" Zfy a_widened fd_widened
 b_widened : Zex K fd_widened ["scope", "name", "home"] []
 m_widened : mg "widened" = some (.ref a_widened)
 k_widened : Zcw K (.ref a_widened) = true
 a_stem : Addr
 fd_stem : FuncData
 F_stem : Fun K "_law_stem" "_law_stem" ZeZ a_stem fd_stem
 b_stem : Zex K fd_stem ["_law_cell", "_law_size"] []
 m_stem : mg "_law_stem" = some (.ref a_stem)
 k_stem : Zcw K (.ref a_stem) = true
 a_words : Addr
 fd_words : FuncData
 F_words : Fun K "_law_words" "_law_words" ZeO a_words fd_words
 b_words : Zex K fd_words ["_law_cell"] []
 m_words : mg "_law_words" = some (.ref a_words)
 k_words : Zcw K (.ref a_words) = true
 a_row : Addr
 fd_row : FuncData
 F_row : Fun K "_law_row" "_law_row" Zff a_row fd_row
 b_row : Zex K fd_row ["_law_op", "_law_more", "_law_kids"] []
 m_row : mg "_law_row" = some (.ref a_row)
 k_row : Zcw K (.ref a_row) = true
 a_stands : Addr
 fd_stands : FuncData
 F_stands : Fun K "_law_stands" "_law_stands" ZeE a_stands fd_stands
 b_stands : Zex K fd_stands ["_law_words_here", "_law_cell", "_law_held", "_law_room"] []
 m_stands : mg "_law_stands" = some (.ref a_stands)
 k_stands : Zcw K (.ref a_stands) = true
 a_home : Addr
 fd_home : FuncData
 F_home : Fun K "_law_home" "_law_home" Ze0 a_home fd_home
 b_home : Zex K fd_home ["_law_held", "_law_stands_here"] []
 m_home : mg "_law_home" = some (.ref a_home)
 k_home : Zcw K (.ref a_home) = true
 a_program : Addr
 fd_program : FuncData
 F_program : Fun K "_law_program" "_law_program" Zen a_program fd_program
 b_program : Zex K fd_program ["_law_words_here", "_law_seed", "_law_cells"] []
 m_program : mg "_law_program" = some (.ref a_program)
 k_program : Zcw K (.ref a_program) = true
 a_weights : Addr
 fd_weights : FuncData
 F_weights : Fun K "_law_weights" "_law_weights" Zeo a_weights fd_weights
 b_weights : Zex K fd_weights ["_law_rows", "_law_roots", "_law_due", "_law_kids"] []
 m_weights : mg "_law_weights" = some (.ref a_weights)
 k_weights : Zcw K (.ref a_weights) = true
 a_alike : Addr
 fd_alike : FuncData
 F_alike : Fun K "_law_alike" "_law_alike" ZeP a_alike fd_alike
 b_alike : Zex K fd_alike ["_law_found", "_law_due"] []
 m_alike : mg "_law_alike" = some (.ref a_alike)
 k_alike : Zcw K (.ref a_alike) = true
 a_put : Addr
 fd_put : FuncData
 F_put : Fun K "_law_put" "_law_put" Zfg a_put fd_put
 b_put : Zex K fd_put ["_law_kept", "_law_new"] []
 m_put : mg "_law_put" = some (.ref a_put)
 k_put : Zcw K (.ref a_put) = true
 a_numbers : Addr
 fd_numbers : FuncData
 F_numbers : Fun K "_law_numbers" "_law_numbers" Zep a_numbers fd_numbers
 b_numbers : Zex K fd_numbers ["_law_found", "_law_due"] []
 m_numbers : mg "_law_numbers" = some (.ref a_numbers)
 k_numbers : Zcw K (.ref a_numbers) = true
 a_asked : Addr
 fd_asked : FuncData
 F_asked : Fun K "_law_asked" "_law_asked" ZeQ a_asked fd_asked
 b_asked : Zex K fd_asked ["_law_program_here", "_law_homes", "_law_drawn"] []
 m_asked : mg "_law_asked" = some (.ref a_asked)
 k_asked : Zcw K (.ref a_asked) = true
 a_refused : Addr
 fd_refused : FuncData
 F_refused : Fun K "_law_refused" "_law_refused" Zeq a_refused fd_refused
 b_refused : Zex K fd_refused ["_law_program_here", "_law_drawn", "_law_mix"] []
 m_refused : mg "_law_refused" = some (.ref a_refused)
 k_refused : Zcw K (.ref a_refused) = true
 a_FlowError : Addr
 m_FlowError : mg "FlowError" = some (.ref a_FlowError)
 x_FlowError : ExcV K a_FlowError
 a_Twice : Addr
 m_Twice : mg "Twice" = some (.ref a_Twice)
 a_NoName : Addr
 m_NoName : mg "NoName" = some (.ref a_NoName)
 a_NoName___init__ : Addr
 fd_NoName___init__ : FuncData
 F_NoName___init__ : Fun K "__init__" "NoName.__init__" Zd7 a_NoName___init__ fd_NoName___init__
 b_NoName___init__ : Zex K fd_NoName___init__ ["self", "word", "place"] []
 xi_NoName : ZqK K a_NoName a_NoName___init__
 xs_NoName : ZlU K a_NoName
 xf_NoName_word : Zci K (.ref a_NoName) "word" = some none
 xf_NoName_place : Zci K (.ref a_NoName) "place" = some none
 a_TooHeavy : Addr
 m_TooHeavy : mg "TooHeavy" = some (.ref a_TooHeavy)
 a_TooHeavy___init__ : Addr
 fd_TooHeavy___init__ : FuncData
 F_TooHeavy___init__ : Fun K "__init__" "TooHeavy.__init__" ZdZ a_TooHeavy___init__ fd_TooHeavy___init__
 b_TooHeavy___init__ : Zex K fd_TooHeavy___init__ ["self", "word"] []
 xi_TooHeavy : ZqK K a_TooHeavy a_TooHeavy___init__
 xs_TooHeavy : ZlU K a_TooHeavy
 xf_TooHeavy_word : Zci K (.ref a_TooHeavy) "word" = some none
 a_Program : Addr
 m_Program : mg "Program" = some (.ref a_Program)
 cl_Program : Cls K a_Program
 ty_Program : ∀ (H : Hp) (a dx : Addr) (fs : List (Str × V)), H a = some (.ins a_Program dx fs) -> ZjB K H (.ref a) (.ref a_Program)
 n_Program_names : ZfV K a_Program "names"
 n_Program_roots : ZfV K a_Program "roots"
 n_Program_rows : ZfV K a_Program "rows"
 a_Program___init__ : Addr
 fd_Program___init__ : FuncData
 F_Program___init__ : Fun K "__init__" "Program.__init__" Zd3 a_Program___init__ fd_Program___init__
 b_Program___init__ : Zex K fd_Program___init__ ["self", "names", "roots", "rows"] []
 mk_Program : Mk K a_Program a_Program___init__
 e_TooHeavy_TooHeavy : ZcI K (.ref a_TooHeavy) (.ref a_TooHeavy) = some true
 e_NoName_FlowError : ZcI K (.ref a_NoName) (.ref a_FlowError) = some true
 i_NoName_NoName : Zcs K (.ref a_NoName) (.ref a_NoName) = some true
 z_ValueError : mg "ValueError" = none
 z_bool : mg "bool" = none
 z_dict : mg "dict" = none
 z_enumerate : mg "enumerate" = none
 z_int : mg "int" = none
 z_isinstance : mg "isinstance" = none
 z_len : mg "len" = none
 z_list : mg "list" = none
 z_max : mg "max" = none
 z_range : mg "range" = none
 z_reversed : mg "reversed" = none
 z_str : mg "str" = none
 z_sum : mg "sum" = none
 z_tuple : mg "tuple" = none
 z_zip : mg "zip" = none
theorem ZjS : ZdW ["row"] ["row"] (Zdy Zfd) := ⟨rfl, rfl, rfl, by decide +kernel, rfl, by decide +kernel, by decide +kernel⟩
theorem Zjc : ZdW ["row"] ["row"] (Zdy ZeW) := ⟨rfl, rfl, rfl, by decide +kernel, rfl, by decide +kernel, by decide +kernel⟩
theorem Ziq : ZdW ["parts", "found", "part"] ["parts"] (Zdy ZhA) := ⟨rfl, rfl, rfl, by decide +kernel, rfl, by decide +kernel, by decide +kernel⟩
theorem Zg5 : ZdW ["program", "place", "number", "behind"] ["program", "place", "number"] (Zdy ZeX) := ⟨rfl, rfl, rfl, by decide +kernel, rfl, by decide +kernel, by decide +kernel⟩
theorem Ze6 : ZdW ["program", "homes", "weights", "number", "root", "place"] ["program", "homes"] (Zdy ZeL) := ⟨rfl, rfl, rfl, by decide +kernel, rfl, by decide +kernel, by decide +kernel⟩
theorem Zft : ZdW ["rows", "root", "found", "ahead", "place"] ["rows", "root"] (Zdy ZeM) := ⟨rfl, rfl, rfl, by decide +kernel, rfl, by decide +kernel, by decide +kernel⟩
theorem Zg6 : ZdW ["program", "homes", "place", "weights", "home"] ["program", "homes", "place", "weights"] (Zdy ZeY) := ⟨rfl, rfl, rfl, by decide +kernel, rfl, by decide +kernel, by decide +kernel⟩
theorem Zfh : ZdW ["program", "scopes", "homes", "place", "row", "scope"] ["program"] (Zdy Zfe) := ⟨rfl, rfl, rfl, by decide +kernel, rfl, by decide +kernel, by decide +kernel⟩
theorem Zfz : ZdW ["words", "seen", "word"] ["words"] (Zdy Zel) := ⟨rfl, rfl, rfl, by decide +kernel, rfl, by decide +kernel, by decide +kernel⟩
theorem Zir : ZdW ["row"] ["row"] (Zdy ZeN) := ⟨rfl, rfl, rfl, by decide +kernel, rfl, by decide +kernel, by decide +kernel⟩
theorem ZkU : ZdW ["row", "place", "scope"] ["row", "place", "scope"] (Zdy Zfx) := ⟨rfl, rfl, rfl, by decide +kernel, rfl, by decide +kernel, by decide +kernel⟩
theorem Zef : ZdW ["program", "scopes", "earlier", "number", "name", "root", "later"] ["program"] (Zdy ZeD) := ⟨rfl, rfl, rfl, by decide +kernel, rfl, by decide +kernel, by decide +kernel⟩
theorem Ze7 : ZdW ["row", "scope", "scopes", "place", "arm"] ["row", "scope"] (Zdy Zem) := ⟨rfl, rfl, rfl, by decide +kernel, rfl, by decide +kernel, by decide +kernel⟩
theorem Zic : ZdW ["scope", "name", "home", "wider"] ["scope", "name", "home"] (Zdy Zfy) := ⟨rfl, rfl, rfl, by decide +kernel, rfl, by decide +kernel, by decide +kernel⟩
theorem Ze2 : ZdW ["_law_cell", "_law_size", "_law_signs", "_law_stem_here", "_law_k"] ["_law_cell", "_law_size"] (Zdy ZeZ) := ⟨rfl, rfl, rfl, by decide +kernel, rfl, by decide +kernel, by decide +kernel⟩
theorem ZdU : ZdW ["_law_cell", "_law_size", "_law_manner", "_law_stem_here", "_law_place", "_law_words_here", "_law_k", "_law_word"] ["_law_cell"] (Zdy ZeO) := ⟨rfl, rfl, rfl, by decide +kernel, rfl, by decide +kernel, by decide +kernel⟩
theorem ZjT : ZdW ["_law_op", "_law_more", "_law_kids"] ["_law_op", "_law_more", "_law_kids"] (Zdy Zff) := ⟨rfl, rfl, rfl, by decide +kernel, rfl, by decide +kernel, by decide +kernel⟩
theorem Zd9 : ZdW ["_law_words_here", "_law_cell", "_law_held", "_law_room", "_law_op", "_law_arg", "_law_one", "_law_plain", "_law_step", "_law_many", "_law_marks", "_law_arms"] ["_law_words_here", "_law_cell", "_law_held", "_law_room"] (Zdy ZeE) := ⟨rfl, rfl, rfl, by decide +kernel, rfl, by decide +kernel, by decide +kernel⟩
theorem Zfm : ZdW ["_law_held", "_law_stands_here", "_law_home_here", "_law_word", "_law_place"] ["_law_held", "_law_stands_here"] (Zdy Ze0) := ⟨rfl, rfl, rfl, by decide +kernel, rfl, by decide +kernel, by decide +kernel⟩
theorem ZdB : ZdW ["_law_words_here", "_law_seed", "_law_cells", "_law_names", "_law_roots", "_law_kinds", "_law_kids", "_law_due", "_law_todo", "_law_front", "_law_cell", "_law_held", "_law_word", "_law_how", "_law_parent", "_law_depth", "_law_place", "_law_stands_here", "_law_hole", "_law_rows"] ["_law_words_here", "_law_seed", "_law_cells"] (Zdy Zen) := ⟨rfl, rfl, rfl, by decide +kernel, rfl, by decide +kernel, by decide +kernel⟩
theorem ZdR : ZdW ["_law_rows", "_law_roots", "_law_due", "_law_kids", "_law_ends", "_law_place", "_law_spent", "_law_which", "_law_alone", "_law_home_here", "_law_root"] ["_law_rows", "_law_roots", "_law_due", "_law_kids"] (Zdy Zeo) := ⟨rfl, rfl, rfl, by decide +kernel, rfl, by decide +kernel, by decide +kernel⟩
theorem ZfN : ZdW ["_law_found", "_law_due", "_law_one", "_law_other"] ["_law_found", "_law_due"] (Zdy ZeP) := ⟨rfl, rfl, rfl, by decide +kernel, rfl, by decide +kernel, by decide +kernel⟩
theorem ZjU : ZdW ["_law_kept", "_law_new"] ["_law_kept", "_law_new"] (Zdy Zfg) := ⟨rfl, rfl, rfl, by decide +kernel, rfl, by decide +kernel, by decide +kernel⟩
theorem Zf0 : ZdW ["_law_found", "_law_due", "_law_one"] ["_law_found", "_law_due"] (Zdy Zep) := ⟨rfl, rfl, rfl, by decide +kernel, rfl, by decide +kernel, by decide +kernel⟩
theorem ZdX : ZdW ["_law_program_here", "_law_homes", "_law_drawn", "_law_names", "_law_roots", "_law_rows", "_law_due", "_law_kids", "_law_found", "_law_weights_here", "_law_heavy", "_law_told", "_law_caught", "error"] ["_law_program_here", "_law_homes", "_law_drawn"] (Zdy ZeQ) := ⟨rfl, rfl, rfl, by decide +kernel, rfl, by decide +kernel, by decide +kernel⟩
theorem Zew : ZdW ["_law_program_here", "_law_drawn", "_law_mix", "_law_places", "_law_place", "_law_caught", "error"] ["_law_program_here", "_law_drawn", "_law_mix"] (Zdy Zeq) := ⟨rfl, rfl, rfl, by decide +kernel, rfl, by decide +kernel, by decide +kernel⟩
theorem Zfr : ZdW ["_law_script", "_law_seed", "_law_words_here", "_law_half", "_law_one", "_law_two", "_law_program_here", "_law_homes", "_law_held", "_law_mix", "_law_drawn", "_law_told", "_law_kept", "_law_copied"] ["_law_script"] (Zdy Zip) := ⟨rfl, rfl, rfl, by decide +kernel, rfl, by decide +kernel, by decide +kernel⟩
theorem ZgL : ZdW ["self", "word", "place"] ["self", "word", "place"] (Zdy Zd7) := ⟨rfl, rfl, rfl, by decide +kernel, rfl, by decide +kernel, by decide +kernel⟩
theorem Zge : ZdW ["self", "word"] ["self", "word"] (Zdy ZdZ) := ⟨rfl, rfl, rfl, by decide +kernel, rfl, by decide +kernel, by decide +kernel⟩
theorem Zgv : ZdW ["self", "names", "roots", "rows"] ["self", "names", "roots", "rows"] (Zdy Zd3) := ⟨rfl, rfl, rfl, by decide +kernel, rfl, by decide +kernel, by decide +kernel⟩
def Zkk (K : PySem.W.Frag) : Sp := fun vs H Q _ => ∃ (a : Addr) (ns : List Int), vs = [.ref a] /\ SqL K H a (ns.map V.int) /\ ns.length <= 63 /\ ∀ H', Q (.bl true) H'
open BO.Internal
seal L2.Internal.PE L2.Internal.PA L2.Internal.PS L2.Internal.PSs L2.Internal.PT L2.Internal.PI
theorem ZdP {H H2 : Hp} {l : Addr} (s : ZdH H H2) (h : H l = none) (o : HO) : ZdH H (upd H2 l o) := fun b u e => by rw [Zdt (Zdv e h)]; exact s b u e
theorem Zm9 {x : Str} {j : Int} (h0 : 0 <= j) (h1 : j <= x.length) : (Txt.slice x none (some j)).cps.toList = x.cps.toList.take j.toNat := by
 have e : Txt.slice x none (some j) = ⟨((x.cps.toList.drop (0 : Int).toNat).take (j - 0).toNat).toArray⟩ := eq_of_beq (PyProof.Rows.slice_closes_to ⟨h0, h1⟩)
 rw [e]
 show ((x.cps.toList.drop 0).take (j - 0).toNat) = _
 rw [Za7, Int.sub_zero]
theorem Zl7 {x : Str} {j : Int} (h0 : 0 <= j) (h1 : j <= x.length) : (Txt.slice x (some j) none).cps.toList = x.cps.toList.drop j.toNat := by
 have e : Txt.slice x (some j) none = ⟨((x.cps.toList.drop j.toNat).take ((x.cps.toList.length : Int) - j).toNat).toArray⟩ := eq_of_beq (PyProof.Rows.slice_closes_from ⟨h0, h1⟩)
 rw [e]
 show ((x.cps.toList.drop j.toNat).take ((x.cps.toList.length : Int) - j).toNat) = _
 rw [Za8]
 rw [ZaJ]
 omega
theorem sg36 : ("abcdefghijklmnopqrstuvwxyz0123456789" : Str).cps.toList.length = 36 := by decide +kernel
theorem Zed (c : Nat) : (⟨#[c]⟩ : Str).length = 1 := rfl
noncomputable def sgn (k : Nat) : Nat := ("abcdefghijklmnop" : Str).cps.toList.getD k 0
noncomputable def w1 (A B : Str) (k : Nat) : Str := A ++ ⟨#[sgn k]⟩ ++ B
noncomputable def t7 (z : Int) : Nat := (atI ("t7" : Str).cps.toList z).getD 0
noncomputable def w2 (x : Str) (k : Nat) : Str := x ++ ⟨#[t7 ((0 + (k : Int)) % 2)]⟩ ++ ⟨#[t7 ((0 + (k : Int)) / 2 % 2)]⟩ ++ ⟨#[t7 ((0 + (k : Int)) / 4 % 2)]⟩ ++ ⟨#[t7 ((0 + (k : Int)) / 8)]⟩
noncomputable def w3 (x : Str) (c : Nat) (k : Nat) : Str := if 7 < k then (⟨#[c]⟩ : Str) ++ Txt.slice (Txt.slice x none (some (5 + (0 + (k : Int)) % 8))) (some 1) none else Txt.slice x none (some (5 + (0 + (k : Int)) % 8))
theorem ZoL {l : List Nat} {i : Nat} (h : i < l.length) : atI l (0 + (i : Int)) = some (l.getD i 0) := by
 rw [Zdb, Za3, Za0 h]
 exact Zdw (Za0 h)
theorem Zis (a b : Str) : (a ++ b).cps.toList = a.cps.toList ++ b.cps.toList := Array.toList_append
theorem ZhB {f : Nat -> Str} (h : ∀ a, a < 16 -> ∀ b, b < 16 -> a ≠ b -> f a ≠ f b) : ((Zaa 16).map f).Nodup := by
 rw [List.Nodup, Zbh]
 refine List.Pairwise.imp_of_mem (fun {a b} ha hb hlt => ?_) Zbi
 exact h a (Zac.mp ha) b (Zac.mp hb) (ZbR hlt)
theorem Zp5 : ∀ a, a < 16 -> ∀ b, b < 16 -> a ≠ b -> sgn a ≠ sgn b := by decide +kernel
theorem Zp6 : ∀ a : Nat, a < 16 -> ∀ b : Nat, b < 16 -> a ≠ b -> [t7 ((0 + (a : Int)) % 2), t7 ((0 + (a : Int)) / 2 % 2), t7 ((0 + (a : Int)) / 4 % 2), t7 ((0 + (a : Int)) / 8)] ≠ [t7 ((0 + (b : Int)) % 2), t7 ((0 + (b : Int)) / 2 % 2), t7 ((0 + (b : Int)) / 4 % 2), t7 ((0 + (b : Int)) / 8)] := by decide +kernel
theorem Zna (A B : Str) : ((Zaa 16).map (w1 A B)).Nodup := ZhB fun a ha b hb hn e => by
 have h := congrArg (fun z : Str => z.cps.toList) e
 simp only [w1, Zis] at h
 have h2 := Zbj (List.append_cancel_right h)
 injection h2 with h3 _
 exact Zp5 a ha b hb hn h3
theorem Znb (x : Str) : ((Zaa 16).map (w2 x)).Nodup := ZhB fun a ha b hb hn e => by
 have h := congrArg (fun z : Str => z.cps.toList) e
 simp only [w2, Zis, ZaP] at h
 have h2 := Zbj h
 exact Zp6 a ha b hb hn h2
theorem ZnL {x : Str} {c k : Nat} (hx : x.length = 12) : (w3 x c k).cps.toList = if 7 < k then c :: (x.cps.toList.take (5 + k % 8)).drop 1 else x.cps.toList.take (5 + k % 8) := by
 have e : (5 + (0 + (k : Int)) % 8) = ((5 + k % 8 : Nat) : Int) := by omega
 have a1 : (Txt.slice x none (some (5 + (0 + (k : Int)) % 8))).cps.toList = x.cps.toList.take (5 + k % 8) := by
  rw [e, Zm9 (by omega) (by omega), Zda]
 unfold w3
 by_cases h : 7 < k
 ·rw [if_pos h, if_pos h, Zis, Zl7 (by decide) (by
   have hx' : x.cps.toList.length = 12 := hx
   show (1 : Int) <= ((Txt.slice x none (some (5 + (0 + (k : Int)) % 8))).cps.toList.length : Nat)
   rw [a1, Zaw, hx']
   omega), a1]
  rfl
 ·rw [if_neg h, if_neg h, a1]
theorem Zl8 {x : Str} {c k : Nat} (hx : x.length = 12) : (w3 x c k).cps.toList.length = 5 + k % 8 := by
 have hx' : x.cps.toList.length = 12 := hx
 rw [ZnL hx]
 by_cases h : 7 < k
 ·rw [if_pos h, Zao, ZaJ, Zaw, hx']
  omega
 ·rw [if_neg h, Zaw, hx']
  omega
theorem Znc {x : Str} {c c0 : Nat} (hx : x.length = 12) (h0 : x.cps.toList[0]? = some c0) (hc : c ≠ c0) : ((Zaa 16).map (w3 x c)).Nodup := ZhB fun a ha b hb hn e => by
 have h := congrArg (fun z : Str => z.cps.toList) e
 have hl := congrArg List.length h
 simp only [Zl8 hx] at hl
 have hd := congrArg (fun z : List Nat => z[0]?) h
 simp only [ZnL hx] at hd
 have t0 : ∀ n : Nat, (x.cps.toList.take (5 + n % 8))[0]? = some c0 := fun n => by
  rw [List.getElem?_take, if_pos (by omega)]
  exact h0
 by_cases h1 : 7 < a
 ·by_cases h2 : 7 < b
  ·omega
  ·rw [if_pos h1, if_neg h2, t0, Zbk] at hd
   exact hc (Zb4.inj hd)
 ·by_cases h2 : 7 < b
  ·rw [if_neg h1, if_pos h2, t0, Zbk] at hd
   exact hc (Zb4.inj hd).symm
  ·omega
theorem ZkV {f : Nat -> Str} (i : Nat) : (Zaa (i + 1)).map f = (Zaa i).map f ++ [f i] := by
 rw [Zbl, ZaV]
 rfl
def Wd (H : Hp) (l : Addr) (ws : List Str) : Prop := H l = some (.lst (ws.map V.str)) /\ ws.length = 16 /\ ws.Nodup /\ ∀ x ∈ ws, x.length <= 300 /\ 5 <= x.length
section
variable {P : Program} {w : World} {K : PySem.W.Frag} {mg : Str -> Option Value} {base : Heap}
theorem Zrn {j : Nat} {M n : Int} {σ : St} {H : Hp} {Q : Bool -> Hp -> Prop} (hv : σ[j]? = some (some (.int M))) (h : M = n) (q : Q true H) : cT (tOp (cEq false) (cV j) (tC (.int n))) σ H Q := by
 show onV σ[j]? _
 rw [hv]
 show Q (false ^^ decide (M = n)) H
 rw [decide_eq_true h]
 exact q
theorem Zro {j : Nat} {M n : Int} {σ : St} {H : Hp} {Q : Bool -> Hp -> Prop} (hv : σ[j]? = some (some (.int M))) (h : M ≠ n) (q : Q false H) : cT (tOp (cEq false) (cV j) (tC (.int n))) σ H Q := by
 show onV σ[j]? _
 rw [hv]
 show Q (false ^^ decide (M = n)) H
 rw [decide_eq_false h]
 exact q
theorem cTG {j : Nat} {M n : Int} {σ : St} {H : Hp} {Q : Bool -> Hp -> Prop} (hv : σ[j]? = some (some (.int M))) (q : Q (decide (n < M)) H) : cT (tOp (cI0 fun i j => V.bl (decide (j < i))) (cV j) (tC (.int n))) σ H Q := by
 show onV σ[j]? _
 rw [hv]
 exact q
theorem Zp7 {j : Nat} {M n : Int} {A B : TS} {D : ZfS} {σ : St} {H : Hp} (hv : σ[j]? = some (some (.int M))) (h : M = n) (q : A D σ H) : ZiL (cT (tOp (cEq false) (cV j) (tC (.int n)))) A B D σ H := Zrn hv h (Zfq q)
theorem Zp8 {j : Nat} {M n : Int} {A B : TS} {D : ZfS} {σ : St} {H : Hp} (hv : σ[j]? = some (some (.int M))) (h : M ≠ n) (q : B D σ H) : ZiL (cT (tOp (cEq false) (cV j) (tC (.int n)))) A B D σ H := Zro hv h (Zet q)
theorem Zrp {j : Nat} {M n : Int} {A B : TS} {D : ZfS} {σ : St} {H : Hp} (hv : σ[j]? = some (some (.int M))) (h : n < M) (q : A D σ H) : ZiL (cT (tOp (cI0 fun i j => V.bl (decide (j < i))) (cV j) (tC (.int n)))) A B D σ H := cTG hv (by rw [decide_eq_true h]; exact Zfq q)
theorem Zrq {j : Nat} {M n : Int} {A B : TS} {D : ZfS} {σ : St} {H : Hp} (hv : σ[j]? = some (some (.int M))) (h : ¬ n < M) (q : B D σ H) : ZiL (cT (tOp (cI0 fun i j => V.bl (decide (j < i))) (cV j) (tC (.int n)))) A B D σ H := cTG hv (by rw [decide_eq_false h]; exact Zet q)
theorem Zp9 {j : Nat} {M n : Int} {A B u : TS} {D : ZfS} {σ : St} {H : Hp} (hv : σ[j]? = some (some (.int M))) (h : M = n) (q : A { D with nx := u D } σ H) : Zjs (ZiL (cT (tOp (cEq false) (cV j) (tC (.int n)))) A B) u D σ H := Zp7 hv h q
theorem Zqa {j : Nat} {M n : Int} {A B u : TS} {D : ZfS} {σ : St} {H : Hp} (hv : σ[j]? = some (some (.int M))) (h : M ≠ n) (q : B { D with nx := u D } σ H) : Zjs (ZiL (cT (tOp (cEq false) (cV j) (tC (.int n)))) A B) u D σ H := Zp8 hv h q
def Zjd : Sp := fun vs H Q _ => ∃ (c : Int) (m : Nat), vs = [.int c, .int (m : Int)] /\ 1 <= m /\ m <= 100 /\ ∀ x : Str, x.length = m -> Q (.str x) H
theorem Zje (T : Txt K mg) : ZfA P w K mg base CX0 1 T.a_stem T.fd_stem ["_law_cell", "_law_size"] Zjd := by
 refine T.F_stem.ok Ze2 (fun vs H Q E h => ?_) (fun cdv A outer s H vs Q E hr h => ?_)
 ·obtain ⟨c, m, rfl, _⟩ := h
  rfl
 obtain ⟨c, m, rfl, h0, h1, q⟩ := h
 refine ⟨_, (Zdo (ZdE (i := 2) Ze2.nd rfl (.inl rfl) ZdJ)
  (Zdo (ZdE (i := 3) Ze2.nd rfl (.inl rfl) (ZdG ZgG (cv 2) (ZdF Zd8 (cv 0) Zds) (fun _ _ => rfl)))
  (Zdo (Zfa PassesOwn.never rfl (Zeu rfl T.z_range (Zdn (ZdF ZfR (cv 1) Zds) Zdq)) (ZdQ (i := 4) Ze2.nd rfl (.inl rfl))
   (Zdo (ZdE (i := 0) Ze2.nd rfl (.inl rfl) (ZdF ZeC (cv 0) Zds))
   (Zdu (ZdE (i := 3) Ze2.nd rfl (.inl rfl) (ZdF ZfY (cv 3) (ZdG ZgG (cv 2) (ZdF Zd8 (cv 0) Zds) (fun _ _ => rfl)))))))
  (Zdu (ZdL (cv 3)))))), ?_⟩
 have sl : sizeLine = 16777216 := sizeLine_eq
 have step : ∀ (c n : Int), (n = 26 \/ n = 36) -> ∃ ch : Nat, atI ("abcdefghijklmnopqrstuvwxyz0123456789" : Str).cps.toList (c % n) = some ch := fun c n hn => by
  have hp : (0 : Int) < n := by omega
  have a0 := Zdc c (Int.ne_of_gt hp)
  have a1 := Zdd c hp
  obtain ⟨ch, e, _⟩ := Zi5 ("abcdefghijklmnopqrstuvwxyz0123456789" : Str).cps.toList (c % n) a0 (by rw [sg36]; omega)
  exact ⟨ch, e⟩
 obtain ⟨ch, e⟩ := step c 26 (.inl rfl)
 refine ⟨(by show (0 : Int) < 26; decide), sz (by decide +kernel), Zdx e ⟨_, rfl, by omega, by omega, Zhm (fun i σ H2 => ∃ (y : Str) (c : Int) (o : Option V), σ = [some (.int c), some (.int (m : Int)), some (.str "abcdefghijklmnopqrstuvwxyz0123456789"), some (.str y), o] /\ H2 = H /\ y.length = i + 1)
  ⟨_, c, none, rfl, rfl, rfl⟩ ?_ ?_⟩⟩
 ·rintro i σ H2 hi ⟨y, c, o, rfl, rfl, hy⟩
  obtain ⟨ch, e⟩ := step (c / 36) 36 (.inr rfl)
  exact ⟨⟨by decide, by decide⟩, (by show (0 : Int) < 36; decide), sz (by decide +kernel), Zdx e ⟨by rw [Zed]; omega, _, _, _, rfl, rfl, by rw [Str.length_append, Zed]; omega⟩⟩
 ·rintro σ H2 ⟨y, c, o, rfl, rfl, hy⟩
  exact q y (by omega)
def Zit : Sp := fun vs H Q _ => ∃ c : Int, vs = [.int c] /\ ∀ l ws H', ZdH H H' -> H l = none -> Wd H' l ws -> Q (.ref l) H'
theorem Ziu (T : Txt K mg) : ZfA P w K mg base CX0 2 T.a_words T.fd_words ["_law_cell"] Zit := by
 have G_stem := Zje (P := P) (w := w) (base := base) T
 refine T.F_words.ok ZdU (fun vs H Q E h => ?_) (fun cdv A outer s H vs Q E hr h => ?_)
 ·obtain ⟨c, rfl, _⟩ := h
  rfl
 obtain ⟨c, rfl, q⟩ := h
 refine ⟨_, (Zdo (ZdE (i := 0) ZdU.nd rfl (.inl rfl) (ZdF Zd8 (ZdF Zgl (ZdF Zez (ZdF Zd8 (cv 0) (ZdF Zh9 Zds Zds)) Zds) Zds) (ZdF Zez (ZdF Zh9 Zds Zds) Zds)))
  (Zdo (ZdE (i := 1) ZdU.nd rfl (.inl rfl) (ZdF Zez (ZdF Zd8 (cv 0) Zds) Zds))
  (Zdo (ZdE (i := 2) ZdU.nd rfl (.inl rfl) (ZdF Zd8 (ZdF ZeC (cv 0) Zds) Zds))
  (Zdo (ZdE (i := 3) ZdU.nd rfl (.inl rfl) (ZdO G_stem (hr.mono (by decide)) rfl T.m_stem T.k_stem T.b_stem .nil ZeG (Zdn (ZdF ZeC (cv 0) Zds) (Zdn Zds Zdq))))
  (Zdo (ZdE (i := 4) ZdU.nd rfl (.inl rfl) (ZdF Zd8 (ZdF ZeC (cv 0) Zds) (ZdF Zez (cv 1) Zds)))
  (Zdo (ZdE (i := 5) ZdU.nd rfl (.inl rfl) (ZdN Zdq))
  (Zdo (Zfa PassesOwn.never rfl (Zeu rfl T.z_range (Zdn Zds Zdq)) (ZdQ (i := 6) ZdU.nd rfl (.inl rfl))
   (Zdo (ZdE (i := 7) ZdU.nd rfl (.inl rfl) (ZeV Zh6 (cv 3) Zfv (Zfb (cv 1))))
   (Zdo (Zd0 (ZdA ZeH (cv 2) Zds (ZdK _))
    (Zdu (ZdE (i := 7) ZdU.nd rfl (.inl rfl) (ZdF ZfY (ZdF ZfY (ZeV Zh6 (cv 7) Zfv (Zfb (cv 4))) (ZdG ZgG ZdJ (cv 6) (fun _ _ => rfl))) (ZeV Zh6 (cv 7) (Zfb (cv 4)) Zfv))))
    (Zdu (Zd0 (ZdA ZeH (cv 2) Zds (ZdK _))
     (Zdo (ZdE (i := 7) ZdU.nd rfl (.inl rfl) (ZdF ZfY (ZdF ZfY (ZeV Zh6 (cv 7) Zfv (Zfb (ZdF ZfR (cv 1) Zds))) (ZdG ZgG ZdJ (ZdF Zd8 (cv 6) Zds) (fun _ _ => rfl))) (ZdG ZgG ZdJ (ZdF Zd8 (ZdF ZeC (cv 6) Zds) Zds) (fun _ _ => rfl))))
     (Zdu (ZdE (i := 7) ZdU.nd rfl (.inl rfl) (ZdF ZfY (ZdF ZfY (cv 7) (ZdG ZgG ZdJ (ZdF Zd8 (ZdF ZeC (cv 6) Zds) Zds) (fun _ _ => rfl))) (ZdG ZgG ZdJ (ZdF ZeC (cv 6) Zds) (fun _ _ => rfl))))))
     (Zdo (ZdE (i := 7) ZdU.nd rfl (.inl rfl) (ZeV Zh6 (cv 3) Zfv (Zfb (ZdF Zez Zds (ZdF Zd8 (cv 6) Zds)))))
     (Zdu (Zd0 (ZdA Zhx (cv 6) Zds (ZdK _))
      (Zdu (ZdE (i := 7) ZdU.nd rfl (.inl rfl) (ZdF ZfY (ZdG ZgG ZdJ (Zfl ZiO rfl T.z_int Zi2 (Zdn (Zgo ZeH (ZdG ZgG (cv 3) Zds (fun _ _ => rfl)) ZdJ (ZdK _)) Zdq)) (fun _ _ => rfl)) (ZeV Zh6 (cv 7) (Zfb Zds) Zfv))))
      ZdI))))))
   (Zdu (Zd6 (Zfc (ZfW ZcR ZcS ZcT Zee (PE.mono (cv 5)) (Zdn (PE.mono (cv 7)) Zdq))))))))
  (Zdu (ZdL (cv 5)))))))))), ?_⟩
 have sl : sizeLine = 16777216 := sizeLine_eq
 refine ⟨⟨by decide, by decide, by decide⟩, (by show (0 : Int) < 10 ^ (24 : Int).toNat; decide +kernel), .inr ⟨by decide, by decide⟩, ⟨by decide, by decide, by decide⟩, (by show (0 : Int) < 10 ^ (24 : Int).toNat + 7; decide +kernel), ?_⟩
 dsimp only [Zd1]
 generalize (c % 10 ^ (24 : Int).toNat + 5) * 7046029254386353131 % (10 ^ (24 : Int).toNat + 7) = c
 refine ⟨(by show (0 : Int) < 8; decide), ⟨by decide, by decide⟩, (by show (0 : Int) < 3; decide), ⟨by decide, by decide⟩, _, 12, rfl, by decide, by decide, fun x hx => ⟨⟨by decide, by decide⟩, ?_⟩⟩
 have s0 := Zdc c (show (8 : Int) ≠ 0 by decide)
 have s1 := Zdd c (show (0 : Int) < 8 by decide)
 have hxl : x.cps.toList.length = 12 := hx
 obtain ⟨c0, hc0⟩ : ∃ c0, x.cps.toList[0]? = some c0 := ⟨_, Za0 (by omega)⟩
 refine ⟨(by show (0 : Int) < c % 8 + 4 + 1; omega), (by show 0 <= sizeLine; decide), fun l hl => ?_⟩
 have S1 : ZdH H (upd H l (.lst [])) := Zdr hl _
 have e1 : (upd H l (.lst [])) l = some (.lst []) := Zdp
 dsimp only [Zd1]
 generalize upd H l (.lst []) = H1 at S1 e1 ⊢
 obtain ⟨sz_, hsz⟩ : ∃ z, z = c % 8 + 4 := ⟨_, rfl⟩
 obtain ⟨at_, hat⟩ : ∃ z, z = c / 24 % (c % 8 + 4 + 1) := ⟨_, rfl⟩
 obtain ⟨M, hM⟩ : ∃ z, z = c / 8 % 3 := ⟨_, rfl⟩
 rw [<- hat, <- hsz, <- hM]
 obtain ⟨cc, hcc, hne⟩ : ∃ cc : Nat, atI ("ab" : Str).cps.toList (if (false ^^ decide ((⟨#[c0]⟩ : Str) = ("a" : Str))) = true then 1 else 0) = some cc /\ cc ≠ c0 := by
  by_cases z : (⟨#[c0]⟩ : Str) = ("a" : Str)
  ·rw [decide_eq_true z]
   refine ⟨98, by decide +kernel, fun w => ?_⟩
   rw [<- w] at z
   exact absurd z (by decide +kernel)
  ·rw [decide_eq_false z]
   refine ⟨97, by decide +kernel, fun w => z ?_⟩
   rw [<- w]
   decide +kernel
 let f : Nat -> Str := if M = 0 then w1 (Txt.slice (Txt.slice x none (some sz_)) none (some at_)) (Txt.slice (Txt.slice x none (some sz_)) (some at_) none) else if M = 1 then w2 (Txt.slice (Txt.slice x none (some sz_)) none (some (sz_ - 3))) else w3 x cc
 have lb0 := Txt.slice_le x none (some sz_)
 have lb1 := Txt.slice_le (Txt.slice x none (some sz_)) none (some at_)
 have lb2 := Txt.slice_le (Txt.slice x none (some sz_)) (some at_) none
 have lb3 := Txt.slice_le (Txt.slice x none (some sz_)) none (some (sz_ - 3))
 have fnd : ((Zaa 16).map f).Nodup := by
  show ((Zaa 16).map (if M = 0 then _ else if M = 1 then _ else _)).Nodup
  by_cases h : M = 0
  ·rw [if_pos h]; exact Zna _ _
  ·rw [if_neg h]
   by_cases h' : M = 1
   ·rw [if_pos h']; exact Znb _
   ·rw [if_neg h']; exact Znc hx hc0 hne
 have fle : ∀ k, (f k).length <= 300 := fun k => by
  show ((if M = 0 then _ else if M = 1 then _ else _ : Nat -> Str) k).length <= 300
  by_cases h : M = 0
  ·rw [if_pos h, w1, Str.length_append, Str.length_append, Zed]; omega
  ·rw [if_neg h]
   by_cases h' : M = 1
   ·rw [if_pos h', w2, Str.length_append, Str.length_append, Str.length_append, Str.length_append, Zed, Zed, Zed, Zed]; omega
   ·rw [if_neg h']
    have := Zl8 (c := cc) (k := k) hx
    show (w3 x cc k).cps.toList.length <= 300
    omega
 have lz : (Txt.slice x none (some sz_)).length = sz_.toNat := by
  show (Txt.slice x none (some sz_)).cps.toList.length = _
  rw [Zm9 (by omega) (by rw [hx]; omega), Zaw]
  omega
 have a0 : 0 <= at_ := by rw [hat]; exact Zdc _ (by omega)
 have a1 : at_ < c % 8 + 4 + 1 := by rw [hat]; exact Zdd _ (by omega)
 have la : (Txt.slice (Txt.slice x none (some sz_)) none (some at_)).length = at_.toNat := by
  show (Txt.slice _ none (some at_)).cps.toList.length = _
  have l2 : (Txt.slice x none (some sz_)).cps.toList.length = sz_.toNat := lz
  rw [Zm9 a0 (by rw [lz]; omega), Zaw]
  omega
 have lb : (Txt.slice (Txt.slice x none (some sz_)) (some at_) none).length = sz_.toNat - at_.toNat := by
  show (Txt.slice _ (some at_) none).cps.toList.length = _
  have l2 : (Txt.slice x none (some sz_)).cps.toList.length = sz_.toNat := lz
  rw [Zl7 a0 (by rw [lz]; omega), ZaJ, l2]
 have lc : (Txt.slice (Txt.slice x none (some sz_)) none (some (sz_ - 3))).length = (sz_ - 3).toNat := by
  show (Txt.slice _ none (some (sz_ - 3))).cps.toList.length = _
  have l2 : (Txt.slice x none (some sz_)).cps.toList.length = sz_.toNat := lz
  rw [Zm9 (by omega) (by rw [lz]; omega), Zaw]
  omega
 have fge : ∀ k, 5 <= (f k).length := fun k => by
  show 5 <= ((if M = 0 then _ else if M = 1 then _ else _ : Nat -> Str) k).length
  by_cases h : M = 0
  ·rw [if_pos h, w1, Str.length_append, Str.length_append, Zed, la, lb]; omega
  ·rw [if_neg h]
   by_cases h' : M = 1
   ·rw [if_pos h', w2, Str.length_append, Str.length_append, Str.length_append, Str.length_append, Zed, Zed, Zed, Zed, lc]; omega
   ·rw [if_neg h']
    have := Zl8 (c := cc) (k := k) hx
    show 5 <= (w3 x cc k).cps.toList.length
    omega
 refine ⟨16, rfl, by decide, by decide, Zhm (fun i σ H2 => ∃ (o6 o7 : Option V), σ = [some (.int c), some (.int sz_), some (.int M), some (.str x), some (.int at_), some (.ref l), o6, o7] /\ ZdH H H2 /\ H2 l = some (.lst (((Zaa i).map f).map V.str)))
  ⟨none, none, rfl, S1, e1⟩ ?_ ?_⟩
 ·rintro i σ H2 hi ⟨o6, o7, rfl, S, e⟩
  have hi16 : i < 16 := hi
  have ap : ∀ wd : Str, wd = f i -> (∃ xs, H2 l = some (.lst xs)) /\ ∃ xs, H2 l = some (.lst xs) /\ xs.length < sizeLine /\ ∃ (o6 o7 : Option V), [some (V.int c), some (.int sz_), some (.int M), some (.str x), some (.int at_), some (.ref l), some (.int (0 + (i : Int))), some (.str wd)] = [some (V.int c), some (.int sz_), some (.int M), some (.str x), some (.int at_), some (.ref l), o6, o7] /\ ZdH H (upd H2 l (.lst (xs ++ [.str wd]))) /\ (upd H2 l (.lst (xs ++ [.str wd]))) l = some (.lst (((Zaa (i + 1)).map f).map V.str)) := fun wd hw => by
   refine ⟨⟨_, e⟩, _, e, by rw [Zar, Zar, Zbm]; omega, _, _, rfl, ZdP S hl _, ?_⟩
   rw [Zdp, ZkV, ZaV, hw]
   rfl
  refine ⟨sz_, rfl, x, rfl, by omega, ?_⟩
  dsimp only [Zd1]
  by_cases h : M = 0
  ·have hf : f i = w1 (Txt.slice (Txt.slice x none (some sz_)) none (some at_)) (Txt.slice (Txt.slice x none (some sz_)) (some at_) none) i := by
    show (if M = 0 then _ else if M = 1 then _ else _ : Nat -> Str) i = _
    rw [if_pos h]
   have e2 := ZoL (l := ("abcdefghijklmnop" : Str).cps.toList) (i := i) (by rw [show ("abcdefghijklmnop" : Str).cps.toList.length = 16 by decide +kernel]; omega)
   refine Zp9 rfl h ⟨at_, rfl, _, rfl, by omega, sz (by decide +kernel), Zdx e2 ⟨by rw [Zed]; omega, at_, rfl, _, rfl, by omega, by rw [Str.length_append, Zed]; omega, ?_⟩⟩
   exact ap _ hf.symm
  ·refine Zqa rfl h ?_
   by_cases h' : M = 1
   ·have hf : f i = w2 (Txt.slice (Txt.slice x none (some sz_)) none (some (sz_ - 3))) i := by
     show (if M = 0 then _ else if M = 1 then _ else _ : Nat -> Str) i = _
     rw [if_neg h, if_pos h']
    have tt : ∀ z : Int, 0 <= z -> z < 2 -> atI ("t7" : Str).cps.toList z = some (t7 z) := fun z z0 z1 => by
     obtain ⟨ch, e1, _⟩ := Zi5 ("t7" : Str).cps.toList z z0 (by rw [show ("t7" : Str).cps.toList.length = 2 by decide +kernel]; exact z1)
     rw [t7, e1]
     rfl
    have a1 := tt ((0 + (i : Int)) % 2) (by omega) (by omega)
    have a2 := tt ((0 + (i : Int)) / 2 % 2) (by omega) (by omega)
    have a3 := tt ((0 + (i : Int)) / 4 % 2) (by omega) (by omega)
    have a4 := tt ((0 + (i : Int)) / 8) (by omega) (by omega)
    have p2 : (0 : Int) < 2 := by decide
    have z7 : ("t7" : Str).length <= sizeLine := sz (by decide +kernel)
    refine Zp7 rfl h' ⟨sz_ - 3, rfl, _, rfl, by omega, p2, z7, Zdx a1 ⟨by rw [Zed]; omega, ⟨by decide, by decide⟩, p2, z7, Zdx a2 ⟨by rw [Str.length_append, Zed, Zed]; omega, ⟨by decide, by decide⟩, p2, z7, Zdx a3 ⟨by rw [Str.length_append, Str.length_append, Zed, Zed, Zed]; omega, ⟨by decide, by decide⟩, z7, Zdx a4 ⟨by rw [Str.length_append, Str.length_append, Str.length_append, Zed, Zed, Zed, Zed]; omega, ?_⟩⟩⟩⟩⟩
    exact ap _ hf.symm
   ·have hf : f i = w3 x cc i := by
     show (if M = 0 then _ else if M = 1 then _ else _ : Nat -> Str) i = _
     rw [if_neg h, if_neg h']
    have lb4 := Txt.slice_le x none (some (5 + (0 + (i : Int)) % 8))
    have lb5 := Txt.slice_le (Txt.slice x none (some (5 + (0 + (i : Int)) % 8))) (some 1) none
    refine Zp8 rfl h' ⟨(by show (0 : Int) < 8; decide), 5 + (0 + (i : Int)) % 8, rfl, x, rfl, by omega, ?_⟩
    dsimp only [Zd1]
    by_cases h7 : 7 < i
    ·refine Zrp rfl (show (7 : Int) < 0 + (i : Int) by omega) ⟨by omega, Zdx (Zdw hc0) (.inr ⟨_, rfl, sz (by decide +kernel), Zdx hcc ⟨1, rfl, _, rfl, by omega, by rw [Zed]; omega, ?_⟩⟩)⟩
     exact ap _ (by rw [hf, w3, if_pos h7])
    ·exact Zrq rfl (show ¬ (7 : Int) < 0 + (i : Int) by omega) (ap _ (by rw [hf, w3, if_neg h7]))
 ·rintro σ H2 ⟨o6, o7, rfl, S, e⟩
  exact q l _ H2 S hl ⟨e, by rw [Zar, Zbm]; rfl, fnd, fun y hy => by obtain ⟨k, _, rfl⟩ := ZaS.mp hy; exact ⟨fle k, fge k⟩⟩
end
noncomputable abbrev Hm := Str × Int
noncomputable def hmD (h : Hm) : Dt := .tup [.flat (.str h.1), .flat (.int h.2)]
def Sc (H : Hp) (a : Addr) (g : Str -> Option Hm) (n : Nat) : Prop := ∃ kvs : List (Key × V), H a = some (.dK kvs) /\ kvs.length <= n /\ ∀ w : Str, match g w with
 | none => Zfp kvs (.inr w) = none
 | some h => ∃ t, Zfp kvs (.inr w) = some (.ref t) /\ H t = some (.tup [.str h.1, .int h.2])
theorem Sc.same {H H' : Hp} {a : Addr} {g : Str -> Option Hm} {n : Nat} (h : Sc H a g n) (s : ZdH H H') : Sc H' a g n := by
 obtain ⟨kvs, e, l, h⟩ := h
 refine ⟨kvs, s _ _ e, l, fun w => ?_⟩
 have := h w
 cases hg : g w with
 | none => rw [hg] at this; exact this
 | some z =>
  rw [hg] at this
  obtain ⟨t, h1, h2⟩ := this
  exact ⟨t, h1, s _ _ h2⟩
noncomputable def wid (g : Str -> Option Hm) (x : Str) (h : Hm) : Str -> Option Hm := fun w => if w = x then some h else g w
section
variable {P : Program} {w : World} {K : PySem.W.Frag} {mg : Str -> Option Value} {base : Heap}
def ZkW : Sp := fun vs H Q _ => ∃ (a t : Addr) (g : Str -> Option Hm) (n : Nat) (x : Str) (h : Hm), vs = [.ref a, .str x, .ref t] /\ Sc H a g n /\ n < 10000 /\ H t = some (.tup [.str h.1, .int h.2]) /\ ∀ b H', ZdH H H' -> H b = none -> Sc H' b (wid g x h) (n + 1) -> Q (.ref b) H'
theorem Zid (T : Txt K mg) : ZfA P w K mg base CX0 1 T.a_widened T.fd_widened ["scope", "name", "home"] ZkW := by
 refine T.F_widened.ok Zic (fun vs H Q E h => ?_) (fun cdv A outer s H vs Q E hr h => ?_)
 ·obtain ⟨a, t, g, n, x, h, rfl, _⟩ := h
  rfl
 have hu := ZkK hr
 obtain ⟨a, t, g, n, x, h, rfl, ⟨kvs, e, l, hk⟩, hn, et, q⟩ := h
 refine ⟨_, (Zdo (ZdE (i := 3) Zic.nd rfl (.inl rfl) (Zfl ZkO rfl T.z_dict Zop (Zdn (cv 0) Zdq)))
  (Zdo (Zgs hu (cv 3) (cv 1) (cv 2) rfl)
  (Zdu (ZdL (cv 3))))), ?_⟩
 have sl : sizeLine = 16777216 := sizeLine_eq
 refine ⟨a, kvs, rfl, e, fun b hb => ?_⟩
 have s1 := Zdr hb (.dK kvs)
 have eb : (upd H b (.dK kvs)) b = some (.dK kvs) := Zdp
 dsimp only [Zd1]
 refine ⟨b, _, rfl, Zk1.k (k := Sum.inr x) eb (by omega), ?_⟩
 have tk : ∀ {y : Addr} {xs : List V}, H y = some (.tup xs) -> (upd (upd H b (.dK kvs)) b (.dK (Zgz kvs (Sum.inr x) (.ref t)))) y = some (.tup xs) := fun {y xs} ey => by rw [Zdt (ZgC (s1 _ _ ey) eb (fun h => nomatch h))]; exact s1 _ _ ey
 refine q b _ (ZdP s1 hb _) hb ⟨_, Zdp, ZbS (Zej _ _ _) (by omega), fun w => ?_⟩
 unfold wid
 by_cases hw : w = x
 ·rw [if_pos hw]
  exact ⟨t, by rw [Zes, if_pos (by rw [hw])], tk et⟩
 ·rw [if_neg hw]
  have hh := hk w
  have hv : Zfp (Zgz kvs (Sum.inr x) (.ref t)) (.inr w) = Zfp kvs (.inr w) := by rw [Zes, if_neg (fun z => hw (by injection z))]
  cases hg : g w with
  | none => rw [hg] at hh; exact hv.trans hh
  | some z =>
   rw [hg] at hh
   obtain ⟨t', h1, h2⟩ := hh
   exact ⟨t', hv.trans h1, tk h2⟩
def ZhC : Sp := fun vs H Q _ => ∃ (a : Addr) (ws : List Str), vs = [.ref a] /\ H a = some (.lst (ws.map V.str)) /\ ws.Nodup /\ ws.length <= 10000 /\ ∀ H', ZdH H H' -> Q .non H'
theorem ZhD (T : Txt K mg) : ZfA P w K mg base CX0 1 T.a_refuse_twice T.fd_refuse_twice ["words"] ZhC := by
 refine T.F_refuse_twice.ok Zfz (fun vs H Q E h => ?_) (fun cdv A outer s H vs Q E hr h => ?_)
 ·obtain ⟨a, ws, rfl, _⟩ := h
  rfl
 have hu := ZkK hr
 obtain ⟨a, ws, rfl, e, nd, hl, q⟩ := h
 refine ⟨_, (Zdo (ZdE (i := 1) Zfz.nd rfl (.inl rfl) Zhf)
  (Zdu (Zfa PassesOwn.never rfl (Zfo (cv 0)) (ZdQ (i := 2) Zfz.nd rfl (.inl rfl))
   (Zdo (Zd0 (Zgi (ZpE hu (cv 2) (cv 1)) rfl)
    (Zdu ZmI)
    ZdI)
   (Zdu (Zgs hu (cv 1) (cv 2) ZgU rfl)))))), ?_⟩
 have sl : sizeLine = 16777216 := sizeLine_eq
 intro d hd
 have s1 := Zdr hd (.dK [])
 have ed : (upd H d (.dK [])) d = some (.dK []) := Zdp
 dsimp only [Zd1]
 generalize upd H d (.dK []) = H1 at s1 ed ⊢
 refine ⟨a, rfl, ⟨_, SqL.of (s1 _ _ e)⟩, ZfK (xs := ws.map V.str) (fun i σ H2 => ∃ (o : Option V) (kvs : List (Key × V)), σ = [some (.ref a), some (.ref d), o] /\ ZdH H H2 /\ H2 d = some (.dK kvs) /\ kvs.length <= i /\ ∀ w : Str, w ∉ ws.take i -> Zfp kvs (.inr w) = none)
  ⟨none, [], rfl, s1, ed, ZbW _, fun _ _ => rfl⟩ (fun i σ H2 _ ⟨_, _, _, S, _⟩ => SqL.of (S _ _ e)) ?_ ?_⟩
 ·rintro i v σ H2 hv ⟨o, kvs, rfl, S, ek, hk, hn⟩
  have hi := (Zaj.mp hv).1
  rw [Zar] at hi
  rw [Zaz] at hv
  obtain ⟨x, hx⟩ : ∃ x, ws[i]? = some x := ⟨_, Za0 hi⟩
  rw [hx] at hv
  cases hv
  have hxn : x ∉ ws.take i := fun hm => by
   have h1 : (ws.take i ++ ws.drop i).Nodup := by rw [List.take_append_drop]; exact nd
   rw [List.nodup_append] at h1
   obtain ⟨z1, z2⟩ := Zaj.mp hx
   exact h1.2.2 _ hm _ (by rw [Za6 z1, z2]; simp) rfl
  have g := Zk0.k (k := (Sum.inr x : Key)) ek
  rw [hn x hxn] at g
  refine ⟨d, none, rfl, g, _, rfl, Zet ?_⟩
  refine ⟨d, _, rfl, Zk1.k (k := Sum.inr x) ek (by omega), _, _, rfl, ZdP S hd _, Zdp, ZbS (Zej _ _ _) (by omega), fun w hw => ?_⟩
  rw [Zes]
  rw [Zbd, hx] at hw
  have h1 : w ≠ x := fun z => hw (by simp [z])
  rw [if_neg (fun z => h1 (by injection z))]
  exact hn w fun z => hw (Zai _ z)
 ·rintro σ H2 ⟨o, kvs, rfl, S, _⟩
  exact q H2 S
end
mutual
noncomputable def flV : Dt -> List V
 | .flat v => [v]
 | .tup ds => ZeR ds
 | .lst _ => []
noncomputable def ZeR : List Dt -> List V
 | [] => []
 | d :: ds => flV d ++ ZeR ds
end
mutual
noncomputable def okF : Dt -> Bool
 | .flat v => (match v with | .int _ => true | .str _ => true | _ => false)
 | .tup ds => Zg7 ds
 | .lst _ => false
noncomputable def Zg7 : List Dt -> Bool
 | [] => true
 | d :: ds => okF d && Zg7 ds
end
theorem Zjf : ∀ (l : List Dt) (d : Dt), ZeR (l ++ [d]) = ZeR l ++ flV d
 | [], d => by simp [ZeR]
 | a :: l, d => by rw [ZaF, ZeR, ZeR, Zjf l d, ZaP]
theorem Zkl : ∀ {l : List Dt} {i : Nat} {d : Dt}, Zg7 l = true -> l[i]? = some d -> okF d = true
 | a :: l, 0, d, h, e => by cases e; rw [Zg7, Zc2] at h; exact h.1
 | a :: l, i + 1, d, h, e => by rw [Zg7, Zc2] at h; rw [Za2] at e; exact Zkl h.2 e
theorem Zf1 : ∀ (l : List Dt) (i : Nat), (ZeR (l.take i)).length <= (ZeR l).length
 | [], i => by simp [ZeR]
 | a :: l, 0 => by simp [ZeR]
 | a :: l, i + 1 => by
  rw [List.take_succ_cons, ZeR, ZeR, ZaB, ZaB]
  have := Zf1 l i
  omega
theorem Zie : ∀ {l : List Dt} {i : Nat} {d : Dt}, l[i]? = some d -> (flV d).length <= (ZeR l).length
 | a :: l, 0, d, e => by cases e; rw [ZeR, ZaB]; omega
 | a :: l, i + 1, d, e => by
  rw [Za2] at e
  have := Zie e
  rw [ZeR, ZaB]
  omega
theorem Zfk {H : Hp} : ∀ {xs : List V} {ds : List Dt} {j : Nat} {x : V}, Ims H xs ds -> xs[j]? = some x -> ∃ d, ds[j]? = some d /\ Im H x d
 | _, _, 0, _, .cons h _, e => ⟨_, rfl, by cases e; exact h⟩
 | _, _, j + 1, _, .cons _ t, e => by
  rw [Za2] at e
  obtain ⟨d, e1, e2⟩ := Zfk t e
  exact ⟨d, by rw [Za2]; exact e1, e2⟩
section
variable {P : Program} {w : World} {K : PySem.W.Frag} {mg : Str -> Option Value} {base : Heap}
def Zl9 (n : Nat) : Sp := fun vs H Q _ => ∃ (t : Addr) (xs : List V) (ds : List Dt), vs = [.ref t] /\ H t = some (.tup xs) /\ Ims H xs ds /\ Zg7 ds = true /\ ZeK ds < n /\ (ZeR ds).length <= 10000 /\ ∀ l H', ZdH H H' -> H l = none -> H' l = some (.lst (ZeR ds)) -> Q (.ref l) H'
theorem ZoM (T : Txt K mg) : ∀ n : Nat, ZfA P w K mg base CX0 (n + 1) T.a_flat T.fd_flat ["parts"] (Zl9 n) := by
 intro n
 induction n with
 | zero =>
  refine T.F_flat.ok Ziq (fun vs H Q E h => ?_) (fun cdv A outer s H vs Q E hr h => ?_)
  ·obtain ⟨t, xs, ds, rfl, _⟩ := h
   rfl
  obtain ⟨t, xs, ds, rfl, et, hx, hok, hd, hl, q⟩ := h
  exact absurd hd (Zb1 _)
 | succ n ih =>
  have G_flat := ih
  refine T.F_flat.ok Ziq (fun vs H Q E h => ?_) (fun cdv A outer s H vs Q E hr h => ?_)
  ·obtain ⟨t, xs, ds, rfl, _⟩ := h
   rfl
  obtain ⟨t, xs, ds, rfl, et, hx, hok, hd, hl, q⟩ := h
  refine ⟨_, (Zdo (ZdE (i := 1) Ziq.nd rfl (.inl rfl) (ZdN Zdq))
  (Zdo (Zfa PassesOwn.never rfl (Zj9 (cv 0)) (ZdQ (i := 2) Ziq.nd rfl (.inl rfl))
   (Zdu (Zd0 (ZfB (ZdC Zfj rfl T.z_isinstance Zd2 (Zdn (cv 2) (Zdn (Zgk rfl T.z_tuple Zf9) Zdq))))
    (Zdu (Zd6 (ZfW ZcR ZcU ZcV Zhr (cv 1) (Zdn (ZdO G_flat (hr.mono (by omega)) rfl T.m_flat T.k_flat T.b_flat .nil ZeG (Zdn (cv 2) Zdq)) Zdq))))
    (Zdu (Zd6 (Zfc (ZfW ZcR ZcS ZcT Zee (PE.mono (cv 1)) (Zdn (PE.mono (cv 2)) Zdq))))))))
  (Zdu (ZdL (cv 1))))), ?_⟩
  have sl : sizeLine = 16777216 := sizeLine_eq
  have lx := hx.length
  refine ⟨(by show 0 <= sizeLine; decide), fun f hf => ?_⟩
  have s1 := Zdr hf (.lst [])
  have e1 : (upd H f (.lst [])) f = some (.lst []) := Zdp
  dsimp only [Zd1]
  generalize upd H f (.lst []) = H1 at s1 e1 ⊢
  refine ⟨t, rfl, ⟨_, SqT.of (s1 _ _ et)⟩, Zle (xs := xs) (fun i σ H2 => ∃ (o : Option V), σ = [some (.ref t), some (.ref f), o] /\ ZdH H H2 /\ H2 f = some (.lst (ZeR (ds.take i)))) ⟨none, rfl, s1, by simpa [ZeR] using e1⟩ (fun i σ H2 _ ⟨_, _, S, _⟩ => SqT.of (S _ _ et)) ?_ ?_⟩
  ·rintro i v σ H2 hv ⟨o, rfl, S, e⟩
   obtain ⟨d, hdi, him⟩ := Zfk hx hv
   have him2 := him.mono (ZdH.tk S)
   have hok1 := Zkl hok hdi
   have tl := Zf1 ds i
   have gl := Zie hdi
   have nxt : ZeR (ds.take (i + 1)) = ZeR (ds.take i) ++ flV d := by rw [Zbd, hdi]; exact Zjf _ _
   cases him2 with
   | flat hfl =>
    rw [flV] at nxt gl
    have ap : (∃ xs, H2 f = some (.lst xs)) /\ ∃ xs, H2 f = some (.lst xs) /\ xs.length < sizeLine /\ ∃ (o : Option V), [some (V.ref t), some (V.ref f), some v] = [some (V.ref t), some (.ref f), o] /\ ZdH H (upd H2 f (.lst (xs ++ [v]))) /\ (upd H2 f (.lst (xs ++ [v]))) f = some (.lst (ZeR (ds.take (i + 1)))) :=
     ⟨⟨_, e⟩, _, e, by omega, _, rfl, ZdP S hf _, by rw [Zdp, nxt]⟩
    cases v with
    | int n => exact ⟨_, _, _, _, false, rfl, fun _ r => r, .int n, rfl, _, rfl, Zet ap⟩
    | str x => exact ⟨_, _, _, _, false, rfl, fun _ r => r, .str x, rfl, _, rfl, Zet ap⟩
    | _ => simp [okF] at hok1
   | @tup a ys es ha hs =>
    rw [flV] at nxt gl
    rw [okF] at hok1
    have hdd := L2.Internal.depDs_get hdi
    rw [ZhV] at hdd
    refine ⟨_, _, _, _, true, rfl, fun _ r => r, .tup ha, rfl, _, rfl, Zfq ⟨.inl ⟨rfl, _, SqL.of e⟩, a, ys, es, rfl, ha, hs, hok1, by omega, by omega, fun l H3 S3 hl3 e3 => ?_⟩⟩
    refine ⟨f, l, _, _, rfl, rfl, S3 _ _ e, e3, ?_, _, rfl, ZdP (S.trans S3) hf _, by rw [Zdp, nxt]⟩
    have h1 : (ZeR (ds.take (i + 1))).length <= (ZeR ds).length := Zf1 ds (i + 1)
    rw [nxt, ZaB] at h1
    omega
  ·rintro σ H2 ⟨o, rfl, S, e⟩
   rw [Za8 (by omega)] at e
   exact q f H2 S hf e
end
inductive Ro
 | num (n : Int)
 | name (w : Str)
 | fn (w : Str) (k : Int)
 | tag (w : Str) (k : Int)
 | lt (w : Str) (a b : Int)
 | get (k : Int) (w : Str)
 | rcd (l : List (Str × Int))
 | case (k : Int) (l : List (Str × Str × Int))
 | row (ks : List Int)
 | op (s : Str) (ks : List Int)
noncomputable def kD (k : Int) : Dt := .flat (.int k)
noncomputable def sD (s : Str) : Dt := .flat (.str s)
noncomputable def fdD (p : Str × Int) : Dt := .tup [sD p.1, kD p.2]
noncomputable def amD (p : Str × Str × Int) : Dt := .tup [sD p.1, sD p.2.1, kD p.2.2]
noncomputable def Ro.s : Ro -> Str
 | .num _ => "num"
 | .name _ => "name"
 | .fn _ _ => "fn"
 | .tag _ _ => "tag"
 | .lt _ _ _ => "let"
 | .get _ _ => "get"
 | .rcd _ => "rec"
 | .case _ _ => "case"
 | .row _ => "row"
 | .op s _ => s
noncomputable def Ro.r : Ro -> List Dt
 | .num n => [kD n]
 | .name w => [sD w]
 | .fn w k => [sD w, kD k]
 | .tag w k => [sD w, kD k]
 | .lt w a b => [sD w, kD a, kD b]
 | .get k w => [kD k, sD w]
 | .rcd l => [.tup (l.map fdD)]
 | .case k l => [kD k, .tup (l.map amD)]
 | .row ks => [.tup (ks.map kD)]
 | .op _ ks => ks.map kD
noncomputable def Ro.d (ρ : Ro) : Dt := .tup (sD ρ.s :: ρ.r)
noncomputable def plain : List Str := ["size", "at", "call", "join", "add", "sub", "less"]
noncomputable def Ro.ok : Ro -> Prop
 | .rcd l => l.length <= 100 /\ (l.map Prod.fst).Nodup
 | .case _ l => l.length <= 100 /\ (l.map Prod.fst).Nodup
 | .row ks => ks.length <= 100
 | .op s ks => s ∈ plain /\ ks.length <= 100
 | _ => True
noncomputable def Ro.pl : Ro -> List Int
 | .num _ => []
 | .name _ => []
 | .fn _ k => [k]
 | .tag _ k => [k]
 | .lt _ a b => [a, b]
 | .get k _ => [k]
 | .rcd l => l.map Prod.snd
 | .case k l => k :: l.map fun p => p.2.2
 | .row ks => ks
 | .op _ ks => ks
noncomputable def Ro.pt : Ro -> List V
 | .num _ => []
 | .name _ => []
 | ρ => ZeR ρ.r
theorem Zma : ∀ ks : List Int, Zg7 (ks.map kD) = true /\ ZeR (ks.map kD) = ks.map V.int /\ ZeK (ks.map kD) = 0
 | [] => ⟨by simp [Zg7], by simp [ZeR], by simp [ZeK]⟩
 | k :: ks => by
  obtain ⟨h1, h2, h3⟩ := Zma ks
  refine ⟨?_, ?_, ?_⟩
  ·rw [Zaq, Zg7, h1]; rfl
  ·rw [Zaq, ZeR, h2]; rfl
  ·rw [Zaq, ZeK, h3]; rfl
theorem Zqb : ∀ l : List (Str × Int), Zg7 (l.map fdD) = true /\ (ZeR (l.map fdD)).length = 2 * l.length /\ ZeK (l.map fdD) <= 1
 | [] => ⟨by simp [Zg7], by simp [ZeR], by simp [ZeK]⟩
 | k :: ks => by
  obtain ⟨h1, h2, h3⟩ := Zqb ks
  refine ⟨?_, ?_, ?_⟩
  ·rw [Zaq, Zg7, h1]; rfl
  ·rw [Zaq, ZeR, ZaB, h2]; show 2 + _ = _; rw [Zao]; omega
  ·rw [Zaq, ZeK]; exact Nat.max_le.mpr ⟨ZbV 1, h3⟩
theorem Zqc : ∀ l : List (Str × Str × Int), Zg7 (l.map amD) = true /\ (ZeR (l.map amD)).length = 3 * l.length /\ ZeK (l.map amD) <= 1
 | [] => ⟨by simp [Zg7], by simp [ZeR], by simp [ZeK]⟩
 | k :: ks => by
  obtain ⟨h1, h2, h3⟩ := Zqc ks
  refine ⟨?_, ?_, ?_⟩
  ·rw [Zaq, Zg7, h1]; rfl
  ·rw [Zaq, ZeR, ZaB, h2]; show 3 + _ = _; rw [Zao]; omega
  ·rw [Zaq, ZeK]; exact Nat.max_le.mpr ⟨ZbV 1, h3⟩
theorem Ro.fl (ρ : Ro) (h : ρ.ok) : Zg7 ρ.r = true /\ ZeK ρ.r < 3 /\ (ZeR ρ.r).length <= 10000 := by
 cases ρ with
 | rcd l =>
  obtain ⟨h1, h2, h3⟩ := Zqb l
  have hl : l.length <= 100 := h.1
  refine ⟨?_, ?_, ?_⟩
  ·show Zg7 [.tup (l.map fdD)] = true
   rw [Zg7, okF, h1, Zg7]; rfl
  ·show ZeK [.tup (l.map fdD)] < 3
   rw [ZeK, ZhV, ZeK]; omega
  ·show (ZeR [.tup (l.map fdD)]).length <= _
   rw [ZeR, flV, ZeR, Zas, h2]; omega
 | case k l =>
  obtain ⟨h1, h2, h3⟩ := Zqc l
  have hl : l.length <= 100 := h.1
  refine ⟨?_, ?_, ?_⟩
  ·show Zg7 [kD k, .tup (l.map amD)] = true
   simp [Zg7, okF, kD, h1]
  ·show ZeK [kD k, .tup (l.map amD)] < 3
   simp only [ZeK, ZhV, kD]; omega
  ·show (ZeR [kD k, .tup (l.map amD)]).length <= _
   simp only [ZeR, flV, kD, Zas, ZaB, h2, ZaQ]; omega
 | row ks =>
  obtain ⟨h1, h2, h3⟩ := Zma ks
  have hl : ks.length <= 100 := h
  refine ⟨?_, ?_, ?_⟩
  ·show Zg7 [.tup (ks.map kD)] = true
   rw [Zg7, okF, h1, Zg7]; rfl
  ·show ZeK [.tup (ks.map kD)] < 3
   rw [ZeK, ZhV, ZeK, h3]; omega
  ·show (ZeR [.tup (ks.map kD)]).length <= _
   rw [ZeR, flV, ZeR, Zas, h2, Zar]; omega
 | op s ks =>
  obtain ⟨h1, h2, h3⟩ := Zma ks
  have hl : ks.length <= 100 := h.2
  exact ⟨h1, by show ZeK (ks.map kD) < 3; omega, by show (ZeR (ks.map kD)).length <= _; rw [h2, Zar]; omega⟩
 | _ => exact ⟨rfl, by simp [Ro.r, kD, sD, ZeK, ZhV], by simp [Ro.r, kD, sD, ZeR, flV]⟩
theorem Zqd (y : V) (ys : List V) : Zh5 (y :: ys) (some 1) none = ys /\ ¬ (HT.Internal.sIx (y :: ys).length 0 (some 1) = 0 /\ HT.Internal.sIx (y :: ys).length (y :: ys).length none = (y :: ys).length) := by
 have e : HT.Internal.sIx (y :: ys).length 0 (some 1) = 1 := by
  show HT.Internal.sIx (y :: ys).length 0 (some ((1 : Nat) : Int)) = 1
  rw [HT.Internal.sIx_nat, Zao]
  omega
 refine ⟨?_, fun h => by rw [e] at h; exact absurd h.1 (by decide)⟩
 unfold Zh5
 rw [e, HT.Internal.sIx_none, List.drop_succ_cons, Za7, Zao, Zb2, Zbf]
theorem Zqe (ρ : Ro) (h : ρ.ok) : inV (.str ρ.s) [.str "num", .str "name"] = (match ρ with | .num _ => true | .name _ => true | _ => false) := by
 cases ρ with
 | op s ks =>
  have hs : s ∈ plain := h.1
  show inV (.str s) _ = false
  simp only [plain, Zag, Za1, or_false] at hs
  rcases hs with rfl | rfl | rfl | rfl | rfl | rfl | rfl <;> decide +kernel
 | _ => simp only [Ro.s]; decide +kernel
section
variable {P : Program} {w : World} {K : PySem.W.Frag} {mg : Str -> Option Value} {base : Heap}
def ZjV : Sp := fun vs H Q _ => ∃ (t : Addr) (ρ : Ro), vs = [.ref t] /\ Im H (.ref t) ρ.d /\ ρ.ok /\ ∀ l H', ZdH H H' -> H l = none -> H' l = some (.lst ρ.pt) -> Q (.ref l) H'
theorem ZjW (T : Txt K mg) : ZfA P w K mg base CX0 5 T.a_parts_of T.fd_parts_of ["row"] ZjV := by
 have G_flat := ZoM (P := P) (w := w) (base := base) T 3
 refine T.F_parts_of.ok ZjS (fun vs H Q E h => ?_) (fun cdv A outer s H vs Q E hr h => ?_)
 ·obtain ⟨t, ρ, rfl, _⟩ := h
  rfl
 obtain ⟨t, ρ, rfl, hi, ho, q⟩ := h
 refine ⟨_, (Zdo (Zd0 (ZdA Zhq (ZdG ZdT (cv 0) Zds (fun _ _ => rfl)) (Zey (Zdn ZdJ (Zdn ZdJ Zdq))) rfl)
   (Zdu (ZdL (ZdN Zdq)))
   ZdI)
  (Zdu (ZdL (ZdO G_flat (hr.mono (by decide)) rfl T.m_flat T.k_flat T.b_flat .nil ZeG (Zdn (ZeV ZpH (cv 0) (Zfb Zds) Zfv) Zdq))))), ?_⟩
 have sl : sizeLine = 16777216 := sizeLine_eq
 obtain ⟨f1, f2, f3⟩ := ρ.fl ho
 cases hi with
 | @tup _ ys _ et hs =>
  cases hs with
  | @cons y _ ys _ h1 hs =>
   cases h1
   refine ⟨_, et, Zdx (Zdw (j := 0) rfl) ?_⟩
   refine ⟨(by show 2 <= sizeLine; decide), fun p hp => ⟨p, [.str "num", .str "name"], rfl, .inr (SqT.of Zdp), rfl, rfl, ?_⟩⟩
   have s1 := Zdr hp (.tup [.str "num", .str "name"])
   generalize upd H p (.tup [.str "num", .str "name"]) = H1 at s1 ⊢
   dsimp only [onB]
   rw [show (if false = true then !inV (.str ρ.s) [.str "num", .str "name"] else inV (.str ρ.s) [.str "num", .str "name"]) = _ from Zqe ρ ho]
   have yes : ρ.pt = [] -> (ZqG (ZqZ Zpz) { nx := fun _ H' => Q .non H', rt := Q } : St -> Hp -> Prop) [some (.ref t)] H1 := fun e => ⟨(by show 0 <= sizeLine; decide), fun l hl => q l _ (s1.trans (Zdr hl _)) (s1.free hl) (by rw [Zdp, e])⟩
   have no : ρ.pt = ZeR ρ.r -> ∃ n : Int, V.int 1 = .int n /\ ∃ a xs, V.ref t = .ref a /\ SqT K H1 a xs /\ ¬ (HT.Internal.sIx xs.length 0 (some n) = 0 /\ HT.Internal.sIx xs.length xs.length none = xs.length) /\ ∀ pc, H1 pc = none -> Zl9 3 [.ref pc] (upd H1 pc (.tup (Zh5 xs (some n) none))) Q E := fun e => by
    obtain ⟨c1, c2⟩ := Zqd (.str ρ.s) ys
    refine ⟨1, rfl, t, _, rfl, SqT.of (s1 _ _ et), c2, fun pc hpc => ?_⟩
    rw [c1]
    have s2 := Zdr hpc (.tup ys)
    exact ⟨pc, ys, ρ.r, rfl, Zdp, hs.mono (ZdH.tk (s1.trans s2)), f1, f2, f3, fun l H' S hl e' => q l H' ((s1.trans s2).trans S) ((s1.trans s2).free hl) (by rw [e', e])⟩
   cases ρ with
   | num n => exact Zfq (yes rfl)
   | name n => exact Zfq (yes rfl)
   | fn a b => exact Zet (no rfl)
   | tag a b => exact Zet (no rfl)
   | lt a b c => exact Zet (no rfl)
   | get a b => exact Zet (no rfl)
   | rcd a => exact Zet (no rfl)
   | case a b => exact Zet (no rfl)
   | row a => exact Zet (no rfl)
   | op a b => exact Zet (no rfl)
end
theorem ZnM {J : It} {xs : List V} {i : Nat} {tt : TT} {te : TE} {Q : VK} {τ : St} {H1 : Hp} {D : Addr} (p : V -> Bool) (g : V -> V) (hD : H1 D = none) (hz : xs.length <= sizeLine) (hτ : τ.set i none = τ)
  (hgo : ∀ k H, ZdH H1 H -> k < xs.length -> J.go k H) (hy : ∀ k H v H', ZdH H1 H -> k < xs.length -> J.yld k H v H' -> H' = H /\ xs[k]? = some v) (hst : ∀ H, ZdH H1 H -> J.stop xs.length H)
  (htt : ∀ (k : Nat) v H R, xs[k]? = some v -> ZdH H1 H -> R (p v) H -> tt (τ.set i (some v)) H R)
  (hte : ∀ (k : Nat) v H R, xs[k]? = some v -> p v = true -> ZdH H1 H -> R (g v) H -> te (τ.set i (some v)) H R)
  (hq : ∀ H', ZdH H1 H' -> H' D = some (.lst ((xs.filter p).map g)) -> Q (.ref D) H') : LcP J i tt te Q τ H1 D := by
 have sm : ∀ o, ZdH H1 (upd H1 D o) := fun o b u e => by rw [Zdt (Zdv e hD)]; exact e
 refine ⟨fun k m σ' H2 => m = xs.length - k /\ k <= xs.length /\ (∃ o, σ' = τ.set i o) /\ H2 = upd H1 D (.lst (((xs.take k).filter p).map g)), ⟨xs.length, by simp, ZbW _, ⟨none, hτ.symm⟩, by simp⟩, ?_⟩
 rintro k m σ' H2 ⟨rfl, hk, ⟨o, rfl⟩, rfl⟩
 by_cases hlt : k < xs.length
 ·refine .inr ⟨hgo k _ (sm _) hlt, fun v H3 y => ?_⟩
  obtain ⟨e, hv⟩ := hy k _ v H3 (sm _) hlt y
  subst e
  rw [Za5]
  refine htt k v _ _ hv (sm _) ?_
  have tk : (xs.take (k + 1)).filter p = (xs.take k).filter p ++ (if p v then [v] else []) := take_succ_filter p xs k v hv
  have ll : ((xs.take k).filter p).length <= k := by
   refine ZbS (Zbn _ _) ?_
   rw [Zaw]
   omega
  cases hp : p v with
  | true =>
   rw [if_pos rfl]
   refine hte k v _ _ hv hp (sm _) ?_
   refine ⟨_, Zdp, by rw [Zar]; omega, xs.length - (k + 1), by omega, rfl, hlt, ⟨some v, rfl⟩, ?_⟩
   rw [ZgT, tk, hp, if_pos rfl, ZaV]
   rfl
  | false =>
   rw [if_neg ZcY]
   refine ⟨xs.length - (k + 1), by omega, rfl, hlt, ⟨some v, rfl⟩, ?_⟩
   rw [tk, hp, if_neg ZcY, Zas]
 ·have e : k = xs.length := by omega
  subst e
  refine .inl ⟨hst _ (sm _), hq _ (sm _) ?_⟩
  rw [Zdp, Zbf]
noncomputable def isI : V -> Bool
 | .int _ => true
 | _ => false
theorem Zmb : ∀ ks : List Int, (ks.map V.int).filter isI = ks.map V.int
 | [] => rfl
 | k :: ks => by rw [Zaq, Zbo rfl, Zmb ks]
theorem ZnN : ∀ l : List (Str × Int), (ZeR (l.map fdD)).filter isI = (l.map Prod.snd).map V.int
 | [] => by simp [ZeR]
 | p :: l => by
  have := ZnN l
  rw [Zaq, ZeR, Zbp, this]
  rfl
theorem ZnO : ∀ l : List (Str × Str × Int), (ZeR (l.map amD)).filter isI = (l.map fun p => p.2.2).map V.int
 | [] => by simp [ZeR]
 | p :: l => by
  have := ZnO l
  rw [Zaq, ZeR, Zbp, this]
  rfl
theorem Ro.pt_pl (ρ : Ro) : ρ.pt.filter isI = ρ.pl.map V.int := by
 cases ρ with
 | rcd l =>
  show (ZeR [.tup (l.map fdD)]).filter isI = _
  rw [ZeR, flV, ZeR, Zas]
  exact ZnN l
 | case k l =>
  show (ZeR [kD k, .tup (l.map amD)]).filter isI = _
  rw [ZeR, ZeR, ZeR, flV, Zas, Zbp, ZnO l]
  rfl
 | row ks =>
  show (ZeR [.tup (ks.map kD)]).filter isI = _
  rw [ZeR, flV, ZeR, Zas, (Zma ks).2.1]
  exact Zmb ks
 | op s ks =>
  show (ZeR (ks.map kD)).filter isI = _
  rw [(Zma ks).2.1]
  exact Zmb ks
 | _ => rfl
theorem Ro.pt_le (ρ : Ro) (h : ρ.ok) : ρ.pt.length <= 10000 := by
 have := (ρ.fl h).2.2
 cases ρ with
 | num n => exact ZbW _
 | name n => exact ZbW _
 | _ => exact this
theorem Zqf : ∀ (d : Dt), okF d = true -> ∀ v ∈ flV d, (∃ n, v = .int n) \/ ∃ s, v = .str s := by
 intro d
 refine Dt.rec (motive_1 := fun d => okF d = true -> ∀ v ∈ flV d, (∃ n, v = .int n) \/ ∃ s, v = .str s) (motive_2 := fun ds => Zg7 ds = true -> ∀ v ∈ ZeR ds, (∃ n, v = .int n) \/ ∃ s, v = .str s) ?_ ?_ ?_ ?_ ?_ d
 ·intro v h x hx
  rw [flV, ZaU] at hx
  subst hx
  cases x <;> first | exact .inl ⟨_, rfl⟩ | exact .inr ⟨_, rfl⟩ | simp [okF] at h
 ·intro ds ih h v hv
  rw [flV] at hv
  rw [okF] at h
  exact ih h v hv
 ·intro ds ih h
  rw [okF] at h
  cases h
 ·intro _ v hv
  rw [ZeR] at hv
  cases hv
 ·intro d ds h1 h2 h v hv
  rw [ZeR] at hv
  rw [Zg7, Zc2] at h
  rcases Zah.mp hv with hv | hv
  ·exact h1 h.1 v hv
  ·exact h2 h.2 v hv
theorem Ro.pt_is (ρ : Ro) (h : ρ.ok) : ∀ v ∈ ρ.pt, (∃ n, v = .int n) \/ ∃ s, v = .str s := by
 have h1 := (ρ.fl h).1
 have h2 := Zqf (.tup ρ.r) (by rw [okF]; exact h1)
 rw [flV] at h2
 cases ρ with
 | num n => intro v hv; cases hv
 | name n => intro v hv; cases hv
 | _ => exact h2
section
variable {P : Program} {w : World} {K : PySem.W.Frag} {mg : Str -> Option Value} {base : Heap}
def Zjg : Sp := fun vs H Q _ => ∃ (t : Addr) (ρ : Ro), vs = [.ref t] /\ Im H (.ref t) ρ.d /\ ρ.ok /\ ∀ l H', ZdH H H' -> H l = none -> H' l = some (.lst (ρ.pl.map V.int)) -> Q (.ref l) H'
theorem Zf2 (T : Txt K mg) : ZfA P w K mg base CX0 6 T.a_places_in T.fd_places_in ["row"] Zjg := by
 have G_parts_of := ZjW (P := P) (w := w) (base := base) T
 refine T.F_places_in.ok Zjc (fun vs H Q E h => ?_) (fun cdv A outer s H vs Q E hr h => ?_)
 ·obtain ⟨t, ρ, rfl, _⟩ := h
  rfl
 obtain ⟨t, ρ, rfl, hi, ho, q⟩ := h
 refine ⟨_, (Zdu (ZdL (ZgY rfl (Zpg (x := "part") rfl (by decide +kernel) (by decide +kernel) rfl rfl) (Zfo (ZdO G_parts_of (hr.mono (by decide)) rfl T.m_parts_of T.k_parts_of T.b_parts_of .nil ZeG (Zdn (cv 0) Zdq))) (fun _ _ _ _ _ => (ZjI (ZfB (ZdC (r := rIsi K) Zfj rfl T.z_isinstance Zd2 (Zdn (cv 0) (Zdn (Zgk rfl T.z_int Zi2) Zdq)))))) (fun _ _ _ _ _ => (cv 0))))), ?_⟩
 have sl : sizeLine = 16777216 := sizeLine_eq
 have lp := ρ.pt_le ho
 refine ⟨t, ρ, rfl, hi, ho, fun l H1 S1 hl e1 => ⟨l, rfl, ⟨_, SqL.of e1⟩, fun D hD => ?_⟩⟩
 refine ZnM (xs := ρ.pt) isI id hD (by omega) rfl (fun k H S h => Zi6 e1 S h) (fun k H v H' S h y => ⟨y.1, y.2 _ (SqL.of (S _ _ e1))⟩) (fun H S => Zi7 e1 S) ?_ ?_ ?_
 ·intro k v H2 R hv S hR
  rcases ρ.pt_is ho v (ZaA hv) with ⟨n, rfl⟩ | ⟨x, rfl⟩
  ·exact ⟨_, _, _, _, true, rfl, fun _ r => r, .int n, rfl, _, rfl, hR⟩
  ·exact ⟨_, _, _, _, false, rfl, fun _ r => r, .str x, rfl, _, rfl, hR⟩
 ·intro k v H2 R hv hp S hR
  exact hR
 ·intro H' S e
  rw [List.map_id, ρ.pt_pl] at e
  exact q D H' (S1.trans S) (S1.free hD) e
noncomputable def Ro.ws : Ro -> List Str
 | .rcd l => l.map Prod.fst
 | .case _ l => l.map Prod.fst
 | _ => []
theorem Ro.ws_nd (ρ : Ro) (h : ρ.ok) : ρ.ws.Nodup /\ ρ.ws.length <= 100 := by
 cases ρ with
 | rcd l => exact ⟨h.2, by show (l.map Prod.fst).length <= _; rw [Zar]; exact h.1⟩
 | case k l => exact ⟨h.2, by show (l.map Prod.fst).length <= _; rw [Zar]; exact h.1⟩
 | _ => exact ⟨Zbq, ZbW _⟩
theorem Zjz (ρ : Ro) (h : ρ.ok) (x : Str) (hx : x ∈ (["rec", "case", "fn", "let", "name", "num"] : List Str)) : (∃ s ks, ρ = .op s ks) -> decide (ρ.s = x) = false := by
 rintro ⟨s, ks, rfl⟩
 have hs : s ∈ plain := h.1
 show decide (s = x) = false
 simp only [plain, Zag, Za1, or_false] at hs hx
 rcases hs with rfl | rfl | rfl | rfl | rfl | rfl | rfl <;> rcases hx with rfl | rfl | rfl | rfl | rfl | rfl <;> decide +kernel
noncomputable def Ro.isR : Ro -> Bool
 | .rcd _ => true
 | _ => false
noncomputable def Ro.isC : Ro -> Bool
 | .case _ _ => true
 | _ => false
noncomputable def Ro.isF : Ro -> Bool
 | .fn _ _ => true
 | _ => false
noncomputable def Ro.isL : Ro -> Bool
 | .lt _ _ _ => true
 | _ => false
theorem Ro.hd (ρ : Ro) (h : ρ.ok) : decide (ρ.s = "rec") = ρ.isR /\ decide (ρ.s = "case") = ρ.isC /\ decide (ρ.s = "fn") = ρ.isF /\ decide (ρ.s = "let") = ρ.isL := by
 cases ρ with
 | op s ks => exact ⟨Zjz _ h _ (by decide +kernel) ⟨s, ks, rfl⟩, Zjz _ h _ (by decide +kernel) ⟨s, ks, rfl⟩, Zjz _ h _ (by decide +kernel) ⟨s, ks, rfl⟩, Zjz _ h _ (by decide +kernel) ⟨s, ks, rfl⟩⟩
 | num a => exact (show decide (("num" : Str) = "rec") = false /\ decide (("num" : Str) = "case") = false /\ decide (("num" : Str) = "fn") = false /\ decide (("num" : Str) = "let") = false from by decide +kernel)
 | name a => exact (show decide (("name" : Str) = "rec") = false /\ decide (("name" : Str) = "case") = false /\ decide (("name" : Str) = "fn") = false /\ decide (("name" : Str) = "let") = false from by decide +kernel)
 | fn a b => exact (show decide (("fn" : Str) = "rec") = false /\ decide (("fn" : Str) = "case") = false /\ decide (("fn" : Str) = "fn") = true /\ decide (("fn" : Str) = "let") = false from by decide +kernel)
 | tag a b => exact (show decide (("tag" : Str) = "rec") = false /\ decide (("tag" : Str) = "case") = false /\ decide (("tag" : Str) = "fn") = false /\ decide (("tag" : Str) = "let") = false from by decide +kernel)
 | lt a b c => exact (show decide (("let" : Str) = "rec") = false /\ decide (("let" : Str) = "case") = false /\ decide (("let" : Str) = "fn") = false /\ decide (("let" : Str) = "let") = true from by decide +kernel)
 | get a b => exact (show decide (("get" : Str) = "rec") = false /\ decide (("get" : Str) = "case") = false /\ decide (("get" : Str) = "fn") = false /\ decide (("get" : Str) = "let") = false from by decide +kernel)
 | rcd a => exact (show decide (("rec" : Str) = "rec") = true /\ decide (("rec" : Str) = "case") = false /\ decide (("rec" : Str) = "fn") = false /\ decide (("rec" : Str) = "let") = false from by decide +kernel)
 | case a b => exact (show decide (("case" : Str) = "rec") = false /\ decide (("case" : Str) = "case") = true /\ decide (("case" : Str) = "fn") = false /\ decide (("case" : Str) = "let") = false from by decide +kernel)
 | row a => exact (show decide (("row" : Str) = "rec") = false /\ decide (("row" : Str) = "case") = false /\ decide (("row" : Str) = "fn") = false /\ decide (("row" : Str) = "let") = false from by decide +kernel)
theorem Zkm {a : Addr} {te : TE} {Q : VK} {τ : St} {H1 : Hp} {D : Addr} {xs : List V} {α : Type} {f : α -> Dt} {g : α -> Str} {l : List α} (e : H1 a = some (.tup xs)) (I : Ims H1 xs (l.map f)) (hn : l.length <= 100) (hD : H1 D = none) (hτ : τ.set 0 none = τ)
  (ht : ∀ (x : α) (v : V) H (R : VK), Im H v (f x) -> R (.str (g x)) H -> te (τ.set 0 (some v)) H R)
  (hq : ∀ H', ZdH H1 H' -> H' D = some (.lst ((l.map g).map V.str)) -> Q (.ref D) H') : LcP (Itt K a) 0 Zht te Q τ H1 D := by
 have sl : sizeLine = 16777216 := sizeLine_eq
 have lx := I.length
 rw [Zar] at lx
 refine ZgF l.length (by omega) (fun ys H => ys = ((l.take ys.length).map g).map V.str) (fun xs H H' h _ => h) hD hτ (fun k H S h => ZpT e S (by omega)) (fun H S => by rw [<- lx]; exact ZpU e S) rfl ?_ ?_
 ·intro k H v H3 ys Z S hk y hys hl hz
  obtain ⟨rfl, hv⟩ := y
  have hv := hv _ (SqT.of (S _ _ e))
  obtain ⟨d, hd, him⟩ := Zfk I hv
  rw [Zaz] at hd
  obtain ⟨x, hx⟩ : ∃ x, l[k]? = some x := ⟨_, Za0 hk⟩
  rw [hx] at hd
  cases hd
  refine ht x v H3 Z (him.mono (ZdH.tk S)) (hz _ _ (ZdH.refl _) ?_)
  rw [ZaB, hl, ZaQ, Zbd, hx, ZaV, ZaV, <- hl, <- hys]
  rfl
 ·intro H' ys S hys hl e'
  rw [hl, Zbf] at hys
  exact hq H' S (by rw [e', hys])
def Ziv : Sp := fun vs H Q _ => ∃ (t : Addr) (ρ : Ro), vs = [.ref t] /\ Im H (.ref t) ρ.d /\ ρ.ok /\ ∀ l H', ZdH H H' -> H l = none -> H' l = some (.lst (ρ.ws.map V.str)) -> Q (.ref l) H'
theorem Ziw (T : Txt K mg) : ZfA P w K mg base CX0 1 T.a_words_once T.fd_words_once ["row"] Ziv := by
 refine T.F_words_once.ok Zir (fun vs H Q E h => ?_) (fun cdv A outer s H vs Q E hr h => ?_)
 ·obtain ⟨t, ρ, rfl, _⟩ := h
  rfl
 obtain ⟨t, ρ, rfl, hi, ho, q⟩ := h
 refine ⟨_, (Zdo (Zd0 (ZdA ZeH (ZdG ZdT (cv 0) Zds (fun _ _ => rfl)) ZdJ (ZdK _))
   (Zdu (ZdL (ZgY rfl (Zpg (x := "field") rfl (by decide +kernel) (by decide +kernel) rfl rfl) (Zj9 (ZdG ZdT (cv 0) Zds (fun _ _ => rfl))) (fun _ _ _ _ _ => Ze4) (fun _ _ _ _ _ => (ZdG ZdT (cv 0) Zds (fun _ _ => rfl))))))
   ZdI)
  (Zdo (Zd0 (ZdA ZeH (ZdG ZdT (cv 0) Zds (fun _ _ => rfl)) ZdJ (ZdK _))
   (Zdu (ZdL (ZgY rfl (Zpg (x := "arm") rfl (by decide +kernel) (by decide +kernel) rfl rfl) (Zj9 (ZdG ZdT (cv 0) Zds (fun _ _ => rfl))) (fun _ _ _ _ _ => Ze4) (fun _ _ _ _ _ => (ZdG ZdT (cv 0) Zds (fun _ _ => rfl))))))
   ZdI)
  (Zdu (ZdL (ZdN Zdq))))), ?_⟩
 have sl : sizeLine = 16777216 := sizeLine_eq
 obtain ⟨h1, h2, _, _⟩ := ρ.hd ho
 cases hi with
 | @tup _ ys _ et hs =>
  cases hs with
  | @cons y _ ys _ hy hs =>
   cases hy
   refine ⟨_, et, Zdx (Zdw (j := 0) rfl) ?_⟩
   dsimp only [tC, cEq, onB]
   rw [Zc4, h1]
   have non : ρ.ws = [] -> (ZqG (ZqZ Zpz) { nx := fun _ H' => Q .non H', rt := Q } : St -> Hp -> Prop) [some (.ref t)] H := fun e => ⟨(by show 0 <= sizeLine; decide), fun l hl => q l _ (Zdr hl _) hl (by rw [Zdp, e]; rfl)⟩
   cases ρ with
   | rcd l =>
    refine Zfq ?_
    cases hs with
    | cons hx _ =>
     cases hx with
     | @tup ta xs _ eta hxs =>
      refine ⟨_, et, Zdx (Zdw (j := 1) rfl) ⟨ta, rfl, ⟨_, SqT.of eta⟩, fun D hD => ?_⟩⟩
      refine Zkm (f := fdD) (g := Prod.fst) eta hxs ho.1 hD rfl ?_ (fun H' S e => q D H' S hD e)
      intro x v H2 R hv hR
      cases hv with
      | tup ev hvs =>
       cases hvs with
       | cons a _ =>
        cases a
        exact ⟨_, ev, Zdx (Zdw (j := 0) rfl) hR⟩
   | case k l =>
    refine Zet ⟨_, et, Zdx (Zdw (j := 0) rfl) ?_⟩
    dsimp only [tC, cEq, onB]
    rw [Zc4, h2]
    refine Zfq ?_
    cases hs with
    | cons _ hs =>
     cases hs with
     | cons hx _ =>
      cases hx with
      | @tup ta xs _ eta hxs =>
       refine ⟨_, et, Zdx (Zdw (j := 2) rfl) ⟨ta, rfl, ⟨_, SqT.of eta⟩, fun D hD => ?_⟩⟩
       refine Zkm (f := amD) (g := Prod.fst) eta hxs ho.1 hD rfl ?_ (fun H' S e => q D H' S hD e)
       intro x v H2 R hv hR
       cases hv with
       | tup ev hvs =>
        cases hvs with
        | cons a _ =>
         cases a
         exact ⟨_, ev, Zdx (Zdw (j := 0) rfl) hR⟩
   | _ =>
    refine Zet ⟨_, et, Zdx (Zdw (j := 0) rfl) ?_⟩
    dsimp only [tC, cEq, onB]
    rw [Zc4, h2]
    exact Zet (non rfl)
end
noncomputable def exG (g : Str -> Option Hm) : Option (Str × Hm) -> (Str -> Option Hm)
 | none => g
 | some (x, h) => wid g x h
noncomputable def Ro.ex : Ro -> List (Option (Str × Hm))
 | .fn w k => [some (w, ("fn", k))]
 | .lt w a _ => [none, some (w, ("let", a))]
 | .case _ l => none :: l.map fun p => some (p.2.1, ("arm", p.2.2))
 | ρ => ρ.pl.map fun _ => none
theorem Sc.le {H : Hp} {a : Addr} {g : Str -> Option Hm} {n m : Nat} (h : Sc H a g n) (l : n <= m) : Sc H a g m := by
 obtain ⟨kvs, e, l', h⟩ := h
 exact ⟨kvs, e, ZbS l' l, h⟩
theorem Sc.upd {H : Hp} {a d : Addr} {g : Str -> Option Hm} {n : Nat} {kv : List (Key × V)} {o : HO} (h : Sc H a g n) (e : H d = some (.dK kv)) (ne : a ≠ d) : Sc (L2.Internal.upd H d o) a g n := by
 obtain ⟨kvs, e1, l, h⟩ := h
 refine ⟨kvs, by rw [Zdt ne]; exact e1, l, fun w => ?_⟩
 have := h w
 cases hg : g w with
 | none => rw [hg] at this; exact this
 | some z =>
  rw [hg] at this
  obtain ⟨t, h1, h2⟩ := this
  exact ⟨t, h1, by rw [Zdt (ZgC h2 e (fun z => nomatch z))]; exact h2⟩
theorem Sc.dk {H : Hp} {a : Addr} {g : Str -> Option Hm} {n : Nat} (h : Sc H a g n) : ∃ kv, H a = some (.dK kv) := by
 obtain ⟨kvs, e, _⟩ := h
 exact ⟨kvs, e⟩
theorem Zkn {kvs : List (Key × V)} {k : Key} (v : V) (hn : (kvs.map (·.1)).Nodup) : ((Zgz kvs k v).map (·.1)).Nodup := by
 cases q : Zfp kvs k with
 | none => exact Zoo v hn q
 | some x =>
  have e : (Zgz kvs k v).map (·.1) = kvs.map (·.1) := by
   unfold Zgz
   rw [ZfC, q]
   rw [if_pos (show (some x).isSome = true from rfl), Zbr]
   refine Zbs fun p _ => ?_
   show (if p.1 = k then (p.1, v) else p).1 = p.1
   split <;> rfl
  rw [e]
  exact hn
theorem ZhE : ∀ (more kvs : List (Key × V)) (k : Key), (more.map (·.1)).Nodup -> Zfp (ZgD kvs more) k = match Zfp more k with | some v => some v | none => Zfp kvs k
 | [], kvs, k, _ => rfl
 | p :: more, kvs, k, nd => by
  obtain ⟨h1, h2⟩ := Zat.mp (show (p.1 :: more.map (·.1)).Nodup from nd)
  show Zfp (ZgD (Zgz kvs p.1 p.2) more) k = _
  rw [ZhE more _ k h2]
  by_cases e : p.1 = k
  ·rw [ZeT e]
   have : Zfp more k = none := by
    cases q : Zfp more k with
    | none => rfl
    | some x => exact absurd (Zon q) (by rw [<- e]; exact h1)
   rw [this]
   show Zfp (Zgz kvs p.1 p.2) k = some p.2
   rw [Zes, if_pos e.symm]
  ·rw [ZeU e]
   cases q : Zfp more k with
   | some x => rfl
   | none =>
    show Zfp (Zgz kvs p.1 p.2) k = Zfp kvs k
    rw [Zes, if_neg (fun z => e z.symm)]
def InS (W : Addr -> Prop) (H : Hp) (kvs : List (Key × V)) (ρ : Ro) (g : Str -> Option Hm) (n : Nat) : Prop := ∀ c : Int, (Zfp kvs (.inl c) = none /\ c ∉ ρ.pl) \/ ∃ (j : Nat) (e : Option (Str × Hm)) (a : Addr), W a /\ ρ.pl[j]? = some c /\ ρ.ex[j]? = some e /\ Zfp kvs (.inl c) = some (.ref a) /\ Sc H a (exG g e) (n + 1)
theorem Zqg {x : Str} {A B u : TS} {D : ZfS} {σ : St} {H : Hp} {t : Addr} {ys : List V} {s : Str} {b : Bool} (hσ : σ[0]? = some (some (.ref t))) (et : H t = some (.tup (.str s :: ys))) (hb : decide (s = x) = b) (k : if b = true then A { D with nx := u D } σ H else B { D with nx := u D } σ H) :
  Zjs (ZiL (cT (tOp (cEq false) (tOp ZpX (cV 0) (tC (.int 0))) (tC (.str x)))) A B) u D σ H := by
 show onV σ[0]? _
 rw [hσ]
 refine ⟨_, et, Zdx (Zdw (j := 0) rfl) ?_⟩
 dsimp only [tC, cEq, onB]
 rw [Zc4, hb]
 exact k
theorem ZgM {x : Str} {A u : TS} {D : ZfS} {σ : St} {H : Hp} {t : Addr} {ys : List V} {s : Str} (hσ : σ[0]? = some (some (.ref t))) (et : H t = some (.tup (.str s :: ys))) (hb : decide (s = x) = false) (k : u D σ H) :
  Zjs (ZiL (cT (tOp (cEq false) (tOp ZpX (cV 0) (tC (.int 0))) (tC (.str x)))) A ZgW) u D σ H := Zqg hσ et hb (Zet k)
theorem Zmc {x : Str} {A B u : TS} {D : ZfS} {σ : St} {H : Hp} {t : Addr} {ys : List V} {s : Str} (hσ : σ[0]? = some (some (.ref t))) (et : H t = some (.tup (.str s :: ys))) (hb : decide (s = x) = true) (k : A { D with nx := u D } σ H) :
  Zjs (ZiL (cT (tOp (cEq false) (tOp ZpX (cV 0) (tC (.int 0))) (tC (.str x)))) A B) u D σ H := Zqg hσ et hb (Zfq k)
theorem Ro.pl_le (ρ : Ro) (h : ρ.ok) : ρ.pl.length <= 101 := by
 cases ρ with
 | rcd l => show (l.map Prod.snd).length <= _; rw [Zar]; exact ZbS h.1 (by decide)
 | case k l => show (k :: l.map fun p => p.2.2).length <= _; rw [Zao, Zar]; have := h.1; omega
 | row ks => exact ZbS h (by decide)
 | op s ks => exact ZbS h.2 (by decide)
 | _ => simp [Ro.pl]
section
variable {P : Program} {w : World} {K : PySem.W.Frag} {mg : Str -> Option Value} {base : Heap}
theorem Zmd {W : Addr -> Prop} {H : Hp} {kvs : List (Key × V)} {ρ : Ro} {g : Str -> Option Hm} {n : Nat} {a : Addr} (hW : W a) (hx : ρ.ex = ρ.pl.map fun _ => none) (hs : Sc H a g n) (hv : ∀ c : Int, Zfp kvs (.inl c) = if c ∈ ρ.pl then some (.ref a) else none) : InS W H kvs ρ g n := by
 intro c
 by_cases h : c ∈ ρ.pl
 ·obtain ⟨j, hj⟩ := Zbt.mp h
  exact .inr ⟨j, none, a, hW, hj, by rw [hx, Zaz, hj]; rfl, by rw [hv c, if_pos h], hs.le (ZbZ _)⟩
 ·exact .inl ⟨by rw [hv c, if_neg h], h⟩
def ZhF : Sp := fun vs H Q _ => ∃ (t a : Addr) (ρ : Ro) (g : Str -> Option Hm) (n : Nat), vs = [.ref t, .ref a] /\ Im H (.ref t) ρ.d /\ ρ.ok /\ Sc H a g n /\ n < 9000 /\
 ∀ d kvs H', ZdH H H' -> H d = none -> H' d = some (.dK kvs) -> (kvs.map (·.1)).Nodup -> kvs.length <= 300 -> InS (fun b => b = a \/ H b = none) H' kvs ρ g n -> Q (.ref d) H'
theorem ZhG (T : Txt K mg) : ZfA P w K mg base CX0 7 T.a_inner_scopes T.fd_inner_scopes ["row", "scope"] ZhF := by
 have G_places_in := Zf2 (P := P) (w := w) (base := base) T
 have G_widened := Zid (P := P) (w := w) (base := base) T
 refine T.F_inner_scopes.ok Ze7 (fun vs H Q E h => ?_) (fun cdv A outer s H vs Q E hr h => ?_)
 ·obtain ⟨t, a, ρ, g, n, rfl, _⟩ := h
  rfl
 have hu := ZkK hr
 obtain ⟨t, a, ρ, g, n, rfl, hi, ho, hsc, hn, q⟩ := h
 refine ⟨_, (Zdo (ZdE (i := 2) Ze7.nd rfl (.inl rfl) Zhf)
  (Zdo (Zfa PassesOwn.never rfl (Zfo (ZdO G_places_in (hr.mono (by decide)) rfl T.m_places_in T.k_places_in T.b_places_in .nil ZeG (Zdn (cv 0) Zdq))) (ZdQ (i := 3) Ze7.nd rfl (.inl rfl))
   (Zdu (Zgs hu (cv 2) (cv 3) (cv 1) rfl)))
  (Zdo (Zd0 (ZdA ZeH (ZdG ZdT (cv 0) Zds (fun _ _ => rfl)) ZdJ (ZdK _))
   (Zdu (Zgs hu (cv 2) (ZdG ZdT (cv 0) Zds (fun _ _ => rfl)) (ZdO G_widened (hr.mono (by decide)) rfl T.m_widened T.k_widened T.b_widened .nil ZeG (Zdn (cv 1) (Zdn (ZdG ZdT (cv 0) Zds (fun _ _ => rfl)) (Zdn (Zey (Zdn ZdJ (Zdn (ZdG ZdT (cv 0) Zds (fun _ _ => rfl)) Zdq))) Zdq)))) rfl))
   ZdI)
  (Zdo (Zd0 (ZdA ZeH (ZdG ZdT (cv 0) Zds (fun _ _ => rfl)) ZdJ (ZdK _))
   (Zdu (Zgs hu (cv 2) (ZdG ZdT (cv 0) Zds (fun _ _ => rfl)) (ZdO G_widened (hr.mono (by decide)) rfl T.m_widened T.k_widened T.b_widened .nil ZeG (Zdn (cv 1) (Zdn (ZdG ZdT (cv 0) Zds (fun _ _ => rfl)) (Zdn (Zey (Zdn ZdJ (Zdn (ZdG ZdT (cv 0) Zds (fun _ _ => rfl)) Zdq))) Zdq)))) rfl))
   ZdI)
  (Zdo (Zd0 (ZdA ZeH (ZdG ZdT (cv 0) Zds (fun _ _ => rfl)) ZdJ (ZdK _))
   (Zdu (Zfa PassesOwn.never rfl (Zj9 (ZdG ZdT (cv 0) Zds (fun _ _ => rfl))) (ZdQ (i := 4) Ze7.nd rfl (.inl rfl))
    (Zdu (Zgs hu (cv 2) (ZdG ZdT (cv 4) Zds (fun _ _ => rfl)) (ZdO G_widened (hr.mono (by decide)) rfl T.m_widened T.k_widened T.b_widened .nil ZeG (Zdn (cv 1) (Zdn (ZdG ZdT (cv 4) Zds (fun _ _ => rfl)) (Zdn (Zey (Zdn ZdJ (Zdn (ZdG ZdT (cv 4) Zds (fun _ _ => rfl)) Zdq))) Zdq)))) rfl))))
   ZdI)
  (Zdu (ZdL (cv 2)))))))), ?_⟩
 have sl : sizeLine = 16777216 := sizeLine_eq
 obtain ⟨_, h2, h3, h4⟩ := ρ.hd ho
 have lp := ρ.pl_le ho
 intro d hd
 have s1 := Zdr hd (.dK [])
 have ed : (upd H d (.dK [])) d = some (.dK []) := Zdp
 dsimp only [Zd1]
 generalize upd H d (.dK []) = H1 at s1 ed ⊢
 have nad : a ≠ d := by
  obtain ⟨kv, e⟩ := hsc.dk
  exact Zdv e hd
 refine ⟨t, ρ, rfl, hi.mono (ZdH.tk s1), ho, fun l H1' S1 hl e1 => ⟨l, rfl, ⟨_, SqL.of e1⟩, ZfK (xs := ρ.pl.map V.int) (fun i σ H2 => ∃ (o : Option V) (kvs : List (Key × V)), σ = [some (.ref t), some (.ref a), some (.ref d), o, none] /\ ZdH H H2 /\ H2 l = some (.lst (ρ.pl.map V.int)) /\ H2 d = some (.dK kvs) /\ (kvs.map (·.1)).Nodup /\ kvs.length <= i /\ ∀ c : Int, Zfp kvs (.inl c) = if c ∈ ρ.pl.take i then some (.ref a) else none)
  ⟨none, [], rfl, s1.trans S1, e1, S1 _ _ ed, Zbq, ZbW _, fun c => by rw [List.take_zero, if_neg Za1]; rfl⟩ (fun i σ H2 _ ⟨_, _, _, _, e, _⟩ => SqL.of e) ?_ ?_⟩⟩
 ·rintro i v σ H2 hv ⟨o, kvs, rfl, S, el, ek, nd, hk, hc⟩
  rw [Zaz] at hv
  obtain ⟨c, hcc, rfl⟩ := Zb8.mp hv
  have hi := (Zaj.mp hcc).1
  have nld : l ≠ d := (Zdv ed hl).symm
  refine ⟨d, _, rfl, Zk1.k (k := Sum.inl c) ek (by omega), _, _, rfl, ZdP S hd _, by rw [Zdt nld]; exact el, Zdp, Zkn _ nd, ZbS (Zej _ _ _) (by omega), fun c' => ?_⟩
  rw [Zes, Zbd, hcc]
  by_cases z : c' = c
  ·rw [if_pos (by rw [z]), if_pos (by simp [z])]
  ·rw [if_neg (fun y => z (by injection y)), hc c']
   simp [z]
 ·rintro σ H2 ⟨o, kvs, rfl, S, el, ek, nd, hk, hc⟩
  rw [Zar, Zbf] at hc
  rw [Zar] at hk
  have hi2 := hi
  have hsc2 := hsc.same S
  have fin : ∀ {o3 o4 : Option V} {H3 : Hp} {kvs : List (Key × V)}, ZdH H H3 -> H3 d = some (.dK kvs) -> (kvs.map (·.1)).Nodup -> kvs.length <= 300 -> InS (fun b => b = a \/ H b = none) H3 kvs ρ g n -> (ZqG (cV 2) { nx := fun _ H' => Q .non H', rt := Q } : St -> Hp -> Prop) [some (.ref t), some (.ref a), some (.ref d), o3, o4] H3 := fun S3 e3 n3 l3 i3 => q d _ _ S3 hd e3 n3 l3 i3
  cases hi2 with
  | @tup _ ys _ et0 hs =>
   have et := S _ _ et0
   cases hs with
   | @cons y _ ys _ hy hs =>
    cases hy
    dsimp only
    cases ρ with
    | fn x k =>
     cases hs with
     | cons a1 hs =>
      cases hs with
      | cons a2 hs =>
       cases a1; cases a2; cases hs
       refine Zmc rfl et h3 ⟨_, et, Zdx (Zdw (j := 1) rfl) ⟨_, et, Zdx (Zdw (j := 2) rfl) ⟨(by show 2 <= sizeLine; decide), fun p hp => ?_⟩⟩⟩
       have sp := Zdr hp (.tup [.str "fn", .int k])
       refine ⟨a, p, g, n, x, ("fn", k), rfl, hsc2.same sp, by omega, Zdp, fun b H4 S4 hb sc4 => ?_⟩
       have S24 := sp.trans S4
       refine ⟨_, S24 _ _ et, Zdx (Zdw (j := 2) rfl) ⟨d, _, rfl, Zk1.k (k := Sum.inl k) (S24 _ _ ek) (by omega), ?_⟩⟩
       have nbd : b ≠ d := (Zdv (sp _ _ ek) hb).symm
       have et5 : (upd H4 d (.dK (Zgz kvs (Sum.inl k) (.ref b)))) t = some (.tup (.str "fn" :: [.str x, .int k])) := by rw [Zdt (ZgC (S24 _ _ et) (S24 _ _ ek) (fun z => nomatch z))]; exact S24 _ _ et
       dsimp only
       refine ZgM rfl et5 h4 (ZgM rfl et5 h2 (fin (ZdP (S.trans S24) hd _) Zdp (Zkn _ nd) (ZbS (Zej _ _ _) (by omega)) fun c => ?_))
       by_cases z : c = k
       ·exact .inr ⟨0, _, b, .inr ((S.trans sp).free hb), by rw [z]; rfl, rfl, by rw [Zes, if_pos (by rw [z])], sc4.upd (S24 _ _ ek) nbd⟩
       ·exact .inl ⟨by rw [Zes, if_neg (fun y => z (by injection y)), hc c, if_neg (by simpa [Ro.pl] using z)], by simpa [Ro.pl] using z⟩
    | lt x k1 k2 =>
     refine ZgM rfl et h3 ?_
     cases hs with
     | cons a1 hs =>
      cases hs with
      | cons a2 hs =>
       cases hs with
       | cons a3 hs =>
        cases a1; cases a2; cases a3; cases hs
        refine Zmc rfl et h4 ⟨_, et, Zdx (Zdw (j := 1) rfl) ⟨_, et, Zdx (Zdw (j := 2) rfl) ⟨(by show 2 <= sizeLine; decide), fun p hp => ?_⟩⟩⟩
        have sp := Zdr hp (.tup [.str "let", .int k1])
        refine ⟨a, p, g, n, x, ("let", k1), rfl, hsc2.same sp, by omega, Zdp, fun b H4 S4 hb sc4 => ?_⟩
        have S24 := sp.trans S4
        refine ⟨_, S24 _ _ et, Zdx (Zdw (j := 3) rfl) ⟨d, _, rfl, Zk1.k (k := Sum.inl k2) (S24 _ _ ek) (by omega), ?_⟩⟩
        have nbd : b ≠ d := (Zdv (sp _ _ ek) hb).symm
        have et5 : (upd H4 d (.dK (Zgz kvs (Sum.inl k2) (.ref b)))) t = some (.tup (.str "let" :: [.str x, .int k1, .int k2])) := by rw [Zdt (ZgC (S24 _ _ et) (S24 _ _ ek) (fun z => nomatch z))]; exact S24 _ _ et
        dsimp only
        refine ZgM rfl et5 h2 (fin (ZdP (S.trans S24) hd _) Zdp (Zkn _ nd) (ZbS (Zej _ _ _) (by omega)) fun c => ?_)
        by_cases z : c = k2
        ·exact .inr ⟨1, _, b, .inr ((S.trans sp).free hb), by rw [z]; rfl, rfl, by rw [Zes, if_pos (by rw [z])], sc4.upd (S24 _ _ ek) nbd⟩
        ·by_cases z1 : c = k1
         ·exact .inr ⟨0, _, a, .inl rfl, by rw [z1]; rfl, rfl, by rw [Zes, if_neg (fun y => z (by injection y)), hc c, if_pos (by simp [Ro.pl, z1])], ((hsc2.same S24).upd (S24 _ _ ek) nad).le (ZbZ _)⟩
         ·exact .inl ⟨by rw [Zes, if_neg (fun y => z (by injection y)), hc c, if_neg (by simp [Ro.pl, z, z1])], by simp [Ro.pl, z, z1]⟩
    | case k0 l =>
     refine ZgM rfl et h3 (ZgM rfl et h4 ?_)
     cases hs with
     | cons a1 hs =>
      cases hs with
      | cons a2 hs =>
       cases a1; cases hs
       cases a2 with
       | @tup ta xs _ eta hxs =>
        have lx := hxs.length
        rw [Zar] at lx
        have hl100 : l.length <= 100 := ho.1
        refine Zmc rfl et h2 ⟨_, et, Zdx (Zdw (j := 2) rfl) ⟨ta, rfl, ⟨_, SqT.of (S _ _ eta)⟩, Zle (xs := xs) (fun i σ H3 => ∃ (o4 : Option V) (kvs : List (Key × V)), σ = [some (.ref t), some (.ref a), some (.ref d), o, o4] /\ ZdH H H3 /\ H3 d = some (.dK kvs) /\ (kvs.map (·.1)).Nodup /\ kvs.length <= 101 + i /\ ∀ c : Int, (∃ (j : Nat) (p : Str × Str × Int) (b : Addr), j < i /\ l[j]? = some p /\ p.2.2 = c /\ Zfp kvs (.inl c) = some (.ref b) /\ (b ≠ d /\ H b = none) /\ Sc H3 b (wid g p.2.1 ("arm", c)) (n + 1)) \/ ((∀ (j : Nat) (p : Str × Str × Int), j < i -> l[j]? = some p -> p.2.2 ≠ c) /\ Zfp kvs (.inl c) = if c ∈ (Ro.case k0 l).pl then some (.ref a) else none))
         ⟨none, kvs, rfl, S, ek, nd, by omega, fun c => .inr ⟨fun j p hj => absurd hj (Zb1 _), hc c⟩⟩ (fun i σ H3 _ ⟨_, _, _, S3, _⟩ => SqT.of (S3 _ _ eta)) ?_ ?_⟩⟩
        ·rintro i v σ H3 hv ⟨o4, kvs, rfl, S3, ek, nd, hk, hc⟩
         obtain ⟨dd, hdd, him⟩ := Zfk hxs hv
         rw [Zaz] at hdd
         obtain ⟨⟨tg, x, kk⟩, hp, rfl⟩ := Zb8.mp hdd
         have hi := (Zaj.mp hp).1
         cases him with
         | @tup tb _ _ eb hb =>
          cases hb with
          | cons b1 hb =>
           cases hb with
           | cons b2 hb =>
            cases hb with
            | cons b3 hb =>
             cases b1; cases b2; cases b3; cases hb
             refine ⟨_, S3 _ _ eb, Zdx (Zdw (j := 1) rfl) ⟨_, S3 _ _ eb, Zdx (Zdw (j := 2) rfl) ⟨(by show 2 <= sizeLine; decide), fun p hp' => ?_⟩⟩⟩
             have sp := Zdr hp' (.tup [.str "arm", .int kk])
             refine ⟨a, p, g, n, x, ("arm", kk), rfl, (hsc.same S3).same sp, by omega, Zdp, fun b H4 S4 hb sc4 => ?_⟩
             have S34 := sp.trans S4
             refine ⟨_, S34 _ _ (S3 _ _ eb), Zdx (Zdw (j := 2) rfl) ⟨d, _, rfl, Zk1.k (k := Sum.inl kk) (S34 _ _ ek) (by omega), ?_⟩⟩
             have nbd : b ≠ d := (Zdv (sp _ _ ek) hb).symm
             refine ⟨_, _, rfl, ZdP (S3.trans S34) hd _, Zdp, Zkn _ nd, ZbS (Zej _ _ _) (by omega), fun c => ?_⟩
             by_cases z : c = kk
             ·exact .inl ⟨i, _, b, ZbY _, hp, z.symm, by rw [Zes, if_pos (by rw [z])], ⟨nbd, (S3.trans sp).free hb⟩, by rw [z]; exact sc4.upd (S34 _ _ ek) nbd⟩
             ·rcases hc c with ⟨j, p, b', c1, c2, c3, c4, c5, c6⟩ | ⟨c1, c2⟩
              ·exact .inl ⟨j, p, b', Zb0 c1, c2, c3, by rw [Zes, if_neg (fun y => z (by injection y))]; exact c4, c5, (c6.same S34).upd (S34 _ _ ek) c5.1⟩
              ·refine .inr ⟨fun j p hj hp2 => ?_, by rw [Zes, if_neg (fun y => z (by injection y))]; exact c2⟩
               by_cases e : j = i
               ·rw [e, hp] at hp2
                cases hp2
                exact fun y => z y.symm
               ·exact c1 j p (by omega) hp2
        ·rintro σ H3 ⟨o4, kvs, rfl, S3, ek, nd, hk, hc⟩
         refine fin (o3 := o) (o4 := o4) S3 ek nd (by omega) fun c => ?_
         rcases hc c with ⟨j, p, b', c1, c2, c3, c4, c5, c6⟩ | ⟨c1, c2⟩
         ·refine .inr ⟨j + 1, some (p.2.1, ("arm", p.2.2)), b', .inr c5.2, ?_, ?_, c4, ?_⟩
          ·show (k0 :: l.map fun p => p.2.2)[j + 1]? = _
           rw [Za2, Zaz, c2, <- c3]
           rfl
          ·show (none :: l.map fun p => some (p.2.1, (("arm" : Str), p.2.2)))[j + 1]? = _
           rw [Za2, Zaz, c2]
           rfl
          ·rw [c3]
           exact c6
         ·by_cases z : c = k0
          ·exact .inr ⟨0, none, a, .inl rfl, by rw [z]; rfl, rfl, by rw [c2, if_pos (by simp [Ro.pl, z])], (hsc.same S3).le (ZbZ _)⟩
          ·have nm : c ∉ (Ro.case k0 l).pl := fun hm => by
            rcases Zag.mp (show c ∈ (k0 :: l.map fun p => p.2.2) from hm) with h | h
            ·exact z h
            ·obtain ⟨p, hp, e⟩ := ZaS.mp h
             obtain ⟨j, hj⟩ := Zbt.mp hp
             exact c1 j p (by rw [lx]; exact (Zaj.mp hj).1) hj e
           exact .inl ⟨by rw [c2, if_neg nm], nm⟩
    | _ =>
     exact ZgM rfl et h3 (ZgM rfl et h4 (ZgM rfl et h2 (fin S ek nd (by omega) (Zmd (.inl rfl) rfl hsc2 hc))))
end
theorem Zix {K : PySem.W.Frag} {a : Addr} {xs : List V} {g : TG} {tb : TS} {D : ZfS} {σ : St} {H : Hp} (Pv : Nat -> St -> Hp -> Prop) (h0 : Pv 0 σ H) (hl : ∀ i σ H, i <= xs.length -> Pv i σ H -> SqL K H a xs)
  (hs : ∀ (i : Nat) (x : V) (σ : St) (H : Hp) (T : Addr), xs[i]? = some x -> Pv i σ H -> H T = none -> g (.ref T) σ (upd H T (.tup [.int (i : Int), x])) fun σ2 H2 => tb { D with nx := Pv (i + 1), ct := Pv (i + 1), bk := D.nx } σ2 H2) (hd : ∀ σ H, Pv xs.length σ H -> D.nx σ H) :
  ∃ W : Nat -> Nat -> St -> Hp -> Prop, (∃ m, W 0 m σ H) /\ ∀ i m σ H, W i m σ H ->
   ((Ite K a).stop i H /\ D.nx σ H) \/ ((Ite K a).go i H /\ ∃ N : St -> Hp -> Prop, (∀ σ' H', N σ' H' -> ∃ m', m' < m /\ W (i + 1) m' σ' H') /\ ∀ x H', (Ite K a).yld i H x H' -> g x σ H' fun σ2 H2 => tb { D with nx := N, ct := N, bk := D.nx } σ2 H2) := by
 refine ⟨fun i m σ H => m = xs.length - i /\ i <= xs.length /\ Pv i σ H, ⟨xs.length, by simp, ZbW _, h0⟩, ?_⟩
 rintro i m σ H ⟨rfl, hi, p⟩
 have q := hl i σ H hi p
 by_cases hlt : i < xs.length
 ·refine .inr ⟨⟨xs, xs[i], q, by simp [hlt]⟩, Pv (i + 1), fun σ' H' p' => ⟨xs.length - (i + 1), by omega, rfl, hlt, p'⟩, fun v H' y => ?_⟩
  obtain ⟨T, x, rfl, hT, rfl, hx⟩ := y
  exact hs i x σ H T (hx xs q) p hT
 ·have e : i = xs.length := by omega
  subst e
  exact .inl ⟨⟨xs, q, rfl⟩, hd σ H p⟩
theorem ZkX {f : Str} {v : V} {r : List (Str × V)} : Zap f ((f, v) :: r) = some v := by
 rw [ZaW, show (f == f) = true by simp]
theorem Znd {f g : Str} {v : V} {r : List (Str × V)} (h : (f == g) = false) : Zap f ((g, v) :: r) = Zap f r := by
 rw [ZaW, h]
noncomputable def fP (n r w : Addr) : List (Str × V) := [("names", .ref n), ("roots", .ref r), ("rows", .ref w)]
theorem ZgN (n r w : Addr) : (fP n r w).lookup ("names" : Str) = some (.ref n) := ZkX
theorem ZfO (n r w : Addr) : (fP n r w).lookup ("roots" : Str) = some (.ref r) := (Znd (by decide +kernel)).trans ZkX
theorem Zf3 (n r w : Addr) : (fP n r w).lookup ("rows" : Str) = some (.ref w) := (Znd (by decide +kernel)).trans ((Znd (by decide +kernel)).trans ZkX)
noncomputable def nI (k : Nat) : V := .int (k : Int)
structure PrA (C : Addr) (H : Hp) (p n r w dx : Addr) (xs : List V) (names : List Str) (roots : List Nat) (ρs : List Ro) : Prop where
 o : H p = some (.ins C dx (fP n r w))
 n : H n = some (.lst (names.map V.str))
 r : H r = some (.lst (roots.map nI))
 w : H w = some (.lst xs)
 i : Ims H xs (ρs.map Ro.d)
theorem PrA.same {C : Addr} {H H' : Hp} {p n r w dx : Addr} {xs : List V} {names : List Str} {roots : List Nat} {ρs : List Ro} (h : PrA C H p n r w dx xs names roots ρs) (s : ZdH H H') : PrA C H' p n r w dx xs names roots ρs := ⟨s _ _ h.o, s _ _ h.n, s _ _ h.r, s _ _ h.w, h.i.mono (ZdH.tk s)⟩
noncomputable def G0 (names : List Str) : Nat -> (Str -> Option Hm)
 | 0 => fun _ => none
 | d + 1 => match names[d]? with
  | some x => wid (G0 names d) x ("def", (d : Int))
  | none => G0 names d
structure Zqh (names : List Str) (roots : List Nat) (ρs : List Ro) (out : Nat -> Str -> Option Hm) : Prop where
 nn : names.Nodup
 nl : names.length <= 12
 rl : roots.length = names.length
 ok : ∀ ρ ∈ ρs, ρ.ok
 pn : ρs.length <= 1000
 rlt : ∀ (i r : Nat), roots[i]? = some r -> r < ρs.length
 root : ∀ (i r : Nat) (ρ : Ro), roots[i]? = some r -> ρs[r]? = some ρ -> out r = if ρ.isF = true then G0 names (i + 1) else G0 names i
 kid : ∀ (k : Nat) (ρ : Ro) (j : Nat) (c : Int) (e : Option (Str × Hm)), ρs[k]? = some ρ -> ρ.pl[j]? = some c -> ρ.ex[j]? = some e -> ∃ m : Nat, c = (m : Int) /\ k < m /\ out m = exG (out k) e
 reach : ∀ k : Nat, k < ρs.length -> (∃ i : Nat, roots[i]? = some k) \/ ∃ (k' : Nat) (ρ : Ro), k' < k /\ ρs[k']? = some ρ /\ (k : Int) ∈ ρ.pl
noncomputable def duo (out : Nat -> Str -> Option Hm) (k : Nat) : Ro -> Option Hm
 | .name x => out k x
 | _ => none
noncomputable def hoD : Option Hm -> Dt
 | none => .flat .non
 | some h => hmD h
theorem Ziy {H : Hp} {xs : List V} {ρs : List Ro} {k : Nat} {ρ : Ro} (h : Ims H xs (ρs.map Ro.d)) (e : ρs[k]? = some ρ) : ∃ (t : Addr) (ys : List V), xs[k]? = some (.ref t) /\ H t = some (.tup (.str ρ.s :: ys)) /\ Ims H ys ρ.r /\ Im H (.ref t) ρ.d := by
 have lx := h.length
 rw [Zar] at lx
 have hk := (Zaj.mp e).1
 obtain ⟨d, hd, him⟩ := Zfk h (Za0 (show k < xs.length by omega))
 rw [Zaz, e] at hd
 cases hd
 have h0 : xs[k]? = some xs[k] := Za0 (by omega)
 generalize xs[k] = v at h0 him
 have him' := him
 cases him with
 | @tup t ys _ et hs =>
  cases hs with
  | cons a hs =>
   cases a
   exact ⟨t, _, h0, et, hs, him'⟩
section
variable {P : Program} {w : World} {K : PySem.W.Frag} {mg : Str -> Option Value} {base : Heap}
def ZhY (C : Addr) : Sp := fun vs H Q _ => ∃ (p n r w dx : Addr) (xs : List V) (names : List Str) (roots : List Nat) (ρs : List Ro) (out : Nat -> Str -> Option Hm), vs = [.ref p] /\ PrA C H p n r w dx xs names roots ρs /\ Zqh names roots ρs out /\
 ∀ d kvs H', ZdH H H' -> H d = none -> H' d = some (.dK kvs) -> kvs.length <= 12 -> (∀ (i c : Nat), roots[i]? = some c -> ∃ a, a ≠ d /\ Zfp kvs (.inl (c : Int)) = some (.ref a) /\ Sc H' a (out c) 20) -> Q (.ref d) H'
theorem ZhZ (T : Txt K mg) : ZfA P w K mg base CX0 2 T.a_root_scopes T.fd_root_scopes ["program"] (ZhY T.a_Program) := by
 have G_widened := Zid (P := P) (w := w) (base := base) T
 refine T.F_root_scopes.ok Zef (fun vs H Q E h => ?_) (fun cdv A outer s H vs Q E hr h => ?_)
 ·obtain ⟨p, n, r, w, dx, xs, names, roots, ρs, out, rfl, _⟩ := h
  rfl
 have hu := ZkK hr
 obtain ⟨p, n, r, w, dx, xs, names, roots, ρs, out, rfl, pr, gd, q⟩ := h
 refine ⟨_, (Zdo (ZdE (i := 1) Zef.nd rfl (.inl rfl) Zhf)
  (Zdo (ZdE (i := 2) Zef.nd rfl (.inl rfl) Zhf)
  (Zdo (Zfa PassesOwn.never rfl (ZjL rfl T.z_enumerate (Zdn (Zev T.cl_Program T.n_Program_names (cv 0)) Zdq)) (Zg3 rfl (ZdY (ZdQ (i := 3) Zef.nd rfl (.inl rfl)) (ZdY (ZdQ (i := 4) Zef.nd rfl (.inl rfl)) ZfF)))
   (Zdo (ZdE (i := 5) Zef.nd rfl (.inl rfl) (ZdG ZdD (Zev T.cl_Program T.n_Program_roots (cv 0)) (cv 3) (fun _ _ => rfl)))
   (Zdo (ZdE (i := 6) Zef.nd rfl (.inl rfl) (ZdO G_widened (hr.mono (by decide)) rfl T.m_widened T.k_widened T.b_widened .nil ZeG (Zdn (cv 2) (Zdn (cv 4) (Zdn (Zey (Zdn ZdJ (Zdn (cv 3) Zdq))) Zdq)))))
   (Zdo (Zgs hu (cv 1) (cv 5) (ZmG (ZdA ZeH (ZdG ZdT (ZdG ZdD (Zev T.cl_Program T.n_Program_rows (cv 0)) (cv 5) (fun _ _ => rfl)) Zds (fun _ _ => rfl)) ZdJ (ZdK _)) (cv 6) (cv 2)) rfl)
   (Zdu (ZdE (i := 2) Zef.nd rfl (.inl rfl) (cv 6)))))))
  (Zdu (ZdL (cv 1)))))), ?_⟩
 have sl : sizeLine = 16777216 := sizeLine_eq
 intro d hd
 have s1 := Zdr hd (.dK [])
 have ed : (upd H d (.dK [])) d = some (.dK []) := Zdp
 dsimp only [Zd1]
 generalize upd H d (.dK []) = H1 at s1 ed ⊢
 intro ae hae
 have s2 := Zdr hae (.dK [])
 have ea : (upd H1 ae (.dK [])) ae = some (.dK []) := Zdp
 dsimp only [Zd1]
 generalize upd H1 ae (.dK []) = H2 at s2 ea ⊢
 have nad : ae ≠ d := (Zdv ed hae).symm
 have pr2 := pr.same (s1.trans s2)
 have nl := gd.nl
 refine ⟨_, ⟨dx, _, pr2.o, ZgN _ _ _⟩, n, rfl, ⟨_, SqL.of pr2.n⟩, Zix (xs := names.map V.str) (fun i σ H3 => ∃ (o3 o4 o5 o6 : Option V) (ae : Addr) (kvs : List (Key × V)), σ = [some (.ref p), some (.ref d), some (.ref ae), o3, o4, o5, o6] /\ ZdH H H3 /\ H3 d = some (.dK kvs) /\ kvs.length <= i /\ ae ≠ d /\ Sc H3 ae (G0 names i) i /\ ∀ (i' c : Nat), i' < i -> roots[i']? = some c -> ∃ a, a ≠ d /\ Zfp kvs (.inl (c : Int)) = some (.ref a) /\ Sc H3 a (out c) 20)
  ⟨none, none, none, none, ae, [], rfl, s1.trans s2, s2 _ _ ed, ZbV _, nad, ⟨[], ea, ZbV _, fun w => rfl⟩, fun i' c h => absurd h (Zb1 _)⟩ (fun i σ H3 _ ⟨_, _, _, _, _, _, _, S, _⟩ => SqL.of (S _ _ pr.n)) ?_ ?_⟩
 ·rintro i v σ H3 t hx ⟨o3, o4, o5, o6, ae, kvs, rfl, S, ek, hk, nad, sca, hroots⟩ ht
  rw [Zaz] at hx
  obtain ⟨x, hx', rfl⟩ := Zb8.mp hx
  clear hx
  have hx := hx'
  have hi := (Zaj.mp hx).1
  have rl := gd.rl
  obtain ⟨c, hc⟩ : ∃ c, roots[i]? = some c := ⟨_, Za0 (by omega)⟩
  have hcl := gd.rlt i c hc
  obtain ⟨ρ, hρ⟩ : ∃ ρ, ρs[c]? = some ρ := ⟨_, Za0 hcl⟩
  have sT := Zdr ht (.tup [.int (i : Int), .str x])
  refine ⟨t, _, rfl, SqT.of Zdp, rfl, _, _, rfl, _, _, rfl, rfl, ?_⟩
  have S4 := S.trans sT
  generalize upd H3 t (.tup [.int (i : Int), .str x]) = H4 at sT S4
  have pr4 := pr.same S4
  have hcI : (roots.map nI)[i]? = some (.int (c : Int)) := by rw [Zaz, hc]; rfl
  refine ⟨_, ⟨dx, _, pr4.o, ZfO _ _ _⟩, _, pr4.r, Zdx (Zdw hcI) ?_⟩
  refine ⟨(by show 2 <= sizeLine; decide), fun pp hpp => ?_⟩
  have s5 := Zdr hpp (.tup [.str "def", .int (i : Int)])
  refine ⟨ae, pp, G0 names i, i, x, ("def", (i : Int)), rfl, (sca.same sT).same s5, by omega, Zdp, fun b H6 S6 hb sc6 => ?_⟩
  have S36 := (sT.trans s5).trans S6
  have SH6 := S.trans S36
  have pr6 := pr.same SH6
  obtain ⟨tr, ys, hxt, etr, _, _⟩ := Ziy pr6.i hρ
  refine ⟨_, ⟨dx, _, pr6.o, Zf3 _ _ _⟩, _, pr6.w, Zdx (Zdw hxt) ⟨_, etr, Zdx (Zdw (j := 0) rfl) ?_⟩⟩
  dsimp only [tC, cEq, onB]
  obtain ⟨_, _, h3, _⟩ := ρ.hd (gd.ok ρ (ZaA hρ))
  rw [Zc4, h3]
  have nbd : b ≠ d := (Zdv (s5 _ _ (sT _ _ ek)) hb).symm
  have g1 : G0 names (i + 1) = wid (G0 names i) x ("def", (i : Int)) := by rw [G0, hx]
  have hout := gd.root i c ρ hc hρ
  have nx : ∀ z : Addr, z ≠ d -> Sc H6 z (out c) 20 -> ∃ (a : Addr) (H' : Hp), V.ref d = .ref a /\ Zk1 H6 a (.int (c : Int)) (.ref z) H' /\ ∃ (o3 o4 o5 o6 : Option V) (ae : Addr) (kvs : List (Key × V)), [some (V.ref p), some (.ref d), some (.ref b), some (.int (i : Int)), some (.str x), some (.int (c : Int)), some (.ref b)] = [some (V.ref p), some (.ref d), some (.ref ae), o3, o4, o5, o6] /\ ZdH H H' /\ H' d = some (.dK kvs) /\ kvs.length <= i + 1 /\ ae ≠ d /\ Sc H' ae (G0 names (i + 1)) (i + 1) /\ ∀ (i' c : Nat), i' < i + 1 -> roots[i']? = some c -> ∃ a, a ≠ d /\ Zfp kvs (.inl (c : Int)) = some (.ref a) /\ Sc H' a (out c) 20 := fun z nzd hz => by
   have e6 := S36 _ _ ek
   refine ⟨d, _, rfl, Zk1.k (k := Sum.inl (c : Int)) e6 (by omega), _, _, _, _, b, _, rfl, ZdP SH6 hd _, Zdp, ZbS (Zej _ _ _) (by omega), nbd, by rw [g1]; exact sc6.upd e6 nbd, fun i' c' hi' hc' => ?_⟩
   by_cases y : c' = c
   ·rw [y]
    exact ⟨z, nzd, by rw [Zes, if_pos rfl], hz.upd e6 nzd⟩
   ·have : i' ≠ i := fun z => y (by rw [z, hc] at hc'; exact (Zb4.inj hc').symm)
    obtain ⟨a, h1, h2, h3⟩ := hroots i' c' (by omega) hc'
    exact ⟨a, h1, by rw [Zes, if_neg (fun z => y (by injection z with z; omega))]; exact h2, (h3.same S36).upd e6 h1⟩
  cases hF : ρ.isF with
  | true =>
   rw [hF, if_pos rfl, g1] at hout
   exact Zfq (nx b nbd (by rw [hout]; exact sc6.le (by omega)))
  | false =>
   rw [hF, if_neg ZcY] at hout
   exact Zet (nx ae nad (by rw [hout]; exact (sca.same S36).le (by omega)))
 ·rintro σ H3 ⟨o3, o4, o5, o6, ae, kvs, rfl, S, ek, hk, nad, sca, hroots⟩
  rw [Zar] at hk hroots
  refine q d kvs H3 S hd ek (by omega) fun i c hc => ?_
  have rl := gd.rl
  exact hroots i c (by have := (Zaj.mp hc).1; omega) hc
end
section
variable {P : Program} {w : World} {K : PySem.W.Frag} {mg : Str -> Option Value} {base : Heap}
def HoA (H : Hp) (xs : List V) (ρs : List Ro) (out : Nat -> Str -> Option Hm) : Prop := ∀ (k : Nat) (x : V) (ρ : Ro), xs[k]? = some x -> ρs[k]? = some ρ -> Im H x (hoD (duo out k ρ))
theorem Ro.nm_ne (ρ : Ro) (h : ρ.ok) (hn : ∀ x, ρ ≠ .name x) : ρ.s ≠ "name" := by
 cases ρ with
 | name x => exact absurd rfl (hn x)
 | op s ks => exact of_decide_eq_false (Zjz _ h "name" (by decide +kernel) ⟨s, ks, rfl⟩)
 | num a => exact (show ("num" : Str) ≠ "name" from by decide +kernel)
 | fn a b => exact (show ("fn" : Str) ≠ "name" from by decide +kernel)
 | tag a b => exact (show ("tag" : Str) ≠ "name" from by decide +kernel)
 | lt a b c => exact (show ("let" : Str) ≠ "name" from by decide +kernel)
 | get a b => exact (show ("get" : Str) ≠ "name" from by decide +kernel)
 | rcd a => exact (show ("rec" : Str) ≠ "name" from by decide +kernel)
 | case a b => exact (show ("case" : Str) ≠ "name" from by decide +kernel)
 | row a => exact (show ("row" : Str) ≠ "name" from by decide +kernel)
theorem ZfD {H : Hp} {l : Addr} {u o : HO} (e : H l = some u) (nt : ∀ zs, u ≠ .tup zs) : TK H (upd H l o) := fun a xs q => by rw [Zdt (ZgC q e (fun z => nt _ z.symm))]; exact q
theorem Sc.updL {H : Hp} {a l : Addr} {g : Str -> Option Hm} {n : Nat} {ys : List V} {o : HO} (h : Sc H a g n) (e : H l = some (.lst ys)) : Sc (L2.Internal.upd H l o) a g n := by
 obtain ⟨kvs, e1, l', h⟩ := h
 refine ⟨kvs, by rw [Zdt (ZgC e1 e (fun z => nomatch z))]; exact e1, l', fun w => ?_⟩
 have := h w
 cases hg : g w with
 | none => rw [hg] at this; exact this
 | some z =>
  rw [hg] at this
  obtain ⟨t, h1, h2⟩ := this
  exact ⟨t, h1, by rw [Zdt (ZgC h2 e (fun z => nomatch z))]; exact h2⟩
end
theorem Zqi {P : Program} {w : World} {X : Cx} : Zhn (CXF P w) X E0 := fun _ _ _ _ _ _ _ h => by
 obtain ⟨_, _, _, _, _, _, _, _, _, _, z⟩ := h
 exact z.elim
noncomputable def nnD (dx : Addr) (x : Str) (k : Int) : HO := ZjQ dx [("word", .str x), ("place", .int k)]
section
variable {P : Program} {w : World} {K : PySem.W.Frag} {mg : Str -> Option Value} {base : Heap}
def ZgO (C : Addr) : Sp := fun vs H Q _ => ∃ (e : Addr) (x : Str) (k : Int), vs = [.ref e, .str x, .int k] /\ H e = some (ZnI e C) /\ ∀ dx, H dx = none -> dx ≠ e -> Q .non (upd (upd H e (ZkS e C dx)) dx (nnD dx x k))
theorem ZgP (T : Txt K mg) : ZfA P w K mg base CX0 1 T.a_NoName___init__ T.fd_NoName___init__ ["self", "word", "place"] (ZgO T.a_NoName) := by
 refine T.F_NoName___init__.ok ZgL (fun vs H Q E h => ?_) (fun cdv A outer s H vs Q E hr h => ?_)
 ·obtain ⟨e, x, k, rfl, _⟩ := h
  rfl
 obtain ⟨e, x, k, rfl, he, q⟩ := h
 refine ⟨_, (Zdo (Zkj rfl (cv 0) (cv 1) rfl)
  (Zdu (Zm7 (cv 0) (cv 2) rfl))), ?_⟩
 refine ⟨e, _, rfl, he, T.xs_NoName, T.xf_NoName_word, fun dx hdx hne => ⟨e, _, dx, _, rfl, by rw [Zdt hne.symm, Zdp], Zdp, hne, (by show 1 < 40; decide), T.xs_NoName, T.xf_NoName_place, ?_⟩⟩
 have hp : Zhe ("place" : Str) (.int k) [(("word" : Str), V.str x)] = [(("word" : Str), V.str x), (("place" : Str), V.int k)] := by
  simp only [Zhe, if_neg (show ¬ (("word" : Str) = "place") from by decide +kernel)]
 have := q dx hdx hne
 rw [hp, ZgT]
 exact this
def Zif (C : Addr) : Sp := fun vs H Q E => ∃ (t a : Addr) (k : Int) (g : Str -> Option Hm) (n : Nat) (s : Str) (r : List V), vs = [.ref t, .int k, .ref a] /\ H t = some (.tup (.str s :: r)) /\ Sc H a g n /\ (s ≠ "name" -> Q .non H) /\
 (s = "name" -> ∃ x : Str, r = [.str x] /\ (∀ h, g x = some h -> ∀ p, H p = some (.tup [.str h.1, .int h.2]) -> Q (.ref p) H) /\ (g x = none -> ∀ dx H', ZdH H H' -> H' dx = some (nnD dx x k) -> E (.ref C) (some dx) H'))
theorem ZkY (T : Txt K mg) : ZfA P w K mg base (CXF P w) 3 T.a_home_of T.fd_home_of ["row", "place", "scope"] (Zif T.a_NoName) := by
 have G_NoName___init__ := ZgP (P := P) (w := w) (base := base) T
 refine T.F_home_of.okF ZkU (fun vs H Q E h => ?_) (fun cdv A outer s H vs Q E hr h => ?_)
 ·obtain ⟨t, a, k, g, n, s, r, rfl, _⟩ := h
  rfl
 have hu := ZkK hr
 obtain ⟨t, a, k, g, n, s', r, rfl, et, ⟨kvs, e, l, hk⟩, q1, q2⟩ := h
 refine ⟨_, (Zdo (Zd0 (ZdA ZkN (ZdG ZdT (cv 0) Zds (fun _ _ => rfl)) ZdJ (ZdK _))
   (Zdu (ZdL Zgh))
   ZdI)
  (Zdo (Zd0 (Zgi (Zlw hu (ZdG ZdT (cv 0) Zds (fun _ _ => rfl)) (cv 2)) rfl)
   (Zdu (Zja rfl rfl ZlZ T.xi_NoName G_NoName___init__ (hr.mono (by decide)) T.b_NoName___init__ rfl T.m_NoName (Zdn (ZdG ZdT (cv 0) Zds (fun _ _ => rfl)) (Zdn (cv 1) Zdq))))
   ZdI)
  (Zdu (ZdL (Zlv hu (cv 2) (ZdG ZdT (cv 0) Zds (fun _ _ => rfl)) (fun _ _ => rfl)))))), ?_⟩
 refine ⟨_, et, Zdx (Zdw (j := 0) rfl) ?_⟩
 dsimp only [tC, cEq, onB]
 by_cases hs : s' = "name"
 ·obtain ⟨x, rfl, q3, q4⟩ := q2 hs
  rw [decide_eq_true hs]
  have hh := hk x
  have dg := Zk0.k (k := (Sum.inr x : Key)) e
  cases hg : g x with
  | some h =>
   rw [hg] at hh
   obtain ⟨p, h1, h2⟩ := hh
   rw [h1] at dg
   exact Zet ⟨_, et, Zdx (Zdw (j := 1) rfl) ⟨a, _, rfl, dg, _, rfl, Zet ⟨_, et, Zdx (Zdw (j := 1) rfl) ⟨a, _, rfl, dg, q3 h hg p h2⟩⟩⟩⟩
  | none =>
   rw [hg] at hh
   have hh : Zfp kvs (Sum.inr x) = none := hh
   rw [hh] at dg
   refine Zet ⟨_, et, Zdx (Zdw (j := 1) rfl) ⟨a, _, rfl, dg, _, rfl, Zfq ⟨_, et, Zdx (Zdw (j := 1) rfl) ⟨(by show 2 <= sizeLine; decide), fun o ho => ⟨o, x, k, rfl, Zdp, fun d hd hde => ⟨rfl, d, ?_, ?_⟩⟩⟩⟩⟩⟩
   ·rw [Zdt hde.symm, Zdp]
   ·have hd' : H d = none := by rw [Zdt hde] at hd; exact hd
    refine q4 hg d _ (fun b u hb => ?_) (by rw [Zhy hde, Zdp])
    rw [Zhy (Zdv hb ho), Zdt (Zdv hb hd'), Zdt (Zdv hb ho), Zdt (Zdv hb ho)]
    exact hb
 ·rw [decide_eq_false hs]
  exact Zfq (q1 hs)
theorem Zne {H H7 : Hp} {ρ : Ro} {zs : List V} {out : Nat -> Str -> Option Hm} {i : Nat} {Qx : VK} {B : Str -> Prop} (rok : ρ.ok) (hzs : Ims H zs ρ.r) (key : (∀ x, ρ = .name x -> ∃ h, out i x = some h) -> ∀ y, Im H7 y (hoD (duo out i ρ)) -> Qx y H7) (bad : ∀ x, ρ = .name x -> out i x = none -> B x) :
  (ρ.s ≠ "name" -> Qx .non H7) /\ (ρ.s = "name" -> ∃ x : Str, zs = [.str x] /\ (∀ h, out i x = some h -> ∀ p, H7 p = some (.tup [.str h.1, .int h.2]) -> Qx (.ref p) H7) /\ (out i x = none -> B x)) := by
 have no : (∀ x, ρ ≠ .name x) -> duo out i ρ = none -> (ρ.s ≠ "name" -> Qx .non H7) /\ (ρ.s = "name" -> ∃ x : Str, zs = [.str x] /\ (∀ h, out i x = some h -> ∀ p, H7 p = some (.tup [.str h.1, .int h.2]) -> Qx (.ref p) H7) /\ (out i x = none -> B x)) := fun h e => ⟨fun _ => key (fun x z => absurd z (h x)) _ (by rw [e]; exact .flat rfl), fun z => absurd z (ρ.nm_ne rok h)⟩
 cases ρ with
 | name x =>
  refine ⟨fun z => absurd rfl z, fun _ => ?_⟩
  cases hzs with
  | cons a b =>
   cases a; cases b
   refine ⟨x, rfl, fun h hh p hp => key (fun y e => by cases e; exact ⟨h, hh⟩) _ ?_, bad x rfl⟩
   show Im H7 _ (hoD (out i x))
   rw [hh]
   exact .tup hp (.cons (.flat rfl) (.cons (.flat rfl) .nil))
 | _ => exact no (fun x z => nomatch z) rfl
theorem Zme {C : Addr} {H H7 : Hp} {ρ : Ro} {zs : List V} {out : Nat -> Str -> Option Hm} {i : Nat} {Qx : VK} {E : XK} {t a : Addr} {n : Nat} {σ : St} (rok : ρ.ok) (hzs : Ims H zs ρ.r) (et : H7 t = some (.tup (.str ρ.s :: zs))) (sc : Sc H7 a (out i) n) (h4 : σ[4]? = some (some (.ref t))) (h3 : σ[3]? = some (some (.int (i : Int)))) (h5 : σ[5]? = some (some (.ref a)))
  (key : (∀ x, ρ = .name x -> ∃ h, out i x = some h) -> ∀ y, Im H7 y (hoD (duo out i ρ)) -> Qx y H7) (bad : ∀ x, ρ = .name x -> out i x = none -> ∀ dx H', ZdH H7 H' -> H' dx = some (nnD dx x (i : Int)) -> E (.ref C) (some dx) H') :
  ZpA (Zif C) [] E (Zln (cV 4) (Zln (cV 3) (Zln (cV 5) Zpz))) σ H7 Qx := by
 show onV σ[4]? _
 rw [h4]
 show onV σ[3]? _
 rw [h3]
 show onV σ[5]? _
 rw [h5]
 exact ⟨t, a, (i : Int), out i, n, ρ.s, zs, rfl, et, sc, Zne rok hzs key bad⟩
def Nmd (ρs : List Ro) (out : Nat -> Str -> Option Hm) (m : Nat) : Prop := ∀ (k : Nat) (x : Str), k < m -> ρs[k]? = some (.name x) -> ∃ h, out k x = some h
def ZjX (C Cn : Addr) : Sp := fun vs H Q E => ∃ (p n r w dx : Addr) (xs : List V) (names : List Str) (roots : List Nat) (ρs : List Ro) (out : Nat -> Str -> Option Hm), vs = [.ref p] /\ PrA C H p n r w dx xs names roots ρs /\ Zqh names roots ρs out /\
 (Nmd ρs out ρs.length -> ∀ l ys H', ZdH H H' -> H l = none -> H' l = some (.lst ys) -> ys.length = ρs.length -> HoA H' ys ρs out -> Q (.ref l) H') /\
 (∀ (k : Nat) (x : Str), Nmd ρs out k -> ρs[k]? = some (.name x) -> out k x = none -> ∀ dx H', ZdH H H' -> H' dx = some (nnD dx x (k : Int)) -> E (.ref Cn) (some dx) H')
theorem ZhH (T : Txt K mg) : ZfA P w K mg base (CXF P w) 8 T.a_homes_of T.fd_homes_of ["program"] (ZjX T.a_Program T.a_NoName) := by
 have G_refuse_twice := ZhD (P := P) (w := w) (base := base) T
 have G_root_scopes := ZhZ (P := P) (w := w) (base := base) T
 have G_words_once := Ziw (P := P) (w := w) (base := base) T
 have G_home_of := ZkY (P := P) (w := w) (base := base) T
 have G_inner_scopes := ZhG (P := P) (w := w) (base := base) T
 refine T.F_homes_of.okF Zfh (fun vs H Q E h => ?_) (fun cdv A outer s H vs Q E hr h => ?_)
 ·obtain ⟨p, n, r, w, dx, xs, names, roots, ρs, out, rfl, _⟩ := h
  rfl
 have hu := ZkK hr
 obtain ⟨p, n, r, w, dx, xs, names, roots, ρs, out, rfl, pr, gd, q, qb⟩ := h
 refine ⟨_, (Zdo (Zd6 (ZdO G_refuse_twice (hr.mono (by decide)) rfl T.m_refuse_twice T.k_refuse_twice T.b_refuse_twice .nil ZeG (Zdn (Zev T.cl_Program T.n_Program_names (cv 0)) Zdq)))
  (Zdo (ZdE (i := 1) Zfh.nd rfl (.inl rfl) (ZdO G_root_scopes (hr.mono (by decide)) rfl T.m_root_scopes T.k_root_scopes T.b_root_scopes .nil ZeG (Zdn (cv 0) Zdq)))
  (Zdo (ZdE (i := 2) Zfh.nd rfl (.inl rfl) (ZdN Zdq))
  (Zdo (Zfa PassesOwn.leaving rfl (ZjL rfl T.z_enumerate (Zdn (Zev T.cl_Program T.n_Program_rows (cv 0)) Zdq)) (Zg3 rfl (ZdY (ZdQ (i := 3) Zfh.nd rfl (.inl rfl)) (ZdY (ZdQ (i := 4) Zfh.nd rfl (.inl rfl)) ZfF)))
   (Zdo (ZdE (i := 5) Zfh.nd rfl (.inl rfl) (Zlv hu (cv 1) (cv 3) (fun _ _ => rfl)))
   (Zdo (Zd6 (ZdO G_refuse_twice (hr.mono (by decide)) rfl T.m_refuse_twice T.k_refuse_twice T.b_refuse_twice .nil ZeG (Zdn (ZdO G_words_once (hr.mono (by decide)) rfl T.m_words_once T.k_words_once T.b_words_once .nil ZeG (Zdn (cv 4) Zdq)) Zdq)))
   (Zdo (Zd6 (Zfc (ZfW ZcR ZcS ZcT Zee (PE.mono (cv 2)) (Zdn (PE.mono (ZdO G_home_of (hr.mono (by decide)) rfl T.m_home_of T.k_home_of T.b_home_of .nil Zp4 (Zdn (cv 4) (Zdn (cv 3) (Zdn (cv 5) Zdq))))) Zdq))))
   (Zdu (Zd6 (ZfW PySem.F.plainAttrs_dict ZcO PySem.F.type_dict_update ZlN (cv 1) (Zdn (ZdO G_inner_scopes (hr.mono (by decide)) rfl T.m_inner_scopes T.k_inner_scopes T.b_inner_scopes .nil ZeG (Zdn (cv 4) (Zdn (cv 5) Zdq))) Zdq))))))))
  (Zdu (ZdL (cv 2))))))), ?_⟩
 have sl : sizeLine = 16777216 := sizeLine_eq
 have nl := gd.nl
 have pn := gd.pn
 refine ⟨_, ⟨dx, _, pr.o, ZgN _ _ _⟩, n, names, rfl, pr.n, gd.nn, by omega, fun H1 S1 => ?_⟩
 refine ⟨p, n, r, w, dx, xs, names, roots, ρs, out, rfl, pr.same S1, gd, fun d kvs H2 S2 hd ed hk hroots => ?_⟩
 refine ⟨(by show 0 <= sizeLine; decide), fun lh hlh => ?_⟩
 have s3 := Zdr hlh (.lst [])
 have el : (upd H2 lh (.lst [])) lh = some (.lst []) := Zdp
 dsimp only [Zd1]
 generalize upd H2 lh (.lst []) = H3 at s3 el ⊢
 have S13 := (S1.trans S2).trans s3
 have hd0 : H d = none := S1.free hd
 have hl0 : H lh = none := (S1.trans S2).free hlh
 have ndl : d ≠ lh := Zdv ed hlh
 have pr3 := pr.same S13
 have lx := pr.i.length
 rw [Zar] at lx
 refine ⟨_, ⟨dx, _, pr3.o, Zf3 _ _ _⟩, w, rfl, ⟨_, SqL.of pr3.w⟩, Zix (xs := xs) (fun i σ H4 => ∃ (o3 o4 o5 : Option V) (kvs : List (Key × V)) (ys : List V), σ = [some (.ref p), some (.ref d), some (.ref lh), o3, o4, o5] /\ ZdH H H4 /\ H4 d = some (.dK kvs) /\ kvs.length <= 12 + 300 * i /\ H4 lh = some (.lst ys) /\ ys.length = i /\ HoA H4 ys ρs out /\ Nmd ρs out i /\
   ∀ c : Nat, ((∃ i' : Nat, roots[i']? = some c) \/ ∃ (k' : Nat) (ρ : Ro), k' < i /\ ρs[k']? = some ρ /\ (c : Int) ∈ ρ.pl) -> ∃ a, a ≠ d /\ Zfp kvs (.inl (c : Int)) = some (.ref a) /\ Sc H4 a (out c) (20 + c))
  ⟨none, none, none, kvs, [], rfl, S13, s3 _ _ ed, by omega, el, rfl, fun k x ρ h => (by cases h), fun k x h => absurd h (Zb1 _), fun c hc => ?_⟩ (fun i σ H4 _ ⟨_, _, _, _, _, _, S, _⟩ => SqL.of (S _ _ pr.w)) ?_ ?_⟩
 ·rcases hc with ⟨i, hi⟩ | ⟨k', ρ, h, _⟩
  ·obtain ⟨a, h1, h2, h3⟩ := hroots i c hi
   exact ⟨a, h1, h2, (h3.same s3).le (by omega)⟩
  ·exact absurd h (Zb1 _)
 ·rintro i v σ H4 t hx ⟨o3, o4, o5, kvs, ys, rfl, S, ek, hk, el, hyl, ho, nmi, hsc⟩ ht
  have hi := (Zaj.mp hx).1
  obtain ⟨ρ, hρ⟩ : ∃ ρ, ρs[i]? = some ρ := ⟨_, Za0 (by omega)⟩
  have rok := gd.ok ρ (ZaA hρ)
  obtain ⟨tr, zs, hxt, etr, hzs, him⟩ := Ziy pr.i hρ
  rw [hxt] at hx
  cases hx
  obtain ⟨a, nad, hva, sca⟩ := hsc i (gd.reach i (by omega))
  have sT := Zdr ht (.tup [.int (i : Int), .ref tr])
  refine ⟨t, _, rfl, SqT.of Zdp, rfl, _, _, rfl, _, _, rfl, rfl, ?_⟩
  have S5 := S.trans sT
  generalize upd H4 t (.tup [.int (i : Int), .ref tr]) = H5 at sT S5
  have g := Zk0.k (k := (Sum.inl (i : Int) : Key)) (sT _ _ ek)
  rw [hva] at g
  refine ⟨d, _, rfl, g, ?_⟩
  refine ⟨tr, ρ, rfl, him.mono (ZdH.tk S5), rok, fun lw H6 S6 hlw e6 => ⟨lw, ρ.ws, rfl, e6, (ρ.ws_nd rok).1, ZbS (ρ.ws_nd rok).2 (by decide), fun H7 S7 => ?_⟩⟩
  have S47 := (sT.trans S6).trans S7
  have S07 := S.trans S47
  have el7 := S47 _ _ el
  have ek7 := S47 _ _ ek
  have sca7 := sca.same S47
  refine ⟨⟨_, el7⟩, Zme rok hzs (S07 _ _ etr) sca7 rfl rfl rfl (fun hnm y hy => ?_) fun x e hx dz Hz Sz ez => qb i x nmi (by rw [hρ, e]) hx dz Hz (S07.trans Sz) ez⟩
  refine ⟨_, el7, by omega, ?_⟩
  have S08 := ZdP (o := .lst (ys ++ [y])) S07 hl0
  have tk8 : TK H7 (upd H7 lh (.lst (ys ++ [y]))) := ZfD el7 (fun zs z => nomatch z)
  have ek8 : (upd H7 lh (.lst (ys ++ [y]))) d = some (.dK kvs) := by rw [Zdt ndl]; exact ek7
  have el8 : (upd H7 lh (.lst (ys ++ [y]))) lh = some (.lst (ys ++ [y])) := Zdp
  have sc8 : ∀ {z : Addr} {g : Str -> Option Hm} {m : Nat}, Sc H4 z g m -> Sc (upd H7 lh (.lst (ys ++ [y]))) z g m := fun h => (h.same S47).updL el7
  generalize upd H7 lh (.lst (ys ++ [y])) = H8 at S08 tk8 ek8 el8 sc8
  refine ⟨.inr (.inr (.inl ⟨rfl, .inl ⟨_, ek8⟩⟩)), tr, a, ρ, out i, 20 + i, rfl, him.mono (ZdH.tk S08), rok, sc8 sca, by omega, fun d2 kvs2 H9 S9 hd2 e9 nd9 l9 in9 => ⟨d, d2, kvs, kvs2, rfl, rfl, Zdv ek8 hd2, S9 _ _ ek8, e9, by omega, ?_⟩⟩
  have tk9 : TK H9 (upd H9 d (.dK (ZgD kvs kvs2))) := ZfD (S9 _ _ ek8) (fun zs z => nomatch z)
  have tkA : TK H4 (upd H9 d (.dK (ZgD kvs kvs2))) := fun b u e => tk9 _ _ (S9 _ _ (tk8 _ _ (S47 _ _ e)))
  refine ⟨_, _, _, _, ys ++ [y], rfl, ZdP (S08.trans S9) hd0 _, Zdp, ZbS (ZfL _ _) (by omega), by rw [Zdt ndl.symm]; exact S9 _ _ el8, by rw [ZaB, hyl]; rfl, ?_, fun k x hk hx => ?_, ?_⟩
  ·intro k x ρ' hx hρ'
   by_cases hki : k < ys.length
   ·rw [Zay hki] at hx
    exact (ho k x ρ' hx hρ').mono tkA
   ·have hk2 := (Zaj.mp hx).1
    rw [ZaB, ZaQ] at hk2
    have e : k = ys.length := by omega
    subst e
    rw [Zax (ZbV _), Zb3] at hx
    cases hx
    rw [hyl] at hρ' ⊢
    rw [hρ] at hρ'
    cases hρ'
    exact hy.mono fun b u e => tk9 _ _ (S9 _ _ (tk8 _ _ e))
  ·by_cases z : k = i
   ·subst z
    rw [hρ] at hx
    exact hnm x (Zb4.inj hx)
   ·exact nmi k x (by omega) hx
  ·intro c hc
   rw [ZhE _ _ _ nd9]
   rcases in9 (c : Int) with ⟨h1, h2⟩ | ⟨j, e, a', hW, hj, he, hv, hs⟩
   ·rw [h1]
    obtain ⟨a', g1, g2, g3⟩ := hsc c (by
     rcases hc with h | ⟨k', ρ', k1, k2, k3⟩
     ·exact .inl h
     ·refine .inr ⟨k', ρ', ?_, k2, k3⟩
      by_cases z : k' = i
      ·rw [z, hρ] at k2
       cases k2
       exact absurd k3 h2
      ·omega)
    exact ⟨a', g1, g2, ((sc8 g3).same S9).upd (S9 _ _ ek8) g1⟩
   ·rw [hv]
    have na : a' ≠ d := by
     rcases hW with h | h
     ·rw [h]; exact nad
     ·exact (Zdv ek8 h).symm
    obtain ⟨m, e1, e2, e3⟩ := gd.kid i ρ j _ e hρ hj he
    have em : c = m := by omega
    subst em
    exact ⟨a', na, rfl, by rw [e3]; exact (hs.upd (S9 _ _ ek8) na).le (by omega)⟩
 ·rintro σ H4 ⟨o3, o4, o5, kvs, ys, rfl, S, ek, hk, el, hyl, ho, nmi, hsc⟩
  exact q (by rw [<- lx]; exact nmi) lh ys H4 S hl0 el (by omega) ho
end
inductive Kn
 | num (n : Int)
 | name (w : Str)
 | fn (w : Str)
 | tag (w : Str)
 | lt (w : Str)
 | get (w : Str)
 | rcd (l : List Str)
 | case (l : List (Str × Str))
 | row (m : Nat)
 | op (s : Str) (m : Nat)
noncomputable def Kn.s : Kn -> Str
 | .num _ => "num"
 | .name _ => "name"
 | .fn _ => "fn"
 | .tag _ => "tag"
 | .lt _ => "let"
 | .get _ => "get"
 | .rcd _ => "rec"
 | .case _ => "case"
 | .row _ => "row"
 | .op s _ => s
noncomputable def agD (p : Str × Str) : Dt := .tup [sD p.1, sD p.2]
noncomputable def Kn.mo : Kn -> Dt
 | .num n => kD n
 | .name w => sD w
 | .fn w => sD w
 | .tag w => sD w
 | .lt w => sD w
 | .get w => sD w
 | .rcd l => .lst (l.map sD)
 | .case l => .lst (l.map agD)
 | .row _ => sD ""
 | .op _ _ => sD ""
noncomputable abbrev Hol := Option Str × Str
noncomputable def hoV : Option Str -> V
 | none => .non
 | some w => .str w
noncomputable def hlD (h : Hol) : Dt := .lst [.flat (hoV h.1), sD h.2]
noncomputable def p0 : Hol := (none, "")
noncomputable def Kn.ho : Kn -> List Hol
 | .num _ => []
 | .name _ => []
 | .fn w => [(some w, "fn")]
 | .tag _ => [p0]
 | .lt w => [p0, (some w, "let")]
 | .get _ => [p0]
 | .rcd l => l.map fun _ => p0
 | .case l => p0 :: l.map fun p => (some p.2, "arm")
 | .row m => Zav m p0
 | .op _ m => Zav m p0
noncomputable def Kn.d (κ : Kn) : Dt := .lst [sD κ.s, κ.mo, .lst (κ.ho.map hlD)]
noncomputable def Kn.ok : Kn -> Prop
 | .rcd l => l.length <= 100 /\ l.Nodup
 | .case l => l.length <= 100 /\ (l.map Prod.fst).Nodup
 | .row m => m <= 100
 | .op s m => s ∈ plain /\ m <= 100
 | _ => True
def Kn.nn (κ : Kn) : Prop := ∀ h ∈ κ.ho, h.1 ≠ some "none"
def Kn.okk (κ : Kn) : Prop := κ.ok /\ κ.nn
theorem ZoN {κ : Kn} (h : ∀ z ∈ κ.ho, z = p0) : κ.nn := fun z hz => by rw [h z hz]; exact fun e => nomatch e
theorem Zqj (l : List Str) : (Kn.rcd l).nn := ZoN fun z hz => by obtain ⟨_, _, rfl⟩ := ZaS.mp hz; rfl
theorem Zqk (m : Nat) : (Kn.row m).nn := ZoN fun z hz => (Zbu.mp hz).2
theorem Zql (s : Str) (m : Nat) : (Kn.op s m).nn := ZoN fun z hz => (Zbu.mp hz).2
theorem Zrr {w : Str} (h : w ≠ "none") : (Kn.fn w).nn := fun z hz => by rw [ZaU.mp hz]; exact fun e => h (Zb4.inj e)
theorem Zrs {w : Str} (h : w ≠ "none") : (Kn.lt w).nn := fun z hz => by
 rcases Zag.mp hz with rfl | hz
 ·exact fun e => nomatch e
 ·rw [ZaU.mp hz]; exact fun e => h (Zb4.inj e)
theorem ZoO {l : List (Str × Str)} (h : ∀ p ∈ l, p.2 ≠ "none") : (Kn.case l).nn := fun z hz => by
 rcases Zag.mp hz with rfl | hz
 ·exact fun e => nomatch e
 ·obtain ⟨p, hp, rfl⟩ := ZaS.mp hz
  exact fun e => h p hp (Zb4.inj e)
theorem ZjY {x : Str} (h : 5 <= x.length) : x ≠ "none" := by
 rintro rfl
 exact absurd h (by decide +kernel)
noncomputable def mkR : Kn -> List Int -> Ro
 | .num n, _ => .num n
 | .name w, _ => .name w
 | .fn w, ks => .fn w (ks.getD 0 0)
 | .tag w, ks => .tag w (ks.getD 0 0)
 | .lt w, ks => .lt w (ks.getD 0 0) (ks.getD 1 0)
 | .get w, ks => .get (ks.getD 0 0) w
 | .rcd l, ks => .rcd (l.zip ks)
 | .case l, ks => .case (ks.getD 0 0) ((l.zip ks.tail).map fun p => (p.1.1, p.1.2, p.2))
 | .row _, ks => .row ks
 | .op s _, ks => .op s ks
theorem Kn.ho_le (κ : Kn) (h : κ.ok) : κ.ho.length <= 101 := by
 cases κ with
 | rcd l => show (l.map fun _ => p0).length <= _; rw [Zar]; exact ZbS h.1 (by decide)
 | case l => show (p0 :: l.map fun p => ((some p.2, "arm") : Hol)).length <= _; rw [Zao, Zar]; have := h.1; omega
 | row m => show (Zav m p0).length <= _; rw [ZaC]; exact ZbS h (by decide)
 | op s m => show (Zav m p0).length <= _; rw [ZaC]; exact ZbS h.2 (by decide)
 | _ => simp [Kn.ho]
theorem Zf4 {α β : Type} : ∀ (l : List α) (m : List β), l.length = m.length -> (l.zip m).map Prod.snd = m
 | [], [], _ => rfl
 | a :: l, b :: m, h => by rw [List.zip_cons_cons, Zaq, Zf4 l m (by simpa using h)]
theorem Zf5 {α β : Type} : ∀ (l : List α) (m : List β), l.length = m.length -> (l.zip m).map Prod.fst = l
 | [], [], _ => rfl
 | a :: l, b :: m, h => by rw [List.zip_cons_cons, Zaq, Zf5 l m (by simpa using h)]
theorem ZnP {κ : Kn} {ks : List Int} (h : κ.ok) (hl : ks.length = κ.ho.length) : (mkR κ ks).ok := by
 cases κ with
 | rcd l =>
  have hl' : ks.length = l.length := by rw [hl]; show (l.map fun _ => p0).length = _; rw [Zar]
  show (l.zip ks).length <= 100 /\ ((l.zip ks).map Prod.fst).Nodup
  rw [Zf5 _ _ hl'.symm, Zbv]
  exact ⟨by have := h.1; omega, h.2⟩
 | case l =>
  have hl' : ks.tail.length = l.length := by rw [List.length_tail, hl]; show (p0 :: l.map fun p => ((some p.2, "arm") : Hol)).length - 1 = _; rw [Zao, Zar]; omega
  show ((l.zip ks.tail).map fun p => (p.1.1, p.1.2, p.2)).length <= 100 /\ (((l.zip ks.tail).map fun p => (p.1.1, p.1.2, p.2)).map Prod.fst).Nodup
  have e : ((l.zip ks.tail).map fun p => (p.1.1, p.1.2, p.2)).map Prod.fst = l.map Prod.fst := by
   rw [Zbr]
   show (l.zip ks.tail).map (Prod.fst ∘ Prod.fst) = _
   rw [<- Zbr, Zf5 _ _ hl'.symm]
  rw [e, Zar, Zbv]
  exact ⟨by have := h.1; omega, h.2⟩
 | row m => show ks.length <= 100; rw [hl]; show (Zav m p0).length <= _; rw [ZaC]; exact h
 | op s m => refine ⟨h.1, ?_⟩; show ks.length <= 100; rw [hl]; show (Zav m p0).length <= _; rw [ZaC]; exact h.2
 | _ => trivial
theorem ZkZ {ks : List Int} (h : ks.length = 1) : ks = [ks.getD 0 0] := by
 match ks, h with
 | [a], _ => rfl
theorem Zqm {ks : List Int} (h : ks.length = 2) : ks = [ks.getD 0 0, ks.getD 1 0] := by
 match ks, h with
 | [a, b], _ => rfl
theorem Zqn {ks : List Int} {n : Nat} (h : ks.length = n + 1) : ks = ks.getD 0 0 :: ks.tail := by
 match ks, h with
 | a :: r, _ => rfl
theorem Zko {κ : Kn} {ks : List Int} (hl : ks.length = κ.ho.length) : (mkR κ ks).pl = ks := by
 cases κ with
 | num n => match ks, hl with | [], _ => rfl
 | name n => match ks, hl with | [], _ => rfl
 | fn w => exact (ZkZ hl).symm
 | tag w => exact (ZkZ hl).symm
 | get w => exact (ZkZ hl).symm
 | lt w => exact (Zqm hl).symm
 | rcd l =>
  have hl' : ks.length = l.length := by rw [hl]; show (l.map fun _ => p0).length = _; rw [Zar]
  exact Zf4 _ _ hl'.symm
 | case l =>
  have hl0 : ks.length = l.length + 1 := by rw [hl]; show (p0 :: l.map fun p => ((some p.2, "arm") : Hol)).length = _; rw [Zao, Zar]
  have hl' : l.length = ks.tail.length := by rw [List.length_tail, hl0]; omega
  show ks.getD 0 0 :: (((l.zip ks.tail).map fun p => (p.1.1, p.1.2, p.2)).map fun p => p.2.2) = ks
  rw [Zbr]
  show ks.getD 0 0 :: ((l.zip ks.tail).map Prod.snd) = ks
  rw [Zf4 _ _ hl', <- Zqn hl0]
 | row m => rfl
 | op s m => rfl
noncomputable def hoX (f q : Int) : Hol -> Option (Str × Hm)
 | (none, _) => none
 | (some w, how) => some (w, (how, if how = ("let" : Str) then f else q))
theorem Zqo {κ : Kn} {ks : List Int} (hl : ks.length = κ.ho.length) (j : Nat) (c : Int) (e : Option (Str × Hm)) (hc : ks[j]? = some c) (he : (mkR κ ks).ex[j]? = some e) : ∃ h, κ.ho[j]? = some h /\ e = hoX (ks.getD 0 0) c h := by
 have pl := Zko hl
 have gen : (∀ h ∈ κ.ho, h = p0) -> ((mkR κ ks).ex = (mkR κ ks).pl.map fun _ => none) -> ∃ h, κ.ho[j]? = some h /\ e = hoX (ks.getD 0 0) c h := fun h1 h2 => by
  rw [h2, pl, Zaz, hc] at he
  have hj := (Zaj.mp hc).1
  obtain ⟨h, hh⟩ : ∃ h, κ.ho[j]? = some h := ⟨_, Za0 (by omega)⟩
  refine ⟨h, hh, ?_⟩
  rw [h1 h (ZaA hh)]
  exact (Zb4.inj he).symm
 cases κ with
 | num n => match ks, hl with | [], _ => cases hc
 | name n => match ks, hl with | [], _ => cases hc
 | tag w => exact gen (by intro h hh; exact ZaU.mp hh) rfl
 | get w => exact gen (by intro h hh; exact ZaU.mp hh) rfl
 | rcd l => exact gen (by intro h hh; obtain ⟨_, _, rfl⟩ := ZaS.mp hh; rfl) rfl
 | row m => exact gen (by intro h hh; exact (Zbu.mp hh).2) rfl
 | op s m => exact gen (by intro h hh; exact (Zbu.mp hh).2) rfl
 | fn w =>
  match ks, hl, j with
  | [a], _, 0 =>
   cases hc; cases he
   refine ⟨_, rfl, ?_⟩
   show some (w, (("fn" : Str), c)) = some (w, (("fn" : Str), if ("fn" : Str) = "let" then c else c))
   rw [if_neg (by decide +kernel)]
  | [a], _, j + 1 => cases hc
 | lt w =>
  match ks, hl, j with
  | [a, b], _, 0 => cases hc; cases he; exact ⟨_, rfl, rfl⟩
  | [a, b], _, 1 =>
   cases hc; cases he
   refine ⟨_, rfl, ?_⟩
   show some (w, (("let" : Str), a)) = some (w, (("let" : Str), if ("let" : Str) = "let" then a else c))
   rw [if_pos rfl]
  | [a, b], _, j + 2 => cases hc
 | case l =>
  have hl0 : ks.length = l.length + 1 := by rw [hl]; show (p0 :: l.map fun p => ((some p.2, "arm") : Hol)).length = _; rw [Zao, Zar]
  match ks, hl0, j with
  | a :: ks, hl0, 0 => cases hc; cases he; exact ⟨_, rfl, rfl⟩
  | a :: ks, hl0, j + 1 =>
   rw [Za2] at hc
   have he' : (none :: ((l.zip ks).map fun p => (p.1.1, p.1.2, p.2)).map fun p => (some (p.2.1, ("arm", p.2.2)) : Option (Str × Hm)))[j + 1]? = some e := he
   rw [Za2, Zbr, Zaz] at he'
   have hj := (Zaj.mp hc).1
   rw [Zao] at hl0
   obtain ⟨p, hp⟩ : ∃ p, l[j]? = some p := ⟨_, Za0 (by omega)⟩
   have hz : (l.zip ks)[j]? = some (p, c) := by rw [Zbw]; exact ⟨hp, hc⟩
   rw [hz] at he'
   refine ⟨(some p.2, "arm"), ?_, ?_⟩
   ·show (p0 :: l.map fun p => ((some p.2, "arm") : Hol))[j + 1]? = _
    rw [Za2, Zaz, hp]
    rfl
   ·have e' : e = some (p.2, (("arm" : Str), c)) := (Zb4.inj he').symm
    rw [e']
    show some (p.2, (("arm" : Str), c)) = some (p.2, (("arm" : Str), if ("arm" : Str) = "let" then (a :: ks).getD 0 0 else c))
    rw [if_neg (by decide +kernel)]
theorem ZoP (κ : Kn) (ks : List Int) : (mkR κ ks).isF = (match κ with | .fn _ => true | _ => false) := by cases κ <;> rfl
noncomputable def Zmf : List Str := ["num", "name", "fn", "tag", "let", "get", "rec", "case", "row"]
theorem ZoQ {s x : Str} (h : s ∈ plain) (hx : x ∈ Zmf) : decide (s = x) = false := by
 simp only [plain, Zmf, Zag, Za1, or_false] at h hx
 rcases h with rfl | rfl | rfl | rfl | rfl | rfl | rfl <;> rcases hx with rfl | rfl | rfl | rfl | rfl | rfl | rfl | rfl | rfl <;> decide +kernel
theorem Zmg {H : Hp} : ∀ ks : List Int, Ims H (ks.map V.int) (ks.map kD)
 | [] => .nil
 | k :: ks => .cons (.flat rfl) (Zmg ks)
section
variable {P : Program} {w : World} {K : PySem.W.Frag} {mg : Str -> Option Value} {base : Heap}
theorem tst {x s : Str} {σ : St} {H : Hp} {R : Bool -> Hp -> Prop} (hσ : σ[0]? = some (some (.str s))) (h : R (decide (s = x)) H) : cT (tOp (cEq false) (cV 0) (tC (.str x))) σ H R := by
 show onV σ[0]? _
 rw [hσ]
 show R (false ^^ decide (s = x)) H
 rw [Zc4]
 exact h
theorem Zgw {x s : Str} {A u : TS} {D : ZfS} {σ : St} {H : Hp} (hσ : σ[0]? = some (some (.str s))) (hb : decide (s = x) = false) (k : u D σ H) : Zjs (ZiL (cT (tOp (cEq false) (cV 0) (tC (.str x)))) A ZgW) u D σ H := tst hσ (by rw [hb]; exact Zet k)
theorem Zmh {x s : Str} {A B u : TS} {D : ZfS} {σ : St} {H : Hp} (hσ : σ[0]? = some (some (.str s))) (hb : decide (s = x) = true) (k : A { D with nx := u D } σ H) : Zjs (ZiL (cT (tOp (cEq false) (cV 0) (tC (.str x)))) A B) u D σ H := tst hσ (by rw [hb]; exact Zfq k)
theorem ZgQ {x y s : Str} {A u : TS} {D : ZfS} {σ : St} {H : Hp} (hσ : σ[0]? = some (some (.str s))) (hb : (decide (s = x) || decide (s = y)) = false) (k : u D σ H) : Zjs (ZiL (tOr (cT (tOp (cEq false) (cV 0) (tC (.str x)))) (cT (tOp (cEq false) (cV 0) (tC (.str y))))) A ZgW) u D σ H := by
 rw [Zc6] at hb
 exact tst hσ (by rw [hb.1]; exact Zet (tst hσ (by rw [hb.2]; exact Zet k)))
theorem Znf {x y s : Str} {A B u : TS} {D : ZfS} {σ : St} {H : Hp} (hσ : σ[0]? = some (some (.str s))) (hb : (decide (s = x) || decide (s = y)) = true) (k : A { D with nx := u D } σ H) : Zjs (ZiL (tOr (cT (tOp (cEq false) (cV 0) (tC (.str x)))) (cT (tOp (cEq false) (cV 0) (tC (.str y))))) A B) u D σ H := by
 refine tst hσ ?_
 cases h : decide (s = x) with
 | true => exact Zfq (Zfq k)
 | false =>
  rw [h, Zc1] at hb
  exact Zet (tst hσ (by rw [hb]; exact Zfq k))
theorem Zmi {a b : Addr} {te : TE} {Q : VK} {H1 : Hp} {D : Addr} {xs ys : List V} (ea : H1 a = some (.lst xs)) (eb : H1 b = some (.lst ys)) (hl : xs.length = ys.length) (hn : xs.length < sizeLine) (hD : H1 D = none)
  (R : List V -> Hp -> Prop) (hR : ∀ xs H H', R xs H -> TK H H' -> R xs H') (h0 : R [] H1)
  (step : ∀ k H x y zs (Z : VK) T, ZdH H1 H -> xs[k]? = some x -> ys[k]? = some y -> R zs H -> zs.length = k -> H T = none -> (∀ v H5, ZdH H H5 -> R (zs ++ [v]) H5 -> Z v H5) -> te [some x, some y] (upd H T (.tup [x, y])) Z)
  (hq : ∀ H' zs, ZdH H1 H' -> R zs H' -> zs.length = xs.length -> H' D = some (.lst zs) -> Q (.ref D) H') : LcG (Itz K a b) (ZqI K 2 (Zjx (Zd1 0) (Zjx (Zd1 1) ZqH))) te Q [none, none] H1 D := by
 refine ⟨fun k m σ' H2 => m = xs.length - k /\ k <= xs.length /\ (∃ o o', σ' = [o, o']) /\ ZdH H1 H2 /\ ∃ zs, H2 D = some (.lst zs) /\ zs.length = k /\ R zs H2, ⟨xs.length, by simp, ZbW _, ⟨_, _, rfl⟩, Zdr hD _, [], Zdp, rfl, hR _ _ _ h0 (ZdH.tk (Zdr hD _))⟩, ?_⟩
 rintro k m σ' H2 ⟨rfl, hk, ⟨o, o', rfl⟩, S, zs, e, hz, hr⟩
 by_cases hlt : k < xs.length
 ·refine .inr ⟨⟨xs, ys, xs[k], ys[k]'(by omega), SqL.of (S _ _ ea), SqL.of (S _ _ eb), Za0 hlt, Za0 (by omega)⟩, fun v H3 y => ?_⟩
  obtain ⟨T, x, y, rfl, hT, rfl, hx, hy⟩ := y
  refine ⟨T, _, rfl, SqT.of Zdp, rfl, _, _, rfl, _, _, rfl, rfl, ?_⟩
  refine step k H2 x y zs _ T S (hx _ (SqL.of (S _ _ ea))) (hy _ (SqL.of (S _ _ eb))) hr hz hT fun v H5 S5 r5 => ?_
  exact ⟨zs, S5 D _ e, by omega, xs.length - (k + 1), by omega, rfl, hlt, ⟨_, _, rfl⟩, ZdP (S.trans S5) hD _, zs ++ [v], Zdp, by rw [ZaB, hz]; rfl, hR _ _ _ r5 (ZfD (S5 D _ e) (fun zs z => nomatch z))⟩
 ·have e1 : k = xs.length := by omega
  subst e1
  exact .inl ⟨⟨xs, ys, SqL.of (S _ _ ea), SqL.of (S _ _ eb), by omega⟩, hq H2 zs S hr hz e⟩
theorem Zmj {H : Hp} : ∀ {xs : List V} {l : List Str}, Zga H xs (l.map sD) -> xs = l.map V.str
 | [], [], _ => rfl
 | x :: xs, s :: l, .cons h hs => by cases h; rw [Zmj hs]; rfl
theorem Zhh {H : Hp} : ∀ {xs : List V} {ds : List Dt} {j : Nat} {x : V}, Zga H xs ds -> xs[j]? = some x -> ∃ d, ds[j]? = some d /\ Dta H x d
 | _, _, 0, _, .cons h _, e => ⟨_, rfl, by cases e; exact h⟩
 | _, _, j + 1, _, .cons _ t, e => by
  rw [Za2] at e
  obtain ⟨d, e1, e2⟩ := Zhh t e
  exact ⟨d, by rw [Za2]; exact e1, e2⟩
theorem ZfE {H : Hp} : ∀ {xs : List V} {ds : List Dt}, Zga H xs ds -> xs.length = ds.length
 | _, _, .nil => rfl
 | _, _, .cons _ t => by rw [Zao, Zao, ZfE t]
def ZjZ : Sp := fun vs H Q _ => ∃ (κ : Kn) (mv : V) (kl : Addr) (ks : List Int), vs = [.str κ.s, mv, .ref kl] /\ κ.ok /\ ks.length = κ.ho.length /\ Dta H mv κ.mo /\ H kl = some (.lst (ks.map V.int)) /\ ∀ t H', ZdH H H' -> Im H' (.ref t) (mkR κ ks).d -> Q (.ref t) H'
theorem Zj0 (T : Txt K mg) : ZfA P w K mg base CX0 1 T.a_row T.fd_row ["_law_op", "_law_more", "_law_kids"] ZjZ := by
 refine T.F_row.ok ZjT (fun vs H Q E h => ?_) (fun cdv A outer s H vs Q E hr h => ?_)
 ·obtain ⟨κ, mv, kl, ks, rfl, _⟩ := h
  rfl
 obtain ⟨κ, mv, kl, ks, rfl, ho, hl, hm, hk, q⟩ := h
 refine ⟨_, (Zdo (Zd0 (PW.pt (Zgn (ZdA ZeH (cv 0) ZdJ (ZdK _)) (ZfQ (ZdA ZeH (cv 0) ZdJ (ZdK _)))))
   (Zdu (ZdL (Zey (Zdn (cv 0) (Zdn (cv 1) Zdq)))))
   ZdI)
  (Zdo (Zd0 (PW.pt (Zgn (ZdA ZeH (cv 0) ZdJ (ZdK _)) (ZfQ (ZdA ZeH (cv 0) ZdJ (ZdK _)))))
   (Zdu (ZdL (Zey (Zdn (cv 0) (Zdn (cv 1) (Zdn (ZdG ZdD (cv 2) Zds (fun _ _ => rfl)) Zdq))))))
   ZdI)
  (Zdo (Zd0 (ZdA ZeH (cv 0) ZdJ (ZdK _))
   (Zdu (ZdL (Zey (Zdn (cv 0) (Zdn (cv 1) (Zdn (ZdG ZdD (cv 2) Zds (fun _ _ => rfl)) (Zdn (ZdG ZdD (cv 2) Zds (fun _ _ => rfl)) Zdq)))))))
   ZdI)
  (Zdo (Zd0 (ZdA ZeH (cv 0) ZdJ (ZdK _))
   (Zdu (ZdL (Zey (Zdn (cv 0) (Zdn (ZdG ZdD (cv 2) Zds (fun _ _ => rfl)) (Zdn (cv 1) Zdq))))))
   ZdI)
  (Zdo (Zd0 (ZdA ZeH (cv 0) ZdJ (ZdK _))
   (Zdu (ZdL (Zey (Zdn (cv 0) (Zdn (Zfl Zfs rfl T.z_tuple Zf9 (Zdn (ZnG (g := ZqI K 2 (Zjx (Zd1 0) (Zjx (Zd1 1) ZqH))) rfl (ZpP (x := "_law_field") (y := "_law_kid") rfl (by decide +kernel) (by decide +kernel) rfl (by decide) rfl) (ZlJ rfl T.z_zip (Zdn (cv 1) (Zdn (cv 2) Zdq))) (fun c1 c2 c3 c4 c5 => Zg3 (n := 2) (X := blk _ ["_law_field", "_law_kid"] _ _ c1 c2 c3 c4 c5) rfl (ZdY (ZdQ (X := blk _ ["_law_field", "_law_kid"] _ _ c1 c2 c3 c4 c5) (i := 0) (show (["_law_field", "_law_kid"] : List Str).Nodup by decide +kernel) rfl (.inl (lookup_relabel_local rfl)) (.inr (lookup_relabel_local rfl))) (ZdY (ZdQ (X := blk _ ["_law_field", "_law_kid"] _ _ c1 c2 c3 c4 c5) (i := 1) (show (["_law_field", "_law_kid"] : List Str).Nodup by decide +kernel) rfl (.inl (lookup_relabel_local rfl)) (.inr (lookup_relabel_local rfl))) ZfF))) (fun _ _ _ _ _ => (Zey (Zdn (cv 0) (Zdn (cv 1) Zdq))))) Zdq)) Zdq)))))
   ZdI)
  (Zdo (Zd0 (ZdA ZeH (cv 0) ZdJ (ZdK _))
   (Zdu (ZdL (Zey (Zdn (cv 0) (Zdn (ZdG ZdD (cv 2) Zds (fun _ _ => rfl)) (Zdn (Zfl Zfs rfl T.z_tuple Zf9 (Zdn (ZnG (g := ZqI K 2 (Zjx (Zd1 0) (Zjx (Zd1 1) ZqH))) rfl (ZpP (x := "_law_arm") (y := "_law_kid") rfl (by decide +kernel) (by decide +kernel) rfl (by decide) rfl) (ZlJ rfl T.z_zip (Zdn (cv 1) (Zdn (ZeV Zhp (cv 2) (Zfb Zds) Zfv) Zdq))) (fun c1 c2 c3 c4 c5 => Zg3 (n := 2) (X := blk _ ["_law_arm", "_law_kid"] _ _ c1 c2 c3 c4 c5) rfl (ZdY (ZdQ (X := blk _ ["_law_arm", "_law_kid"] _ _ c1 c2 c3 c4 c5) (i := 0) (show (["_law_arm", "_law_kid"] : List Str).Nodup by decide +kernel) rfl (.inl (lookup_relabel_local rfl)) (.inr (lookup_relabel_local rfl))) (ZdY (ZdQ (X := blk _ ["_law_arm", "_law_kid"] _ _ c1 c2 c3 c4 c5) (i := 1) (show (["_law_arm", "_law_kid"] : List Str).Nodup by decide +kernel) rfl (.inl (lookup_relabel_local rfl)) (.inr (lookup_relabel_local rfl))) ZfF))) (fun _ _ _ _ _ => (Zey (Zdn (ZdG ZdT (cv 0) Zds (fun _ _ => rfl)) (Zdn (ZdG ZdT (cv 0) Zds (fun _ _ => rfl)) (Zdn (cv 1) Zdq)))))) Zdq)) Zdq))))))
   ZdI)
  (Zdo (Zd0 (ZdA ZeH (cv 0) ZdJ (ZdK _))
   (Zdu (ZdL (Zey (Zdn (cv 0) (Zdn (Zfl Zfs rfl T.z_tuple Zf9 (Zdn (cv 2) Zdq)) Zdq)))))
   ZdI)
  (Zdu (ZdL (ZdF Zoi (Zey (Zdn (cv 0) Zdq)) (Zfl Zfs rfl T.z_tuple Zf9 (Zdn (cv 2) Zdq)))))))))))), ?_⟩
 have sl : sizeLine = 16777216 := sizeLine_eq
 have kat : ∀ {j : Nat} {n : Int}, ks[j]? = some n -> atI (ks.map V.int) (j : Int) = some (.int n) := fun {j n} h => Zdw (by rw [Zaz, h]; rfl)
 have z2 : 2 <= sizeLine := by decide
 have z3 : 3 <= sizeLine := by decide
 have z4 : 4 <= sizeLine := by decide
 cases κ with
 | num n =>
  cases hm
  exact (Znf rfl (show (decide (("num" : Str) = "num") || decide (("num" : Str) = "name")) = true from by decide +kernel) ⟨z2, fun t ht => q t _ (Zdr ht _) (.tup Zdp (.cons (.flat rfl) (.cons (.flat rfl) .nil)))⟩)
 | name n =>
  cases hm
  exact (Znf rfl (show (decide (("name" : Str) = "num") || decide (("name" : Str) = "name")) = true from by decide +kernel) ⟨z2, fun t ht => q t _ (Zdr ht _) (.tup Zdp (.cons (.flat rfl) (.cons (.flat rfl) .nil)))⟩)
 | fn x =>
  cases hm
  obtain ⟨k, rfl⟩ : ∃ k, ks = [k] := ⟨_, ZkZ hl⟩
  exact (ZgQ rfl (show (decide (("fn" : Str) = "num") || decide (("fn" : Str) = "name")) = false from by decide +kernel) (Znf rfl (show (decide (("fn" : Str) = "fn") || decide (("fn" : Str) = "tag")) = true from by decide +kernel) ⟨_, hk, Zdx (kat (j := 0) rfl) ⟨z3, fun t ht => q t _ (Zdr ht _) (.tup Zdp (.cons (.flat rfl) (.cons (.flat rfl) (.cons (.flat rfl) .nil))))⟩⟩))
 | tag x =>
  cases hm
  obtain ⟨k, rfl⟩ : ∃ k, ks = [k] := ⟨_, ZkZ hl⟩
  exact (ZgQ rfl (show (decide (("tag" : Str) = "num") || decide (("tag" : Str) = "name")) = false from by decide +kernel) (Znf rfl (show (decide (("tag" : Str) = "fn") || decide (("tag" : Str) = "tag")) = true from by decide +kernel) ⟨_, hk, Zdx (kat (j := 0) rfl) ⟨z3, fun t ht => q t _ (Zdr ht _) (.tup Zdp (.cons (.flat rfl) (.cons (.flat rfl) (.cons (.flat rfl) .nil))))⟩⟩))
 | lt x =>
  cases hm
  obtain ⟨k, k', rfl⟩ : ∃ k k', ks = [k, k'] := ⟨_, _, Zqm hl⟩
  exact (ZgQ rfl (show (decide (("let" : Str) = "num") || decide (("let" : Str) = "name")) = false from by decide +kernel) (ZgQ rfl (show (decide (("let" : Str) = "fn") || decide (("let" : Str) = "tag")) = false from by decide +kernel) (Zmh rfl (show decide (("let" : Str) = "let") = true from by decide +kernel) ⟨_, hk, Zdx (kat (j := 0) rfl) ⟨_, hk, Zdx (kat (j := 1) rfl) ⟨z4, fun t ht => q t _ (Zdr ht _) (.tup Zdp (.cons (.flat rfl) (.cons (.flat rfl) (.cons (.flat rfl) (.cons (.flat rfl) .nil)))))⟩⟩⟩)))
 | get x =>
  cases hm
  obtain ⟨k, rfl⟩ : ∃ k, ks = [k] := ⟨_, ZkZ hl⟩
  exact (ZgQ rfl (show (decide (("get" : Str) = "num") || decide (("get" : Str) = "name")) = false from by decide +kernel) (ZgQ rfl (show (decide (("get" : Str) = "fn") || decide (("get" : Str) = "tag")) = false from by decide +kernel) (Zgw rfl (show decide (("get" : Str) = "let") = false from by decide +kernel) (Zmh rfl (show decide (("get" : Str) = "get") = true from by decide +kernel) ⟨_, hk, Zdx (kat (j := 0) rfl) ⟨z3, fun t ht => q t _ (Zdr ht _) (.tup Zdp (.cons (.flat rfl) (.cons (.flat rfl) (.cons (.flat rfl) .nil))))⟩⟩))))
 | rcd l =>
  refine (ZgQ rfl (show (decide (("rec" : Str) = "num") || decide (("rec" : Str) = "name")) = false from by decide +kernel) (ZgQ rfl (show (decide (("rec" : Str) = "fn") || decide (("rec" : Str) = "tag")) = false from by decide +kernel) (Zgw rfl (show decide (("rec" : Str) = "let") = false from by decide +kernel) (Zgw rfl (show decide (("rec" : Str) = "get") = false from by decide +kernel) (Zmh rfl (show decide (("rec" : Str) = "rec") = true from by decide +kernel) ?_)))))
  cases hm with
  | @lst ml mxs _ eml hmx =>
   have e := Zmj hmx
   subst e
   have hl' : l.length = ks.length := by rw [hl]; show _ = (l.map fun _ => p0).length; rw [Zar]
   have l100 := ho.1
   refine ⟨ml, kl, rfl, ⟨_, SqL.of eml⟩, ⟨_, SqL.of hk⟩, fun D hD => ?_⟩
   refine Zmi eml hk (by rw [Zar, Zar, hl']) (by rw [Zar]; omega) hD (fun zs H => Ims H zs (((l.zip ks).take zs.length).map fdD)) (fun xs H H' h tk => h.mono tk) .nil ?_ ?_
   ·intro k H2 x y zs Z t S hx hy hr hz ht hZ
    rw [Zaz] at hx hy
    obtain ⟨x, hx', rfl⟩ := Zb8.mp hx
    obtain ⟨y, hy', rfl⟩ := Zb8.mp hy
    refine ⟨z2, fun p hp => hZ _ _ ((Zdr ht _).trans (Zdr hp _)) ?_⟩
    rw [ZaB, ZaQ, Zbd, show (l.zip ks)[zs.length]? = some (x, y) by rw [hz, Zbw]; exact ⟨hx', hy'⟩, ZaV]
    exact (hr.mono (ZdH.tk ((Zdr ht _).trans (Zdr hp _)))).app (.cons (.tup Zdp (.cons (.flat rfl) (.cons (.flat rfl) .nil))) .nil)
   ·intro H' zs S hr hz e
    refine ⟨D, zs, rfl, .inl ⟨SqL.of e, fun tt htt => ⟨z2, fun t ht => q t _ ((S.trans (Zdr htt _)).trans (Zdr ht _)) ?_⟩⟩⟩
    rw [hz, Zar, Za8 (by rw [Zbv]; omega)] at hr
    exact .tup Zdp (.cons (.flat rfl) (.cons (.tup (Zdr ht _ _ _ Zdp) (hr.mono (ZdH.tk ((Zdr htt _).trans (Zdr ht _))))) .nil))
 | case l =>
  refine (ZgQ rfl (show (decide (("case" : Str) = "num") || decide (("case" : Str) = "name")) = false from by decide +kernel) (ZgQ rfl (show (decide (("case" : Str) = "fn") || decide (("case" : Str) = "tag")) = false from by decide +kernel) (Zgw rfl (show decide (("case" : Str) = "let") = false from by decide +kernel) (Zgw rfl (show decide (("case" : Str) = "get") = false from by decide +kernel) (Zgw rfl (show decide (("case" : Str) = "rec") = false from by decide +kernel) (Zmh rfl (show decide (("case" : Str) = "case") = true from by decide +kernel) ?_))))))
  cases hm with
  | @lst ml mxs _ eml hmx =>
   have lm := ZfE hmx
   rw [Zar] at lm
   have hl0 : ks.length = l.length + 1 := by rw [hl]; show (p0 :: l.map fun p => ((some p.2, "arm") : Hol)).length = _; rw [Zao, Zar]
   have l100 := ho.1
   obtain ⟨k0, kr, rfl⟩ : ∃ k0 kr, ks = k0 :: kr := ⟨_, _, Zqn hl0⟩
   rw [Zao] at hl0
   refine ⟨_, hk, Zdx (kat (j := 0) rfl) ?_⟩
   refine ⟨1, rfl, kl, _, rfl, SqL.of hk, fun pc hpc => ?_⟩
   rw [Zaq, (Zqd _ _).1]
   have s1 := Zdr hpc (.lst (kr.map V.int))
   have e1 : (upd H pc (.lst (kr.map V.int))) pc = some (.lst (kr.map V.int)) := Zdp
   refine ⟨ml, pc, rfl, ⟨_, SqL.of (s1 _ _ eml)⟩, ⟨_, SqL.of e1⟩, fun D hD => ?_⟩
   refine Zmi (s1 _ _ eml) e1 (by rw [Zar]; omega) (by omega) hD (fun zs H => Ims H zs (((l.zip kr).take zs.length).map fun p : (Str × Str) × Int => amD (p.1.1, p.1.2, p.2))) (fun xs H H' h tk => h.mono tk) .nil ?_ ?_
   ·intro k H2 x y zs Z t S hx hy hr hz ht hZ
    rw [Zaz] at hy
    obtain ⟨y, hy', rfl⟩ := Zb8.mp hy
    obtain ⟨dd, hdd, him⟩ := Zhh hmx hx
    rw [Zaz] at hdd
    obtain ⟨⟨g, x'⟩, hp, rfl⟩ := Zb8.mp hdd
    cases him with
    | @tup tb _ _ eb hb =>
     cases hb with
     | cons b1 hb =>
      cases hb with
      | cons b2 hb =>
       cases b1; cases b2; cases hb
       have eb2 := (Zdr ht (.tup [.ref tb, .int y])) _ _ (S _ _ (s1 _ _ eb))
       refine ⟨_, eb2, Zdx (Zdw (j := 0) rfl) ⟨_, eb2, Zdx (Zdw (j := 1) rfl) ⟨z3, fun p hp' => hZ _ _ ((Zdr ht _).trans (Zdr hp' _)) ?_⟩⟩⟩
       rw [ZaB, ZaQ, Zbd, show (l.zip kr)[zs.length]? = some ((g, x'), y) by rw [hz, Zbw]; exact ⟨hp, hy'⟩, ZaV]
       exact (hr.mono (ZdH.tk ((Zdr ht _).trans (Zdr hp' _)))).app (.cons (.tup Zdp (.cons (.flat rfl) (.cons (.flat rfl) (.cons (.flat rfl) .nil)))) .nil)
   ·intro H' zs S hr hz e
    refine ⟨D, zs, rfl, .inl ⟨SqL.of e, fun tt htt => ⟨z3, fun t ht => q t _ (((s1.trans S).trans (Zdr htt _)).trans (Zdr ht _)) ?_⟩⟩⟩
    rw [hz, Za8 (by rw [Zbv]; omega)] at hr
    refine .tup Zdp (.cons (.flat rfl) (.cons (.flat rfl) (.cons (.tup (Zdr ht _ _ _ Zdp) ?_) .nil)))
    show Ims _ zs (((l.zip kr).map fun p => (p.1.1, p.1.2, p.2)).map amD)
    rw [Zbr]
    exact hr.mono (ZdH.tk ((Zdr htt (.tup zs)).trans (Zdr ht _)))
 | row m =>
  cases hm
  refine (ZgQ rfl (show (decide (("row" : Str) = "num") || decide (("row" : Str) = "name")) = false from by decide +kernel) (ZgQ rfl (show (decide (("row" : Str) = "fn") || decide (("row" : Str) = "tag")) = false from by decide +kernel) (Zgw rfl (show decide (("row" : Str) = "let") = false from by decide +kernel) (Zgw rfl (show decide (("row" : Str) = "get") = false from by decide +kernel) (Zgw rfl (show decide (("row" : Str) = "rec") = false from by decide +kernel) (Zgw rfl (show decide (("row" : Str) = "case") = false from by decide +kernel) (Zmh rfl (show decide (("row" : Str) = "row") = true from by decide +kernel) ?_)))))))
  refine ⟨kl, _, rfl, .inl ⟨SqL.of hk, fun tt htt => ⟨z2, fun t ht => q t _ ((Zdr htt _).trans (Zdr ht _)) ?_⟩⟩⟩
  exact .tup Zdp (.cons (.flat rfl) (.cons (.tup (Zdr ht _ _ _ Zdp) (Zmg _)) .nil))
 | op s m =>
  cases hm
  have hs : s ∈ plain := ho.1
  have no : ∀ x ∈ Zmf, decide (s = x) = false := fun x hx => ZoQ hs hx
  have no2 : ∀ x ∈ Zmf, ∀ y ∈ Zmf, (decide (s = x) || decide (s = y)) = false := fun x hx y hy => by rw [no x hx, no y hy]; rfl
  refine (ZgQ rfl (no2 _ (by decide +kernel) _ (by decide +kernel)) (ZgQ rfl (no2 _ (by decide +kernel) _ (by decide +kernel)) (Zgw rfl (no _ (by decide +kernel)) (Zgw rfl (no _ (by decide +kernel)) (Zgw rfl (no _ (by decide +kernel)) (Zgw rfl (no _ (by decide +kernel)) (Zgw rfl (no _ (by decide +kernel)) ?_)))))))
  refine ⟨(by show 1 <= sizeLine; decide), fun t1 ht1 => ?_⟩
  have s1 := Zdr ht1 (.tup [.str s])
  have hle := (Kn.op s m).ho_le ho
  refine ⟨kl, _, rfl, .inl ⟨SqL.of (s1 _ _ hk), fun tt htt => ?_⟩⟩
  have s2 := Zdr htt (.tup (ks.map V.int))
  refine ⟨t1, tt, _, _, rfl, rfl, SqT.of (s2 _ _ Zdp), SqT.of Zdp, by simp, by rw [Zar]; show 1 + ks.length <= _; omega, fun e => ?_, fun e p hp => ?_⟩
  ·have e2 : ks = [] := List.map_eq_nil_iff.mp e
   subst e2
   exact q t1 _ (s1.trans s2) (.tup (s2 _ _ Zdp) (.cons (.flat rfl) .nil))
  ·exact q p _ ((s1.trans s2).trans (Zdr hp _)) (.tup Zdp (.cons (.flat rfl) (Zmg _)))
end
def FrD (D : Addr) (H H' : Hp) : Prop := ∀ a o, H a = some o -> a ≠ D -> H' a = some o
theorem Zmk {J : It} {i : Nat} {te : TE} {Q : VK} {τ : St} {H1 : Hp} {D : Addr} (n : Nat) (hn : n < sizeLine) (R : List V -> Hp -> Prop) (hR : ∀ xs H H', R xs H -> FrD D H H' -> R xs H') (hD : H1 D = none) (hτ : τ.set i none = τ)
  (hgo : ∀ k H, ZdH H1 H -> k < n -> J.go k H) (hst : ∀ H, ZdH H1 H -> J.stop n H) (h0 : R [] H1)
  (step : ∀ k H v H3 xs (Z : VK), ZdH H1 H -> k < n -> J.yld k H v H3 -> R xs H -> xs.length = k -> H D = some (.lst xs) -> (∀ y H5, ZdH H H5 -> R (xs ++ [y]) H5 -> Z y H5) -> te (τ.set i (some v)) H3 Z)
  (hq : ∀ H' xs, ZdH H1 H' -> R xs H' -> xs.length = n -> H' D = some (.lst xs) -> Q (.ref D) H') : LcP J i Zht te Q τ H1 D := by
 have nd : ∀ (H5 : Hp) (o : HO), FrD D H5 (upd H5 D o) := fun H5 o a u e n => by rw [Zdt n]; exact e
 have up : ∀ {H : Hp} (o : HO), ZdH H1 H -> ZdH H1 (upd H D o) := fun {H} o S b u e => by rw [Zdt (Zdv e hD)]; exact S b u e
 refine ⟨fun k m σ' H2 => m = n - k /\ k <= n /\ (∃ o, σ' = τ.set i o) /\ ZdH H1 H2 /\ ∃ xs, H2 D = some (.lst xs) /\ xs.length = k /\ R xs H2, ⟨n, by simp, ZbW _, ⟨none, hτ.symm⟩, Zdr hD _, [], Zdp, rfl, hR _ _ _ h0 (nd _ _)⟩, ?_⟩
 rintro k m σ' H2 ⟨rfl, hk, ⟨o, rfl⟩, S, xs, e, hl, hr⟩
 by_cases hlt : k < n
 ·refine .inr ⟨hgo k H2 S hlt, fun v H3 y => ?_⟩
  rw [Za5]
  refine step k H2 v H3 xs _ S hlt y hr hl e fun y H5 S5 r5 => ?_
  refine ⟨xs, S5 D _ e, by omega, n - (k + 1), by omega, rfl, hlt, ⟨some v, rfl⟩, up _ (S.trans S5), xs ++ [y], Zdp, by rw [ZaB, hl]; rfl, hR _ _ _ r5 (nd H5 _)⟩
 ·have e1 : k = n := by omega
  subst e1
  exact .inl ⟨hst H2 S, hq H2 xs S hr hl e⟩
noncomputable def Zgb (H H' : Hp) : Hp := fun a => match H a with
 | none => H' a
 | some _ => none
theorem Zfi {H H' : Hp} {a : Addr} {u : HO} (h : H a = none) (e : H' a = some u) : Zgb H H' a = some u := by unfold Zgb; rw [h]; exact e
theorem Zfu {H H' : Hp} {a : Addr} {u : HO} (h : Zgb H H' a = some u) : H a = none /\ H' a = some u := by
 unfold Zgb at h
 cases q : H a with
 | none => rw [q] at h; exact ⟨rfl, h⟩
 | some x => rw [q] at h; cases h
theorem ZfH {H H' H'' : Hp} (s : ZdH H' H'') : ZdH (Zgb H H') (Zgb H H'') := fun b u e => Zfi (Zfu e).1 (s _ _ (Zfu e).2)
theorem Zj1 {H H' H'' : Hp} (s : TK H' H'') : TK (Zgb H H') (Zgb H H'') := fun b u e => Zfi (Zfu e).1 (s _ _ (Zfu e).2)
noncomputable def noD (N : Hp) (D : Addr) : Hp := fun a => if a = D then none else N a
theorem ZnQ {N : Hp} {D a : Addr} {u : HO} (h : a ≠ D) (e : N a = some u) : noD N D a = some u := by unfold noD; rw [if_neg h]; exact e
theorem ZhI {N : Hp} {D a : Addr} {u : HO} (e : noD N D a = some u) : a ≠ D /\ N a = some u := by
 unfold noD at e
 by_cases h : a = D
 ·rw [if_pos h] at e; cases e
 ·rw [if_neg h] at e; exact ⟨h, e⟩
theorem ZoR {N : Hp} {D : Addr} : ZdH (noD N D) N := fun b u e => (ZhI e).2
theorem ZnR {H H' H'' : Hp} {D : Addr} (s : FrD D H' H'') : ZdH (noD (Zgb H H') D) (noD (Zgb H H'') D) := fun b u e => ZnQ (ZhI e).1 (Zfi (Zfu (ZhI e).2).1 (s _ _ (Zfu (ZhI e).2).2 (ZhI e).1))
noncomputable def prD (p : Str × Hm) : Dt := .tup [sD p.1, hmD p.2]
noncomputable def wa (ws : List Str) (z : Int) : Str := ws.getD z.toNat ""
theorem wat {ws : List Str} {z : Int} (hl : ws.length = 16) (h0 : 0 <= z) (h1 : z < 16) : atI (ws.map V.str) z = some (.str (wa ws z)) := by
 have e : z = ((z.toNat : Nat) : Int) := by omega
 have hz : z.toNat < ws.length := by omega
 rw [e]
 refine Zdw ?_
 rw [Zaz, Za0 hz]
 show some (V.str _) = some (V.str (ws.getD _ ""))
 rw [Za3, Zda, Za0 hz]
 rfl
theorem ZnS {ws : List Str} (hl : ws.length = 16) (nd : ws.Nodup) {y z : Int} (h0 : 0 <= y) (h1 : y < 16) (g0 : 0 <= z) (g1 : z < 16) (e : wa ws y = wa ws z) : y = z := by
 have hy : y.toNat < ws.length := by omega
 have hz : z.toNat < ws.length := by omega
 unfold wa at e
 rw [Za3, Za3, Za0 hy, Za0 hz] at e
 have e' : ws[y.toNat] = ws[z.toNat] := e
 have := Zhd nd (Za0 hy) (by rw [Za0 hz, e'])
 omega
theorem Zml {ws : List Str} (hl : ws.length = 16) {z : Int} (h0 : 0 <= z) (h1 : z < 16) : wa ws z ∈ ws := by
 have hz : z.toNat < ws.length := by omega
 unfold wa
 rw [Za3, Za0 hz]
 exact Za4 hz
theorem ZoS {a t k l : Int} (h0 : 0 <= t) (h1 : t < 8) (k0 : 0 <= k) (k1 : k < 16) (l0 : 0 <= l) (l1 : l < 16) (h : (a + (1 + 2 * t) * k) % 16 = (a + (1 + 2 * t) * l) % 16) : k = l := by
 have : t = 0 \/ t = 1 \/ t = 2 \/ t = 3 \/ t = 4 \/ t = 5 \/ t = 6 \/ t = 7 := by omega
 rcases this with rfl | rfl | rfl | rfl | rfl | rfl | rfl | rfl <;> omega
noncomputable def mkF (ws : List Str) (a t : Int) (k : Nat) : Str := wa ws ((a + (1 + 2 * t) * (0 + (k : Int))) % 16)
theorem Zrt {ws : List Str} (hl : ws.length = 16) (nd : ws.Nodup) {a t : Int} (h0 : 0 <= t) (h1 : t < 8) {m : Nat} (hm : m <= 16) : ((Zaa m).map (mkF ws a t)).Nodup := by
 rw [List.Nodup, Zbh]
 refine List.Pairwise.imp_of_mem (fun {x y} hx hy hlt e => ?_) Zbi
 have hx := Zac.mp hx
 have hy := Zac.mp hy
 have := ZnS hl nd (Zdc _ (by decide)) (Zdd _ (by decide)) (Zdc _ (by decide)) (Zdd _ (by decide)) e
 have := ZoS h0 h1 (by omega) (by omega) (by omega) (by omega) this
 omega
theorem Zhi {N : Hp} {v : V} {d : Dt} (h : Dta N v d) : ∀ n : Nat, Zga N (Zav n v) (Zav n d)
 | 0 => .nil
 | n + 1 => by rw [ZaN, ZaN]; exact .cons h (Zhi h n)
theorem ZoT {α β γ : Type} (f : β -> γ) (x : β) (l : List α) : (l.map fun _ => x).map f = Zav l.length (f x) := by
 rw [Zbr]
 exact List.map_const' ..
theorem Zru {H H3 : Hp} {r hl : Addr} {mv : V} {hs : List V} {κ : Kn} (S : ZdH H H3) (hr : H3 r = none) (dm : Dta (Zgb H H3) mv κ.mo) (eh : Zgb H H3 hl = some (.lst hs)) (dh : Zga (Zgb H H3) hs (κ.ho.map hlD)) :
  Dta (Zgb H (upd H3 r (.lst [.str κ.s, mv, .ref hl]))) (.ref r) κ.d := by
 have s1 := ZfH (H := H) (Zdr hr (.lst [.str κ.s, mv, .ref hl]))
 exact .lst (Zfi (S.free hr) Zdp) (.cons (.flat rfl) (.cons (dm.same s1) (.cons (.lst (s1 _ _ eh) (dh.same s1)) .nil)))
section
variable {P : Program} {w : World} {K : PySem.W.Frag} {mg : Str -> Option Value} {base : Heap}
theorem ZoU {J : It} {Q : VK} {H1 : Hp} {D pl : Addr} (n : Nat) (hn : n < sizeLine) (hD : H1 D = none) (hgo : ∀ k H, ZdH H1 H -> k < n -> J.go k H) (hst : ∀ H, ZdH H1 H -> J.stop n H) (hy : ∀ k H v H3, J.yld k H v H3 -> H3 = H)
  (hq : ∀ H', ZdH H1 H' -> H' D = some (.lst (Zav n (.ref pl))) -> Q (.ref D) H') : LcP J 0 Zht (cV 1) Q [none, some (.ref pl)] H1 D := by
 refine ZgF n hn (fun xs _ => xs = Zav xs.length (.ref pl)) (fun xs H H' h _ => h) hD rfl hgo hst rfl ?_ ?_
 ·intro k H v H3 xs Z S hk y hx hl hz
  have := hy k H v H3 y
  subst this
  refine hz _ _ (ZdH.refl _) ?_
  rw [ZaB, ZaQ, List.replicate_succ', <- hx]
 ·intro H' xs S hx hl e
  rw [hl] at hx
  exact hq H' S (by rw [e, hx])
theorem Ziz {H : Hp} : ∀ {xs ys : List V} {ds es : List Dt}, Zga H xs ds -> Zga H ys es -> Zga H (xs ++ ys) (ds ++ es)
 | _, _, _, _, .nil, h => h
 | _, _, _, _, .cons h t, h' => .cons h (Ziz t h')
noncomputable def arF (ws : List Str) (ar t : Int) (k : Nat) : Str × Str := (mkF ws (ar / 6) t k, wa ws ((ar / 768 + (0 + (k : Int)) * (ar / 7 % 3)) % 6))
theorem or2 {t1 t2 : TT} {σ : St} {H : Hp} {R : Bool -> Hp -> Prop} (b1 b2 : Bool) (h1 : ∀ R : Bool -> Hp -> Prop, R b1 H -> t1 σ H R) (h2 : ∀ R : Bool -> Hp -> Prop, R b2 H -> t2 σ H R) (k : R (b1 || b2) H) : tOr t1 t2 σ H R := by
 refine h1 _ ?_
 cases b1 with
 | true => exact Zfq k
 | false => exact Zet (h2 _ k)
theorem ZrI {t1 t2 : TT} {σ : St} {H : Hp} {R : Bool -> Hp -> Prop} (b1 b2 : Bool) (h1 : ∀ R : Bool -> Hp -> Prop, R b1 H -> t1 σ H R) (h2 : ∀ R : Bool -> Hp -> Prop, R b2 H -> t2 σ H R) (k : R (b1 && b2) H) : Zrx t1 t2 σ H R := by
 refine h1 _ ?_
 cases b1 with
 | true => exact Zfq (h2 _ k)
 | false => exact Zet k
def Zh0 : Sp := fun vs H Q _ => ∃ (W hl : Addr) (ws : List Str) (hd : List (Str × Hm)) (hv : List V) (cell room : Int), vs = [.ref W, .int cell, .ref hl, .int room] /\ Wd H W ws /\ H hl = some (.lst hv) /\ Ims H hv (hd.map prD) /\ hv.length <= 10000 /\
 ∀ (r : Addr) (κ : Kn) (H' : Hp), ZdH H H' -> Dta (Zgb H H') (.ref r) κ.d -> κ.okk -> (κ.ho ≠ [] -> 9 <= room) -> κ.ho.length <= 8 -> (∀ w, κ = .name w -> w ∈ hd.map Prod.fst) -> Q (.ref r) H'
theorem ifc {A B u : TS} {D : ZfS} {σ : St} {H : Hp} {t : TT} (b : Bool) (ht : ∀ R : Bool -> Hp -> Prop, R b H -> t σ H R) (k : if b = true then A { D with nx := u D } σ H else B { D with nx := u D } σ H) : Zjs (ZiL t A B) u D σ H := ht _ k
theorem Zh1 (T : Txt K mg) : ZfA P w K mg base CX0 1 T.a_stands T.fd_stands ["_law_words_here", "_law_cell", "_law_held", "_law_room"] Zh0 := by
 refine T.F_stands.ok Zd9 (fun vs H Q E h => ?_) (fun cdv A outer s H vs Q E hr h => ?_)
 ·obtain ⟨W, hl, ws, hd, hv, cell, room, rfl, _⟩ := h
  rfl
 obtain ⟨W, hl, ws, hd, hv, cell, room, rfl, ⟨eW, wl, wnd, wle⟩, el, him, hle, q⟩ := h
 refine ⟨_, (Zdo (ZdE (i := 4) Zd9.nd rfl (.inl rfl) (ZdF Zd8 (cv 1) Zds))
  (Zdo (ZdE (i := 5) Zd9.nd rfl (.inr rfl) (ZdF Zd8 (ZdF Zgl (ZdF Zez (ZdF Zd8 (ZdF ZeC (cv 1) Zds) (ZdF Zh9 Zds Zds)) Zds) Zds) Zds))
  (Zdo (ZdE (i := 6) Zd9.nd rfl (.inl rfl) (ZdG ZdD (cv 0) (ZdF Zd8 (cv 5) Zds) (fun _ _ => rfl)))
  (Zdo (ZdE (i := 7) Zd9.nd rfl (.inr rfl) (ZdN (Zdn Zgh (Zdn ZdJ Zdq))))
  (Zdo (Zd0 (PW.pt (Zgn (ZdA Zhw (cv 3) Zds (ZdK _)) (ZfQ (ZdA Zhw (cv 4) Zds (ZdK _)))))
   (Zdo (Zd0 (PW.pt (Zhk (ZdA Zhx (cv 4) Zds (ZdK _)) (ZgV (ZdA Zhx (ZdC Zdz rfl T.z_len Zd4 (Zdn (cv 2) Zdq)) Zds (ZdK _)))))
    (Zdu (ZdL (ZdN (Zdn ZdJ (Zdn (ZdG ZdT (ZdG ZdD (cv 2) (ZdF Zd8 (cv 5) (ZdC Zdz rfl T.z_len Zd4 (Zdn (cv 2) Zdq))) (fun _ _ => rfl)) Zds (fun _ _ => rfl)) (Zdn (ZdN Zdq) Zdq))))))
    ZdI)
   (Zdu (ZdL (ZdN (Zdn ZdJ (Zdn (ZdF Zd8 (ZdF ZeC (cv 1) Zds) (ZdF Zh9 Zds Zds)) (Zdn (ZdN Zdq) Zdq)))))))
   ZdI)
  (Zdo (Zd0 (ZdA Zhw (cv 4) Zds (ZdK _))
   (Zdu (ZdL (ZdN (Zdn ZdJ (Zdn (cv 6) (Zdn (ZdN (Zdn (ZdN (Zdn (cv 6) (Zdn ZdJ Zdq))) Zdq)) Zdq))))))
   ZdI)
  (Zdo (Zd0 (ZdA Zhw (cv 4) Zds (ZdK _))
   (Zdu (ZdL (ZdN (Zdn ZdJ (Zdn (cv 6) (Zdn (ZdN (Zdn (cv 7) (Zdn (ZdN (Zdn (cv 6) (Zdn ZdJ Zdq))) Zdq))) Zdq))))))
   ZdI)
  (Zdo (Zd0 (ZdA Zhw (cv 4) Zds (ZdK _))
   (Zdo (ZdE (i := 8) Zd9.nd rfl (.inr rfl) (ZdF Zez Zds (ZdF Zgl Zds (ZdF Zd8 (ZdF ZeC (cv 5) Zds) Zds))))
   (Zdo (ZdE (i := 9) Zd9.nd rfl (.inl rfl) (ZdF Zez (ZdF ZfR (cv 4) Zds) (ZdF Zd8 (cv 5) (ZdF ZfR Zds (cv 4)))))
   (Zdo (ZdE (i := 10) Zd9.nd rfl (.inr rfl) (ZgY rfl (ZlL (x := "_law_k") ["_law_words_here", "_law_step", "_law_arg"] [("_law_words_here", 0, s.heap.objs.size + 1), ("_law_step", 8, s.heap.objs.size + 4), ("_law_arg", 5, s.heap.objs.size + 2)] rfl rfl (by decide +kernel) (by decide +kernel) rfl (by decide +kernel) rfl rfl (by intro p hp; simp only [Zag, Za1, or_false] at hp; rcases hp with rfl | rfl | rfl <;> exact ⟨rfl, rfl, rfl, rfl⟩)) (Zeu rfl T.z_range (Zdn (cv 9) Zdq)) (fun _ _ _ _ _ => Ze4) (fun _ _ _ _ _ => (ZdG ZdD (cv 1) (ZdF Zd8 (ZdF Zez (ZdF ZeC (cv 3) Zds) (ZdF Zgl (cv 2) (cv 0))) Zds) (fun _ _ => rfl)))))
   (Zdo (Zd0 (ZdA ZeH (cv 4) Zds (ZdK _))
    (Zdu (ZdL (ZdN (Zdn ZdJ (Zdn (cv 10) (Zdn (ZgY rfl (ZlL (x := "_law_mark") ["_law_plain"] [("_law_plain", 7, s.heap.objs.size + 3)] rfl rfl (by decide +kernel) (by decide +kernel) rfl (by decide +kernel) rfl rfl (by intro p hp; simp only [Zag, Za1, or_false] at hp; rcases hp with rfl <;> exact ⟨rfl, rfl, rfl, rfl⟩)) (Zfo (cv 10)) (fun _ _ _ _ _ => Ze4) (fun _ _ _ _ _ => (cv 1))) Zdq))))))
    ZdI)
   (Zdo (Zhg (j := 11) rfl (ZlL (x := "_law_k") ["_law_words_here", "_law_marks", "_law_arg"] [("_law_words_here", 0, s.heap.objs.size + 1), ("_law_marks", 10, s.heap.objs.size + 5), ("_law_arg", 5, s.heap.objs.size + 2)] rfl rfl (by decide +kernel) (by decide +kernel) rfl (by decide +kernel) rfl rfl (by intro p hp; simp only [Zag, Za1, or_false] at hp; rcases hp with rfl | rfl | rfl <;> exact ⟨rfl, rfl, rfl, rfl⟩)) (Zeu rfl T.z_range (Zdn (cv 9) Zdq)) (fun _ _ _ _ _ => Ze4) (fun _ _ _ _ _ => (Zey (Zdn (ZdG ZdD (cv 2) (cv 0) (fun _ _ => rfl)) (Zdn (ZdG ZdD (cv 1) (ZdF Zd8 (ZdF Zez (ZdF ZeC (cv 3) Zds) (ZdF Zgl (cv 0) (ZdF Zd8 (ZdF ZeC (cv 3) Zds) Zds))) Zds) (fun _ _ => rfl)) Zdq)))) Zd9.nd rfl (.inl rfl))
   (Zdu (ZdL (ZdN (Zdn ZdJ (Zdn (cv 11) (Zdn (ZdF Zi0 (ZdN (Zdn (cv 7) Zdq)) (ZgY rfl (Zpg (x := "_law_arm") rfl (by decide +kernel) (by decide +kernel) rfl rfl) (Zfo (cv 11)) (fun _ _ _ _ _ => Ze4) (fun _ _ _ _ _ => (ZdN (Zdn (ZdG ZdT (cv 0) Zds (fun _ _ => rfl)) (Zdn ZdJ Zdq)))))) Zdq)))))))))))
   ZdI)
  (Zdo (Zd0 (ZdA ZeH (cv 4) Zds (ZdK _))
   (Zdu (ZdL (ZdN (Zdn ZdJ (Zdn ZdJ (Zdn (ZgY rfl (ZlL (x := "_law_k") ["_law_plain"] [("_law_plain", 7, s.heap.objs.size + 3)] rfl rfl (by decide +kernel) (by decide +kernel) rfl (by decide +kernel) rfl rfl (by intro p hp; simp only [Zag, Za1, or_false] at hp; rcases hp with rfl <;> exact ⟨rfl, rfl, rfl, rfl⟩)) (Zeu rfl T.z_range (Zdn (ZdF Zd8 (cv 5) Zds) Zdq)) (fun _ _ _ _ _ => Ze4) (fun _ _ _ _ _ => (cv 1))) Zdq))))))
   ZdI)
  (Zdo (Zd0 (ZdA ZeH (cv 4) Zds (ZdK _))
   (Zdu (ZdL (ZdN (Zdn (ZdG ZdD (ZdN (Zdn ZdJ (Zdn ZdJ Zdq))) (ZdF Zd8 (cv 5) Zds) (fun _ _ => rfl)) (Zdn (ZdG ZdD (cv 0) (ZdF Zd8 (ZdF ZeC (cv 5) Zds) Zds) (fun _ _ => rfl)) (Zdn (ZdN (Zdn (cv 7) Zdq)) Zdq))))))
   ZdI)
  (Zdo (Zd0 (ZdA ZeH (cv 4) Zds (ZdK _))
   (Zdu (ZdL (ZdN (Zdn (ZdG ZdD (ZdN (Zdn ZdJ (Zdn ZdJ Zdq))) (ZdF Zd8 (cv 5) Zds) (fun _ _ => rfl)) (Zdn ZdJ (Zdn (ZgY rfl (ZlL (x := "_law_k") ["_law_plain"] [("_law_plain", 7, s.heap.objs.size + 3)] rfl rfl (by decide +kernel) (by decide +kernel) rfl (by decide +kernel) rfl rfl (by intro p hp; simp only [Zag, Za1, or_false] at hp; rcases hp with rfl <;> exact ⟨rfl, rfl, rfl, rfl⟩)) (Zeu rfl T.z_range (Zdn (ZdF Zez Zds (ZdF Zgl (ZdF Zd8 (cv 5) Zds) Zds)) Zdq)) (fun _ _ _ _ _ => Ze4) (fun _ _ _ _ _ => (cv 1))) Zdq))))))
   ZdI)
  (Zdu (ZdL (ZdN (Zdn (ZdG ZdD (ZdN (Zdn ZdJ (Zdn ZdJ (Zdn ZdJ (Zdn ZdJ (Zdn ZdJ Zdq)))))) (ZdF Zd8 (cv 5) Zds) (fun _ _ => rfl)) (Zdn ZdJ (Zdn (ZdN (Zdn (cv 7) (Zdn (cv 7) Zdq))) Zdq))))))))))))))))), ?_⟩
 have sl : sizeLine = 16777216 := sizeLine_eq
 have dv : ∀ i : Int, ZqJ i 16 := fun _ => ⟨by decide, by decide⟩
 refine ⟨(by show (0 : Int) < 16; decide), dv _, ⟨by decide, by decide, by decide⟩, (by show (0 : Int) < 10 ^ (20 : Int).toNat; decide +kernel), .inr ⟨by decide, by decide⟩, (by show (0 : Int) < 2147483647; decide), ?_⟩
 have a0 : 0 <= (cell / 16 % 10 ^ (20 : Int).toNat + 3) * 48271 % 2147483647 := Zdc _ (by decide)
 have a9 : (cell / 16 % 10 ^ (20 : Int).toNat + 3) * 48271 % 2147483647 < 2147483647 := Zdd _ (by decide)
 have o0 : 0 <= cell % 16 := Zdc _ (by decide)
 have o1 : cell % 16 < 16 := Zdd _ (by decide)
 dsimp only [Zd1]
 generalize (cell / 16 % 10 ^ (20 : Int).toNat + 3) * 48271 % 2147483647 = ar at a0 a9 ⊢
 generalize cell % 16 = o at o0 o1 ⊢
 refine ⟨(by show (0 : Int) < 6; decide), _, eW, Zdx (wat wl (Zdc _ (by decide)) (by omega)) ?_⟩
 dsimp only [Zd1]
 have hone : wa ws (ar % 6) ≠ "none" := ZjY (wle _ (Zml wl (Zdc _ (by decide)) (by omega))).2
 generalize wa ws (ar % 6) = one at hone ⊢
 refine ⟨(by show 2 <= sizeLine; decide), fun pl hpl => ?_⟩
 have s1 := Zdr hpl (.lst [.non, .str ""])
 have e1 : Zgb H (upd H pl (.lst [.non, .str ""])) pl = some (.lst [.non, .str ""]) := Zfi hpl Zdp
 dsimp only [Zd1]
 generalize upd H pl (.lst [.non, .str ""]) = H1 at s1 e1 ⊢
 have z2 : 2 <= sizeLine := by decide
 have z3 : 3 <= sizeLine := by decide
 have z0 : 0 <= sizeLine := by decide
 have z1 : 1 <= sizeLine := by decide
 have dpl : ∀ {H3 : Hp}, ZdH H1 H3 -> Dta (Zgb H H3) (.ref pl) (hlD p0) := fun S => .lst (ZfH S _ _ e1) (.cons (.flat rfl) (.cons (.flat rfl) .nil))
 have eW1 := s1 _ _ eW
 have el1 := s1 _ _ el
 have fin : ∀ {κ : Kn} {H3 : Hp} {r l2 : Addr} {mv : V} {hs : List V}, ZdH H1 H3 -> H3 r = none -> Dta (Zgb H H3) mv κ.mo -> Zgb H H3 l2 = some (.lst hs) -> Zga (Zgb H H3) hs (κ.ho.map hlD) -> κ.ok -> (κ.ho ≠ [] -> 9 <= room) -> κ.ho.length <= 8 -> (∀ w, κ = .name w -> w ∈ hd.map Prod.fst) -> κ.nn -> Q (.ref r) (upd H3 r (.lst [.str κ.s, mv, .ref l2])) :=
  fun {κ} {_} {r} {_} {_} {_} S hr dm eh dh k1 k2 k3 k4 k5 => q r κ _ ((s1.trans S).trans (Zdr hr _)) (Zru (s1.trans S) hr dm eh dh) ⟨k1, k5⟩ k2 k3 k4
 have nw : ∀ {H3 : Hp} {x : Addr} {u : HO}, ZdH H1 H3 -> H3 x = none -> Zgb H (upd H3 x u) x = some u := fun S hx => Zfi ((s1.trans S).free hx) Zdp
 refine ifc (decide (room < 9) || decide (o < 5)) (fun R hR => or2 _ _ (fun R h => h) (fun R h => h) hR) ?_
 cases hb : (decide (room < 9) || decide (o < 5)) with
 | true =>
  refine Zfq (ifc (decide (0 < o) && decide (0 < hv.length)) (fun R hR => ZrI _ _ (fun R h => h) (fun R h => ⟨hl, _, rfl, .inl (SqL.of el1), (by show R (decide ((0 : Int) < (hv.length : Int))) H1; rw [show decide ((0 : Int) < (hv.length : Int)) = decide (0 < hv.length) from decide_eq_decide.mpr (by omega)]; exact h)⟩) hR) ?_)
  cases hb2 : (decide (0 < o) && decide (0 < hv.length)) with
  | true =>
   rw [Zc2, decide_eq_true_eq, decide_eq_true_eq] at hb2
   have hpos : (0 : Int) < (hv.length : Int) := by omega
   obtain ⟨c, hc, hcm⟩ := Zi5 hv (ar % (hv.length : Int)) (Zdc _ (by omega)) (Zdd _ hpos)
   obtain ⟨j, hj⟩ := Zbt.mp hcm
   obtain ⟨d, hdj, hdi⟩ := Zfk him hj
   rw [Zaz] at hdj
   obtain ⟨p, hp, rfl⟩ := Zb8.mp hdj
   cases hdi with
   | @tup tp _ _ ep hps =>
    cases hps with
    | cons p1 hps =>
     cases p1
     refine Zfq ⟨hl, _, rfl, .inl (SqL.of el1), hpos, _, el1, Zdx hc ⟨_, s1 _ _ ep, Zdx (Zdw (j := 0) rfl) ⟨z0, fun l2 h2 => ⟨z3, fun r hr => ?_⟩⟩⟩⟩
     exact fin (κ := .name p.1) (Zdr h2 _) hr (.flat rfl) (nw (ZdH.refl _) h2) .nil trivial (fun z => absurd rfl z) (ZbW _) (fun w e => by cases e; exact ZaS.mpr ⟨p, ZaA hp, rfl⟩) (ZoN fun z hz => nomatch hz)
  | false =>
   refine Zet ⟨dv _, ⟨by decide, by decide, by decide⟩, (by show (0 : Int) < 10 ^ (60 : Int).toNat; decide +kernel), z0, fun l2 h2 => ⟨z3, fun r hr => ?_⟩⟩
   exact fin (κ := .num _) (Zdr h2 _) hr (.flat rfl) (nw (ZdH.refl _) h2) .nil trivial (fun z => absurd rfl z) (ZbW _) (fun w e => nomatch e) (ZoN fun z hz => nomatch hz)
 | false =>
  rw [Zc6, decide_eq_false_iff_not, decide_eq_false_iff_not] at hb
  have rm : 9 <= room := by omega
  have o5 : 5 <= o := by omega
  refine Zet ?_
  dsimp only [ZgW]
  refine ifc (decide (o < 8)) (fun R h => h) ?_
  by_cases b8 : o < 8
  ·rw [decide_eq_true b8]
   refine Zfq ⟨z2, fun i1 hi1 => ⟨z1, fun l2 h2 => ⟨z3, fun r hr => ?_⟩⟩⟩
   have t1 := Zdr hi1 (.lst [.str one, .str "fn"])
   have t2 := Zdr h2 (.lst [.ref i1])
   exact fin (κ := .fn one) (t1.trans t2) hr (.flat rfl) (nw t1 h2) (.cons (.lst (ZfH t2 _ _ (nw (ZdH.refl _) hi1)) (.cons (.flat rfl) (.cons (.flat rfl) .nil))) .nil) trivial (fun _ => rm) (by show 1 <= 8; decide) (fun w e => nomatch e) (Zrr hone)
  rw [decide_eq_false b8]
  refine Zet ?_
  dsimp only [ZgW]
  refine ifc (decide (o < 10)) (fun R h => h) ?_
  by_cases b10 : o < 10
  ·rw [decide_eq_true b10]
   refine Zfq ⟨z2, fun i1 hi1 => ⟨z2, fun l2 h2 => ⟨z3, fun r hr => ?_⟩⟩⟩
   have t1 := Zdr hi1 (.lst [.str one, .str "let"])
   have t2 := Zdr h2 (.lst [.ref pl, .ref i1])
   exact fin (κ := .lt one) (t1.trans t2) hr (.flat rfl) (nw t1 h2) (.cons (dpl (t1.trans t2)) (.cons (.lst (ZfH t2 _ _ (nw (ZdH.refl _) hi1)) (.cons (.flat rfl) (.cons (.flat rfl) .nil))) .nil)) trivial (fun _ => rm) (by show 2 <= 8; decide) (fun w e => nomatch e) (Zrs hone)
  rw [decide_eq_false b10]
  refine Zet ?_
  dsimp only [ZgW]
  refine ifc (decide (o < 12)) (fun R h => h) ?_
  by_cases b12 : o < 12
  ·rw [decide_eq_true b12]
   refine Zfq ⟨⟨by decide, by decide⟩, (by show (0 : Int) < 8; decide), .inl ⟨by decide, by decide⟩, ?_⟩
   have t0 : 0 <= ar / 96 % 8 := Zdc _ (by decide)
   have t8 : ar / 96 % 8 < 8 := Zdd _ (by decide)
   refine ⟨(by show (0 : Int) < 17 - o; omega), ?_⟩
   have m0 : 0 <= o - 10 + ar % (17 - o) := by have := Zdc ar (show 17 - o ≠ 0 by omega); omega
   have m6 : o - 10 + ar % (17 - o) <= 6 := by have := Zdd ar (show 0 < 17 - o by omega); omega
   obtain ⟨many, hmany⟩ : ∃ z : Int, z = o - 10 + ar % (17 - o) := ⟨_, rfl⟩
   rw [<- hmany] at m0 m6
   refine ⟨many, by rw [hmany], by omega, by omega, fun D hD => ?_⟩
   have mn : many.toNat <= 6 := by omega
   refine ZgF many.toNat (by omega) (fun xs _ => xs = ((Zaa xs.length).map (mkF ws (ar / 6) (ar / 96 % 8))).map V.str) (fun xs H H' h _ => h) hD rfl (fun k H _ h => Zg4 h) (fun H _ => ZbV _) rfl ?_ ?_
   ·intro k H2 v H3 xs Z S hk y hx hxl hZ
    obtain ⟨rfl, rfl⟩ := y
    refine ⟨⟨by decide, by decide⟩, .inl ⟨by omega, by omega⟩, (by show (0 : Int) < 16; decide), _, S _ _ eW1, Zdx (wat wl (Zdc _ (by decide)) (Zdd _ (by decide))) (hZ _ _ (ZdH.refl _) ?_)⟩
    rw [ZaB, ZaQ, Zbl, ZaV, ZaV, <- hx, hxl]
    rfl
   intro H2 xs S hx hxl eD
   rw [hxl] at hx
   subst hx
   have hD0 : H D = none := s1.free hD
   have nd := Zrt wl wnd (a := ar / 6) t0 t8 (show many.toNat <= 16 by omega)
   have ml : ((Zaa many.toNat).map (mkF ws (ar / 6) (ar / 96 % 8))).length = many.toNat := by rw [Zar, Zbm]
   have dmarks : ∀ l : List Str, Zga (Zgb H H2) (l.map V.str) (l.map sD) := fun l => by
    induction l with
    | nil => exact .nil
    | cons x l ih => exact .cons (.flat rfl) ih
   dsimp only [Zd1]
   refine ifc (decide (o = 10)) (fun R h => by show R (false ^^ decide (o = 10)) H2; rw [Zc4]; exact h) ?_
   by_cases b : o = 10
   ·rw [decide_eq_true b]
    refine Zfq ⟨D, rfl, ⟨_, SqL.of eD⟩, fun D2 hD2 => ?_⟩
    refine ZoU many.toNat (by omega) hD2 (fun k H S h => Zi6 eD S (by rw [Zar, ml]; exact h)) (fun H S => by have := Zi7 (K := K) eD S; rw [Zar, ml] at this; exact this) (fun k H v H3 y => y.1) ?_
    intro H4 S4 e4
    refine ⟨z3, fun r hr => ?_⟩
    refine fin (κ := .rcd ((Zaa many.toNat).map (mkF ws (ar / 6) (ar / 96 % 8)))) (S.trans S4) hr (.lst (Zfi hD0 (S4 _ _ eD)) ((dmarks _).same (ZfH S4))) (Zfi ((s1.trans S).free hD2) e4) ?_ ⟨by rw [ml]; omega, nd⟩ (fun _ => rm) ?_ (fun w e => nomatch e) (Zqj _)
    ·show Zga _ _ ((((Zaa many.toNat).map (mkF ws (ar / 6) (ar / 96 % 8))).map fun _ => p0).map hlD)
     rw [ZoT, ml]
     exact Zhi (dpl (S.trans S4)) _
    ·show (((Zaa many.toNat).map (mkF ws (ar / 6) (ar / 96 % 8))).map fun _ => p0).length <= 8
     rw [Zar, ml]
     omega
   ·rw [decide_eq_false b]
    refine Zet ⟨many, by rw [hmany], by omega, by omega, fun DA hDA => ?_⟩
    refine ZgF many.toNat (by omega) (fun xs Hc => Ims (Zgb H Hc) xs (((Zaa xs.length).map (arF ws ar (ar / 96 % 8))).map agD)) (fun xs Hc Hc' h tk => h.mono (Zj1 tk)) hDA rfl (fun k H _ h => Zg4 h) (fun H _ => ZbV _) .nil ?_ ?_
    ·intro k H3 v H4 ys Z S3 hk y hy hyl hZ
     obtain ⟨rfl, rfl⟩ := y
     have hk1 : (((Zaa many.toNat).map (mkF ws (ar / 6) (ar / 96 % 8))).map V.str)[k]? = some (.str (mkF ws (ar / 6) (ar / 96 % 8) k)) := by rw [Zaz, Zaz, Zbx hk]; rfl
     have hk2 : atI (((Zaa many.toNat).map (mkF ws (ar / 6) (ar / 96 % 8))).map V.str) (0 + (k : Int)) = some (.str (mkF ws (ar / 6) (ar / 96 % 8) k)) := by rw [Zdb]; exact Zdw hk1
     refine ⟨_, S3 _ _ eD, Zdx hk2 ⟨⟨by decide, by decide⟩, ⟨by decide, by decide⟩, (by show (0 : Int) < 3; decide), .inl ⟨by omega, by omega⟩, (by show (0 : Int) < 6; decide), _, (S.trans S3) _ _ eW1, Zdx (wat wl (Zdc _ (by decide)) (by have := Zdd (ar / 768 + (0 + (k : Int)) * (ar / 7 % 3)) (show (0 : Int) < 6 by decide); omega)) ⟨z2, fun p hp => hZ _ _ (Zdr hp _) ?_⟩⟩⟩
     rw [ZaB, ZaQ, Zbl, ZaV, ZaV]
     refine (hy.mono (Zj1 (ZdH.tk (Zdr hp _)))).app (.cons (.tup (Zfi ((s1.trans (S.trans S3)).free hp) Zdp) ?_) .nil)
     rw [hyl]
     exact .cons (.flat rfl) (.cons (.flat rfl) .nil)
    intro H3 ys S3 hy hyl eDA
    rw [hyl] at hy
    have S13 := S.trans S3
    have al : ((Zaa many.toNat).map (arF ws ar (ar / 96 % 8))).length = many.toNat := by rw [Zar, Zbm]
    refine ⟨z1, fun l1 hl1 => ?_⟩
    have t3 := Zdr hl1 (.lst [.ref pl])
    have el1' : (upd H3 l1 (.lst [.ref pl])) l1 = some (.lst [.ref pl]) := Zdp
    generalize upd H3 l1 (.lst [.ref pl]) = H4 at t3 el1' ⊢
    have S14 := S13.trans t3
    refine ⟨DA, rfl, ⟨_, SqL.of (t3 _ _ eDA)⟩, fun D3 hD3 => ?_⟩
    refine Zmk many.toNat (by omega) (fun xs Hc => Zga (noD (Zgb H Hc) D3) xs (((Zaa xs.length).map fun k => ((some (arF ws ar (ar / 96 % 8) k).2, ("arm" : Str)) : Hol)).map hlD)) (fun xs Hc Hc' h tk => h.same (ZnR tk)) hD3 rfl (fun k H S h => Zi6 (t3 _ _ eDA) S (by omega)) (fun H S => by rw [<- hyl]; exact Zi7 (t3 _ _ eDA) S) .nil ?_ ?_
    ·intro k H5 v H6 zs Z S5 hk y hz hzl eD3 hZ
     obtain ⟨rfl, hv'⟩ := y
     have hv' := hv' _ (SqL.of (S5 _ _ (t3 _ _ eDA)))
     obtain ⟨d, hdk, hdi⟩ := Zfk hy hv'
     rw [Zaz, Zaz, Zbx hk] at hdk
     cases hdk
     cases hdi with
     | @tup tb _ _ eb hb =>
      cases hb with
      | cons b1 hb =>
       cases hb with
       | cons b2 hb =>
        cases b1; cases b2; cases hb
        refine ⟨_, S5 _ _ (t3 _ _ (Zfu eb).2), Zdx (Zdw (j := 1) rfl) ⟨z2, fun p hp => hZ _ _ (Zdr hp _) ?_⟩⟩
        rw [ZaB, ZaQ, Zbl, ZaV, ZaV]
        refine Ziz (hz.same (ZnR fun a o e _ => Zdr hp _ _ _ e)) (.cons (.lst (ZnQ (Zdv eD3 hp).symm (Zfi ((s1.trans (S14.trans S5)).free hp) Zdp)) ?_) .nil)
        rw [hzl]
        exact .cons (.flat rfl) (.cons (.flat rfl) .nil)
    intro H5 zs S5 hz hzl eD3
    rw [hzl] at hz
    refine ⟨l1, D3, _, _, rfl, rfl, S5 _ _ el1', eD3, by rw [hzl]; show 1 + many.toNat <= sizeLine; omega, fun p hp => ⟨z3, fun r hr => ?_⟩⟩
    have t6 := Zdr hp (.lst ([.ref pl] ++ zs))
    refine fin (κ := .case ((Zaa many.toNat).map (arF ws ar (ar / 96 % 8)))) ((S14.trans S5).trans t6) hr ?_ (nw (S14.trans S5) hp) ?_ ⟨by rw [al]; omega, ?_⟩ (fun _ => rm) ?_ (fun w e => nomatch e) (ZoO fun p hp => by obtain ⟨k, _, rfl⟩ := ZaS.mp hp; exact ZjY (wle _ (Zml wl (Zdc _ (by decide)) (Int.lt_trans (Zdd _ (by decide)) (by decide)))).2)
    ·exact .lst (Zfi ((s1.trans S).free hDA) (t6 _ _ (S5 _ _ (t3 _ _ eDA)))) ((hy.mono (Zj1 (ZdH.tk (t3.trans (S5.trans t6))))).das)
    ·show Zga _ (.ref pl :: zs) ((p0 :: ((Zaa many.toNat).map (arF ws ar (ar / 96 % 8))).map fun p => ((some p.2, "arm") : Hol)).map hlD)
     rw [Zaq, Zbr (l := Zaa many.toNat)]
     exact .cons (dpl ((S14.trans S5).trans t6)) ((hz.same ZoR).same (ZfH t6))
    ·rw [Zbr]
     exact nd
    ·show (p0 :: ((Zaa many.toNat).map (arF ws ar (ar / 96 % 8))).map fun p => ((some p.2, "arm") : Hol)).length <= 8
     rw [Zao, Zar, al]
     omega
  rw [decide_eq_false b12]
  have r2 : 0 <= ar % 2 := Zdc _ (by decide)
  have r2' : ar % 2 < 2 := Zdd _ (by decide)
  refine Zet ?_
  dsimp only [ZgW]
  refine ifc (decide (o = 12)) (fun R h => by show R (false ^^ decide (o = 12)) H1; rw [Zc4]; exact h) ?_
  by_cases b : o = 12
  ·rw [decide_eq_true b]
   have n0 : 0 <= ar % 9 := Zdc _ (by decide)
   have n9 : ar % 9 < 9 := Zdd _ (by decide)
   refine Zfq ⟨(by show (0 : Int) < 9; decide), _, rfl, by omega, by omega, fun D hD => ?_⟩
   refine ZoU (ar % 9).toNat (by omega) hD (fun k H S h => Zg4 h) (fun H S => ZbV _) (fun k H v H3 y => y.1) ?_
   intro H4 S4 e4
   refine ⟨z3, fun r hr => fin (κ := .row (ar % 9).toNat) S4 hr (.flat rfl) (Zfi (s1.free hD) e4) ?_ (by show (ar % 9).toNat <= 100; omega) (fun _ => rm) (by show (Zav (ar % 9).toNat p0).length <= 8; rw [ZaC]; omega) (fun w e => nomatch e) (Zqk _)⟩
   show Zga _ _ ((Zav (ar % 9).toNat p0).map hlD)
   rw [Zby]
   exact Zhi (dpl S4) _
  rw [decide_eq_false b]
  refine Zet ?_
  dsimp only [ZgW]
  refine ifc (decide (o = 13)) (fun R h => by show R (false ^^ decide (o = 13)) H1; rw [Zc4]; exact h) ?_
  by_cases b : o = 13
  ·rw [decide_eq_true b]
   refine Zfq ⟨z2, fun g hg => ?_⟩
   have t1 := Zdr hg (.lst [.str "get", .str "tag"])
   have eg : (upd H1 g (.lst [.str "get", .str "tag"])) g = some (.lst [.str "get", .str "tag"]) := Zdp
   generalize upd H1 g (.lst [.str "get", .str "tag"]) = H2 at t1 eg ⊢
   have wr : ∀ s : Str, (∃ κ : Kn, κ = .get (wa ws (ar / 2 % 16)) /\ s = "get" \/ κ = .tag (wa ws (ar / 2 % 16)) /\ s = "tag") -> ZqJ ar 2 /\ (0 : Int) < 16 /\ ∃ xs, H2 W = some (.lst xs) /\ onS (atI xs (ar / 2 % 16)) fun v => 1 <= sizeLine /\ ∀ l2, H2 l2 = none -> 3 <= sizeLine /\ ∀ r, (upd H2 l2 (.lst [.ref pl])) r = none -> Q (.ref r) (upd (upd H2 l2 (.lst [.ref pl])) r (.lst [.str s, v, .ref l2])) := fun s ⟨κ, hκ⟩ => by
    refine ⟨⟨by decide, by decide⟩, by decide, _, t1 _ _ eW1, Zdx (wat wl (Zdc _ (by decide)) (Zdd _ (by decide))) ⟨z1, fun l2 h2 => ⟨z3, fun r hr => ?_⟩⟩⟩
    have t2 := Zdr h2 (.lst [.ref pl])
    rcases hκ with ⟨rfl, rfl⟩ | ⟨rfl, rfl⟩
    ·exact fin (κ := .get _) (t1.trans t2) hr (.flat rfl) (nw t1 h2) (.cons (dpl (t1.trans t2)) .nil) trivial (fun _ => rm) (by show 1 <= 8; decide) (fun w e => nomatch e) (ZoN fun z hz => ZaU.mp hz)
    ·exact fin (κ := .tag _) (t1.trans t2) hr (.flat rfl) (nw t1 h2) (.cons (dpl (t1.trans t2)) .nil) trivial (fun _ => rm) (by show 1 <= 8; decide) (fun w e => nomatch e) (ZoN fun z hz => ZaU.mp hz)
   have : ar % 2 = 0 \/ ar % 2 = 1 := by omega
   rcases this with e | e
   ·exact ⟨(by show (0 : Int) < 2; decide), _, eg, by rw [e]; exact Zdx (Zdw (j := 0) rfl) (wr "get" ⟨_, .inl ⟨rfl, rfl⟩⟩)⟩
   ·exact ⟨(by show (0 : Int) < 2; decide), _, eg, by rw [e]; exact Zdx (Zdw (j := 1) rfl) (wr "tag" ⟨_, .inr ⟨rfl, rfl⟩⟩)⟩
  rw [decide_eq_false b]
  refine Zet ?_
  dsimp only [ZgW]
  refine ifc (decide (o = 14)) (fun R h => by show R (false ^^ decide (o = 14)) H1; rw [Zc4]; exact h) ?_
  by_cases b : o = 14
  ·rw [decide_eq_true b]
   refine Zfq ⟨z2, fun g hg => ?_⟩
   have t1 := Zdr hg (.lst [.str "size", .str "at"])
   have eg : (upd H1 g (.lst [.str "size", .str "at"])) g = some (.lst [.str "size", .str "at"]) := Zdp
   generalize upd H1 g (.lst [.str "size", .str "at"]) = H2 at t1 eg ⊢
   have : ar % 2 = 0 \/ ar % 2 = 1 := by omega
   obtain ⟨s, hs, hat⟩ : ∃ s : Str, s ∈ plain /\ atI [V.str "size", V.str "at"] (ar % 2) = some (.str s) := by
    rcases this with e | e
    ·exact ⟨"size", by decide +kernel, by rw [e]; exact Zdw (j := 0) rfl⟩
    ·exact ⟨"at", by decide +kernel, by rw [e]; exact Zdw (j := 1) rfl⟩
   refine ⟨(by show (0 : Int) < 2; decide), _, eg, Zdx hat ⟨(by show (0 : Int) < 2; decide), .inr ⟨by decide, by decide⟩, _, rfl, by omega, by omega, fun D hD => ?_⟩⟩
   refine ZoU (1 + ar % 2 * 2).toNat (by omega) hD (fun k H S h => Zg4 h) (fun H S => ZbV _) (fun k H v H3 y => y.1) ?_
   intro H4 S4 e4
   refine ⟨z3, fun r hr => fin (κ := .op s (1 + ar % 2 * 2).toNat) (t1.trans S4) hr (.flat rfl) (Zfi ((s1.trans t1).free hD) e4) ?_ ⟨hs, by omega⟩ (fun _ => rm) (by show (Zav (1 + ar % 2 * 2).toNat p0).length <= 8; rw [ZaC]; omega) (fun w e => nomatch e) (Zql _ _)⟩
   show Zga _ _ ((Zav (1 + ar % 2 * 2).toNat p0).map hlD)
   rw [Zby]
   exact Zhi (dpl (t1.trans S4)) _
  rw [decide_eq_false b]
  refine Zet ⟨(by show 5 <= sizeLine; decide), fun g hg => ?_⟩
  have t1 := Zdr hg (.lst [.str "call", .str "join", .str "add", .str "sub", .str "less"])
  have eg : (upd H1 g (.lst [.str "call", .str "join", .str "add", .str "sub", .str "less"])) g = some (.lst [.str "call", .str "join", .str "add", .str "sub", .str "less"]) := Zdp
  generalize upd H1 g (.lst [.str "call", .str "join", .str "add", .str "sub", .str "less"]) = H2 at t1 eg ⊢
  have r5 : 0 <= ar % 5 := Zdc _ (by decide)
  have r5' : ar % 5 < 5 := Zdd _ (by decide)
  have : ar % 5 = 0 \/ ar % 5 = 1 \/ ar % 5 = 2 \/ ar % 5 = 3 \/ ar % 5 = 4 := by omega
  obtain ⟨s, hs, hat⟩ : ∃ s : Str, s ∈ plain /\ atI [V.str "call", V.str "join", V.str "add", V.str "sub", V.str "less"] (ar % 5) = some (.str s) := by
   rcases this with e | e | e | e | e
   ·exact ⟨"call", by decide +kernel, by rw [e]; exact Zdw (j := 0) rfl⟩
   ·exact ⟨"join", by decide +kernel, by rw [e]; exact Zdw (j := 1) rfl⟩
   ·exact ⟨"add", by decide +kernel, by rw [e]; exact Zdw (j := 2) rfl⟩
   ·exact ⟨"sub", by decide +kernel, by rw [e]; exact Zdw (j := 3) rfl⟩
   ·exact ⟨"less", by decide +kernel, by rw [e]; exact Zdw (j := 4) rfl⟩
  refine ⟨(by show (0 : Int) < 5; decide), _, eg, Zdx hat ⟨z2, fun l2 h2 => ⟨z3, fun r hr => ?_⟩⟩⟩
  have t2 := Zdr h2 (.lst [.ref pl, .ref pl])
  exact fin (κ := .op s 2) (t1.trans t2) hr (.flat rfl) (nw t1 h2) (.cons (dpl (t1.trans t2)) (.cons (dpl (t1.trans t2)) .nil)) ⟨hs, by decide⟩ (fun _ => rm) (by show 2 <= 8; decide) (fun w e => nomatch e) (Zql _ _)
end
noncomputable def look (l : List (Str × Hm)) : Str -> Option Hm := l.foldl (fun g p => wid g p.1 p.2) (fun _ => none)
theorem ZfI (l : List (Str × Hm)) (p : Str × Hm) : look (l ++ [p]) = wid (look l) p.1 p.2 := by
 unfold look
 rw [List.foldl_append]
 rfl
theorem Zjh : ∀ (l : List (Str × Hm)) (g : Str -> Option Hm) (w : Str), (w ∈ l.map Prod.fst \/ ∃ h, g w = some h) -> ∃ h, (l.foldl (fun g p => wid g p.1 p.2) g) w = some h
 | [], g, w, h => by
  rcases h with h | h
  ·cases h
  ·exact h
 | p :: l, g, w, h => by
  refine Zjh l (wid g p.1 p.2) w ?_
  by_cases e : w = p.1
  ·exact .inr ⟨p.2, by unfold wid; rw [if_pos e]⟩
  ·rcases h with h | ⟨x, h⟩
   ·rcases Zag.mp (show w ∈ p.1 :: l.map Prod.fst from h) with h | h
    ·exact absurd h e
    ·exact .inl h
   ·exact .inr ⟨x, by unfold wid; rw [if_neg e]; exact h⟩
theorem Zng (l : List (Str × Hm)) (w : Str) (h : w ∈ l.map Prod.fst) : ∃ h, look l w = some h := Zjh l _ w (.inl h)
noncomputable def exL (f q : Int) (h : Hol) : List (Str × Hm) := match hoX f q h with
 | none => []
 | some p => [p]
theorem ZoV (l : List (Str × Hm)) (f q : Int) (h : Hol) : look (l ++ exL f q h) = exG (look l) (hoX f q h) := by
 unfold exL
 cases hoX f q h with
 | none => rw [Zas]; rfl
 | some p => rw [ZfI]; rfl
noncomputable def defs (names : List Str) (i : Nat) : List (Str × Hm) := (Zaa i).map fun d => (names.getD d "", (("def" : Str), (d : Int)))
theorem ZhJ (names : List Str) : ∀ i, i <= names.length -> look (defs names i) = G0 names i
 | 0, _ => rfl
 | i + 1, h => by
  unfold defs
  rw [Zbl, ZaV]
  show look (defs names i ++ [(names.getD i "", (("def" : Str), (i : Int)))]) = _
  rw [ZfI, ZhJ names i (by omega), G0, Za3, Za0 (show i < names.length by omega)]
  rfl
theorem Zkp (names more : List Str) (i : Nat) (h : i <= names.length) : defs (names ++ more) i = defs names i := by
 unfold defs
 refine Zbs fun d hd => ?_
 have := Zac.mp hd
 rw [Za3, Za3, Zay (by omega)]
structure Nd where
 κ : Kn
 kids : List Nat
 out : List (Str × Hm)
structure Td where
 held : List (Str × Hm)
 ho : Hol
 par : Int
 dep : Int
 ix : Nat
noncomputable def Nd.isF (nd : Nd) : Bool := match nd.κ with
 | .fn _ => true
 | _ => false
noncomputable def Zig (κ : Kn) (out : List (Str × Hm)) (n : Nat) (dep : Int) : List Td := κ.ho.zipIdx.map fun p => ⟨out, p.1, (n : Int), dep, p.2⟩
theorem ZgR (κ : Kn) (out : List (Str × Hm)) (n : Nat) (dep : Int) : (Zig κ out n dep).length = κ.ho.length := by unfold Zig; rw [Zar, List.length_zipIdx]
theorem Zmm (κ : Kn) (out : List (Str × Hm)) (n : Nat) (dep : Int) : (Zig κ out n dep).map (·.ix) = Zbz 0 κ.ho.length := by
 unfold Zig
 rw [Zbr]
 show κ.ho.zipIdx.map Prod.snd = _
 exact List.zipIdx_map_snd ..
theorem ZeJ {κ : Kn} {out : List (Str × Hm)} {n : Nat} {dep : Int} {t : Td} (h : t ∈ Zig κ out n dep) : t.par = (n : Int) /\ t.held = out /\ κ.ho[t.ix]? = some t.ho := by
 obtain ⟨p, hp, rfl⟩ := ZaS.mp h
 obtain ⟨a, b⟩ := p
 have := List.mem_zipIdx_iff_getElem?.mp hp
 exact ⟨rfl, rfl, this⟩
noncomputable def onP (p : Nat) (t : Td) : Bool := decide (t.par = (p : Int))
structure MI0 (names : List Str) (roots : List Nat) (L : List Nd) (T : List Td) : Prop where
 nl : names.length <= 12
 rl : roots.length = names.length
 sz : L.length + T.length <= 150
 ok : ∀ nd ∈ L, nd.κ.okk
 seg : ∀ (p : Nat) (nd : Nd), L[p]? = some nd -> (T.filter (onP p)).map (·.ix) = Zbz nd.kids.length (nd.κ.ho.length - nd.kids.length) /\ nd.kids.length <= nd.κ.ho.length
 tds : ∀ t ∈ T, ∃ (p : Nat) (nd : Nd), t.par = (p : Int) /\ L[p]? = some nd /\ nd.κ.ho[t.ix]? = some t.ho /\ t.held = nd.out
 fst : ∀ (p : Nat) (nd : Nd), L[p]? = some nd -> (nd.kids ≠ [] -> nd.kids[0]? = some (p + 1)) /\ (nd.kids = [] -> nd.κ.ho ≠ [] -> p + 1 = L.length /\ ∃ t T', T = t :: T' /\ t.par = (p : Int))
 kid : ∀ (p : Nat) (nd : Nd) (j c : Nat), L[p]? = some nd -> nd.kids[j]? = some c -> p < c /\ ∃ (h : Hol) (ndc : Nd), nd.κ.ho[j]? = some h /\ L[c]? = some ndc /\ ndc.out = nd.out ++ exL ((p + 1 : Nat) : Int) (c : Int) h
 reach : ∀ k, k < L.length -> (∃ i : Nat, roots[i]? = some k) \/ ∃ (p : Nat) (nd : Nd), p < k /\ L[p]? = some nd /\ k ∈ nd.kids
 root : ∀ (i r : Nat), roots[i]? = some r -> ∃ nd : Nd, L[r]? = some nd /\ nd.out = defs names i ++ (if nd.isF = true then [(names.getD i "", (("def" : Str), (i : Int)))] else [])
 nm : ∀ (k : Nat) (nd : Nd) (w : Str), L[k]? = some nd -> nd.κ = .name w -> w ∈ nd.out.map Prod.fst
theorem MI0.nil : MI0 [] [] [] [] where
 nl := by decide
 rl := rfl
 sz := by decide
 ok := fun nd h => by cases h
 seg := fun p nd h => by cases h
 tds := fun t h => by cases h
 fst := fun p nd h => by cases h
 kid := fun p nd j c h => by cases h
 reach := fun k h => absurd h (Zb1 _)
 root := fun i r h => by cases h
 nm := fun k nd w h => by cases h
theorem Zmn {κ : Kn} {out : List (Str × Hm)} {n : Nat} {dep : Int} (p : Nat) : (Zig κ out n dep).filter (onP p) = if p = n then Zig κ out n dep else [] := by
 by_cases h : p = n
 ·rw [if_pos h]
  refine List.filter_eq_self.mpr fun t ht => ?_
  exact decide_eq_true (by rw [(ZeJ ht).1, h])
 ·rw [if_neg h]
  refine ZbA.mpr fun t ht => ?_
  have : ¬ t.par = (p : Int) := by rw [(ZeJ ht).1]; omega
  simp [onP, this]
theorem MI0.rootStep {names : List Str} {roots : List Nat} {L : List Nd} {κ : Kn} {x : Str} {dep : Int} (m : MI0 names roots L []) (hx : names.length < 12) (hL : L.length <= 140) (ok : κ.okk) (h8 : κ.ho.length <= 8) (hn : ∀ w, κ = .name w -> w ∈ (defs names names.length).map Prod.fst) {out : List (Str × Hm)}
  (ho : out = defs names names.length ++ (if (Nd.mk κ [] []).isF = true then [(x, (("def" : Str), (names.length : Int)))] else [])) : MI0 (names ++ [x]) (roots ++ [L.length]) (L ++ [⟨κ, [], out⟩]) (Zig κ out L.length dep) where
 nl := by rw [ZaB, ZaQ]; omega
 rl := by rw [ZaB, ZaB, m.rl]; rfl
 sz := by rw [ZaB, ZaQ, ZgR]; omega
 ok := fun nd h => by
  rcases Zah.mp h with h | h
  ·exact m.ok nd h
  ·rw [ZaU] at h; subst h; exact ok
 seg := fun p nd h => by
  rw [Zmn]
  by_cases hp : p < L.length
  ·rw [Zay hp] at h
   rw [if_neg (by omega)]
   exact m.seg p nd h
  ·have e : p = L.length := by
    have := (Zaj.mp h).1
    rw [ZaB, ZaQ] at this
    omega
   subst e
   rw [Zax (ZbV _), Zb3] at h
   cases h
   rw [if_pos rfl, Zmm]
   exact ⟨rfl, ZbW _⟩
 tds := fun t ht => by
  obtain ⟨h1, h2, h3⟩ := ZeJ ht
  exact ⟨L.length, _, h1, by rw [Zax (ZbV _), Zb3]; rfl, h3, h2⟩
 fst := fun p nd h => by
  by_cases hp : p < L.length
  ·rw [Zay hp] at h
   refine ⟨(m.fst p nd h).1, fun h1 h2 => ?_⟩
   obtain ⟨_, t, T', e, _⟩ := (m.fst p nd h).2 h1 h2
   cases e
  ·have e : p = L.length := by
    have := (Zaj.mp h).1
    rw [ZaB, ZaQ] at this
    omega
   subst e
   rw [Zax (ZbV _), Zb3] at h
   cases h
   refine ⟨fun z => absurd rfl z, fun _ h2 => ⟨by rw [ZaB]; rfl, ?_⟩⟩
   have hl := ZgR κ out L.length dep
   cases hT : Zig κ out L.length dep with
   | nil => rw [hT] at hl; exact absurd (Zbg hl.symm) h2
   | cons t T' => exact ⟨t, T', rfl, (ZeJ (by rw [hT]; exact Zae)).1⟩
 kid := fun p nd j c h hj => by
  by_cases hp : p < L.length
  ·rw [Zay hp] at h
   obtain ⟨h1, h', ndc, h2, h3, h4⟩ := m.kid p nd j c h hj
   exact ⟨h1, h', ndc, h2, by rw [Zay (Zaj.mp h3).1]; exact h3, h4⟩
  ·have e : p = L.length := by
    have := (Zaj.mp h).1
    rw [ZaB, ZaQ] at this
    omega
   subst e
   rw [Zax (ZbV _), Zb3] at h
   cases h
   cases hj
 reach := fun k hk => by
  rw [ZaB, ZaQ] at hk
  by_cases e : k < L.length
  ·rcases m.reach k e with ⟨i, hi⟩ | ⟨p, nd, h1, h2, h3⟩
   ·exact .inl ⟨i, by rw [Zay (Zaj.mp hi).1]; exact hi⟩
   ·exact .inr ⟨p, nd, h1, by rw [Zay (by omega)]; exact h2, h3⟩
  ·have e : k = L.length := by omega
   subst e
   exact .inl ⟨roots.length, by rw [Zax (ZbV _), Zb3]; rfl⟩
 root := fun i r h => by
  by_cases hi : i < roots.length
  ·rw [Zay hi] at h
   obtain ⟨nd, h1, h2⟩ := m.root i r h
   have rl := m.rl
   refine ⟨nd, by rw [Zay (Zaj.mp h1).1]; exact h1, ?_⟩
   rw [h2, Zkp _ _ _ (by omega), Za3, Za3, Zay (by omega)]
  ·have e : i = roots.length := by
    have := (Zaj.mp h).1
    rw [ZaB, ZaQ] at this
    omega
   subst e
   rw [Zax (ZbV _), Zb3] at h
   cases h
   refine ⟨_, by rw [Zax (ZbV _), Zb3]; rfl, ?_⟩
   show out = _
   rw [ho, m.rl, Zkp _ _ _ (ZbV _), Za3, Zax (ZbV _), Zb3]
   rfl
 nm := fun k nd w h e => by
  by_cases hp : k < L.length
  ·rw [Zay hp] at h
   exact m.nm k nd w h e
  ·have e' : k = L.length := by
    have := (Zaj.mp h).1
    rw [ZaB, ZaQ] at this
    omega
   subst e'
   rw [Zax (ZbV _), Zb3] at h
   cases h
   have e : κ = .name w := e
   show w ∈ out.map Prod.fst
   rw [ho, ZaV]
   exact Zai _ (hn w e)
noncomputable def Zhc (L : List Nd) (p n : Nat) : List Nd := L.modify p fun nd => ⟨nd.κ, nd.kids ++ [n], nd.out⟩
theorem Zec (L : List Nd) (p n : Nat) : (Zhc L p n).length = L.length := List.length_modify ..
theorem Zgc {L : List Nd} {p n k : Nat} {nd : Nd} (h : (Zhc L p n)[k]? = some nd) : ∃ nd0, L[k]? = some nd0 /\ nd = if k = p then ⟨nd0.κ, nd0.kids ++ [n], nd0.out⟩ else nd0 := by
 unfold Zhc at h
 rw [ZbB] at h
 obtain ⟨nd0, h1, h2⟩ := Zb8.mp h
 refine ⟨nd0, h1, ?_⟩
 rw [<- h2]
 by_cases e : k = p
 ·rw [if_pos e, if_pos e.symm]
 ·rw [if_neg e, if_neg (fun z => e z.symm)]
theorem Zf6 {L : List Nd} {p n k : Nat} {nd0 : Nd} (h : L[k]? = some nd0) : (Zhc L p n)[k]? = some (if k = p then ⟨nd0.κ, nd0.kids ++ [n], nd0.out⟩ else nd0) := by
 unfold Zhc
 rw [ZbB, h]
 show some (if p = k then _ else _) = _
 by_cases e : k = p
 ·rw [if_pos e, if_pos e.symm]
 ·rw [if_neg e, if_neg (fun z => e z.symm)]
theorem ZgS {L : List Nd} {p n k : Nat} {nd0 : Nd} (h : L[k]? = some nd0) : ∃ nd, (Zhc L p n)[k]? = some nd /\ nd.out = nd0.out /\ nd.κ = nd0.κ /\ (∀ j ∈ nd0.kids, j ∈ nd.kids) := by
 refine ⟨_, Zf6 h, ?_⟩
 split
 ·exact ⟨rfl, rfl, fun j hj => Zai _ hj⟩
 ·exact ⟨rfl, rfl, fun j hj => hj⟩
theorem MI0.kidStep {names : List Str} {roots : List Nat} {L : List Nd} {T : List Td} {t : Td} {κ : Kn} {dep : Int} {p : Nat} {nd : Nd} (m : MI0 names roots L (t :: T)) (tp : t.par = (p : Int)) (hp : L[p]? = some nd) (ok : κ.okk) (h8 : κ.ho.length <= 8) (hr : κ.ho ≠ [] -> L.length + T.length <= 141) {out : List (Str × Hm)}
  (ho : out = t.held ++ exL ((p + 1 : Nat) : Int) (L.length : Int) t.ho) (hn : ∀ w, κ = .name w -> w ∈ out.map Prod.fst) : MI0 names roots (Zhc L p L.length ++ [⟨κ, [], out⟩]) (Zig κ out L.length dep ++ T) := by
 have plt := (Zaj.mp hp).1
 obtain ⟨p', nd', tp', hp', htix, hth⟩ := m.tds t Zae
 have e : p' = p := by omega
 subst e
 rw [hp] at hp'
 cases hp'
 have hseg := m.seg p' nd hp
 rw [Zbo (show onP p' t = true from decide_eq_true tp), Zaq] at hseg
 have hix : t.ix = nd.kids.length /\ nd.kids.length < nd.κ.ho.length /\ (T.filter (onP p')).map (·.ix) = Zbz (nd.kids.length + 1) (nd.κ.ho.length - (nd.kids.length + 1)) := by
  have h1 := hseg.1
  cases hd : nd.κ.ho.length - nd.kids.length with
  | zero => rw [hd] at h1; cases h1
  | succ z =>
   rw [hd, List.range'_succ] at h1
   injection h1 with h2 h3
   refine ⟨h2, by omega, ?_⟩
   rw [h3]
   congr 1
   omega
 obtain ⟨ix1, ix2, ix3⟩ := hix
 have last : ∀ {q : Nat} {x : Nd}, (Zhc L p' L.length ++ [(⟨κ, [], out⟩ : Nd)])[q]? = some x -> (q < L.length /\ (Zhc L p' L.length)[q]? = some x) \/ (q = L.length /\ x = ⟨κ, [], out⟩) := fun {q x} h => by
  by_cases hq : q < L.length
  ·rw [Zay (by rw [Zec]; exact hq)] at h
   exact .inl ⟨hq, h⟩
  ·have := (Zaj.mp h).1
   rw [ZaB, ZaQ, Zec] at this
   have e : q = L.length := by omega
   rw [e, Zax (by rw [Zec]; exact ZbV _), Zec, Zb3] at h
   exact .inr ⟨e, (Zb4.inj h).symm⟩
 have here : (Zhc L p' L.length ++ [(⟨κ, [], out⟩ : Nd)])[L.length]? = some ⟨κ, [], out⟩ := by rw [Zax (by rw [Zec]; exact ZbV _), Zec, Zb3]; rfl
 have left : ∀ {q : Nat} {x : Nd}, (Zhc L p' L.length)[q]? = some x -> (Zhc L p' L.length ++ [(⟨κ, [], out⟩ : Nd)])[q]? = some x := fun {q x} h => by rw [Zay (Zaj.mp h).1]; exact h
 have tl : ∀ u ∈ T, ∃ (q : Nat) (x : Nd), u.par = (q : Int) /\ q < L.length /\ L[q]? = some x /\ x.κ.ho[u.ix]? = some u.ho /\ u.held = x.out := fun u hu => by
  obtain ⟨q, x, h1, h2, h3, h4⟩ := m.tds u (Zaf _ hu)
  exact ⟨q, x, h1, (Zaj.mp h2).1, h2, h3, h4⟩
 have msz := m.sz
 rw [Zao] at msz
 refine { nl := m.nl, rl := m.rl, sz := ?_, ok := ?_, seg := ?_, tds := ?_, fst := ?_, kid := ?_, reach := ?_, root := ?_, nm := ?_ }
 ·rw [ZaB, ZaB, Zec, ZgR, ZaQ]
  by_cases z : κ.ho = []
  ·rw [z]; show L.length + 1 + (0 + T.length) <= 150; omega
  ·have := hr z; omega
 ·intro x hx
  rcases Zah.mp hx with hx | hx
  ·obtain ⟨q, hq⟩ := Zbt.mp hx
   obtain ⟨x0, h1, h2⟩ := Zgc hq
   have := m.ok x0 (ZaA h1)
   rw [h2]
   split
   ·exact this
   ·exact this
  ·rw [ZaU] at hx; subst hx; exact ok
 ·intro q x hx
  rw [Zbp, Zmn, ZaV]
  rcases last hx with ⟨hq, hx⟩ | ⟨hq, rfl⟩
  ·rw [if_neg (by omega), ZaH, ZaR]
   obtain ⟨x0, h1, h2⟩ := Zgc hx
   by_cases e : q = p'
   ·rw [if_pos e] at h2
    subst e
    rw [hp] at h1
    cases h1
    rw [h2]
    show _ = Zbz (nd.kids ++ [L.length]).length (nd.κ.ho.length - (nd.kids ++ [L.length]).length) /\ (nd.kids ++ [L.length]).length <= nd.κ.ho.length
    rw [ZaB, ZaQ]
    exact ⟨ix3, ix2⟩
   ·rw [if_neg e] at h2
    subst h2
    have := m.seg q x h1
    rw [ZbC (show ¬ onP q t = true from by simp [onP, tp]; omega)] at this
    exact this
  ·subst hq
   rw [if_pos rfl, Zmm]
   have : T.filter (onP L.length) = [] := ZbA.mpr fun u hu => by
    obtain ⟨q, x, h1, h2, _⟩ := tl u hu
    have : ¬ u.par = (L.length : Int) := by omega
    simp [onP, this]
   rw [this, ZaH, Zas]
   exact ⟨rfl, ZbW _⟩
 ·intro u hu
  rcases Zah.mp hu with hu | hu
  ·obtain ⟨h1, h2, h3⟩ := ZeJ hu
   exact ⟨L.length, _, h1, here, h3, h2⟩
  ·obtain ⟨q, x, h1, h2, h3, h4, h5⟩ := tl u hu
   obtain ⟨x', g1, g2, g3, _⟩ := ZgS (p := p') (n := L.length) h3
   exact ⟨q, x', h1, left g1, by rw [g3]; exact h4, by rw [g2]; exact h5⟩
 ·intro q x hx
  rcases last hx with ⟨hq, hx⟩ | ⟨hq, rfl⟩
  ·obtain ⟨x0, h1, h2⟩ := Zgc hx
   have f0 := m.fst q x0 h1
   by_cases e : q = p'
   ·rw [if_pos e] at h2
    subst e
    rw [hp] at h1
    cases h1
    rw [h2]
    refine ⟨fun _ => ?_, fun z => absurd z (by simp)⟩
    show (nd.kids ++ [L.length])[0]? = some (q + 1)
    cases hk : nd.kids with
    | nil =>
     have hne : nd.κ.ho ≠ [] := fun z => by rw [z] at ix2; exact absurd ix2 (Zb1 _)
     rw [(f0.2 hk hne).1]
     rfl
    | cons a r =>
     have := f0.1 (by rw [hk]; exact List.cons_ne_nil _ _)
     rw [hk] at this
     exact this
   ·rw [if_neg e] at h2
    subst h2
    refine ⟨f0.1, fun g1 g2 => ?_⟩
    obtain ⟨g3, t', T', g4, g5⟩ := f0.2 g1 g2
    injection g4 with g6 g7
    rw [<- g6, tp] at g5
    omega
  ·subst hq
   refine ⟨fun z => absurd rfl z, fun _ h2 => ⟨by rw [ZaB, Zec]; rfl, ?_⟩⟩
   have hl := ZgR κ out L.length dep
   cases hT : Zig κ out L.length dep with
   | nil => rw [hT] at hl; exact absurd (Zbg hl.symm) h2
   | cons t T' => exact ⟨t, T' ++ T, rfl, (ZeJ (by rw [hT]; exact Zae)).1⟩
 ·intro q x j c hx hj
  rcases last hx with ⟨hq, hx⟩ | ⟨hq, rfl⟩
  ·obtain ⟨x0, h1, h2⟩ := Zgc hx
   have old : x0.kids[j]? = some c -> q < c /\ ∃ (h : Hol) (ndc : Nd), x0.κ.ho[j]? = some h /\ (Zhc L p' L.length ++ [(⟨κ, [], out⟩ : Nd)])[c]? = some ndc /\ ndc.out = x0.out ++ exL ((q + 1 : Nat) : Int) (c : Int) h := fun z => by
    obtain ⟨g1, h, ndc, g2, g3, g4⟩ := m.kid q x0 j c h1 z
    obtain ⟨x', g5, g6, _, _⟩ := ZgS (p := p') (n := L.length) g3
    exact ⟨g1, h, x', g2, left g5, by rw [g6]; exact g4⟩
   by_cases e : q = p'
   ·rw [if_pos e] at h2
    subst e
    rw [hp] at h1
    cases h1
    subst h2
    have hj : (nd.kids ++ [L.length])[j]? = some c := hj
    show q < c /\ ∃ (h : Hol) (ndc : Nd), nd.κ.ho[j]? = some h /\ _ /\ ndc.out = nd.out ++ exL ((q + 1 : Nat) : Int) (c : Int) h
    by_cases hjl : j < nd.kids.length
    ·rw [Zay hjl] at hj
     exact old hj
    ·have := (Zaj.mp hj).1
     rw [ZaB, ZaQ] at this
     have ej : j = nd.kids.length := by omega
     subst ej
     rw [Zax (ZbV _), Zb3] at hj
     cases hj
     exact ⟨plt, t.ho, _, by rw [<- ix1]; exact htix, here, by show out = _; rw [ho, hth]⟩
   ·rw [if_neg e] at h2
    subst h2
    exact old hj
  ·cases hj
 ·intro k hk
  rw [ZaB, ZaQ, Zec] at hk
  by_cases e : k < L.length
  ·rcases m.reach k e with h | ⟨q, x, h1, h2, h3⟩
   ·exact .inl h
   ·obtain ⟨x', g5, _, _, g6⟩ := ZgS (p := p') (n := L.length) h2
    exact .inr ⟨q, x', h1, left g5, g6 _ h3⟩
  ·have e : k = L.length := by omega
   subst e
   refine .inr ⟨p', _, plt, left (Zf6 hp), ?_⟩
   rw [if_pos rfl]
   exact Zan _ (ZaU.mpr rfl)
 ·intro i r hr
  obtain ⟨x, h1, h2⟩ := m.root i r hr
  obtain ⟨x', g5, g6, g7, _⟩ := ZgS (p := p') (n := L.length) h1
  refine ⟨x', left g5, ?_⟩
  rw [g6, h2]
  unfold Nd.isF
  rw [g7]
 ·intro k x w hx e
  rcases last hx with ⟨hq, hx⟩ | ⟨hq, rfl⟩
  ·obtain ⟨x0, h1, h2⟩ := Zgc hx
   have : x0.κ = .name w := by
    rw [h2] at e
    by_cases z : k = p'
    ·rw [if_pos z] at e; exact e
    ·rw [if_neg z] at e; exact e
   have h3 := m.nm k x0 w h1 this
   rw [h2]
   split
   ·exact h3
   ·exact h3
  ·exact hn w e
noncomputable def Nd.ro (nd : Nd) : Ro := mkR nd.κ (nd.kids.map fun k : Nat => (k : Int))
noncomputable def Zk3 (L : List Nd) (k : Nat) : Str -> Option Hm := match L[k]? with
 | some nd => look nd.out
 | none => fun _ => none
theorem Zg1 {L : List Nd} {k : Nat} {nd : Nd} (h : L[k]? = some nd) : Zk3 L k = look nd.out := by unfold Zk3; rw [h]
theorem MI0.full {names : List Str} {roots : List Nat} {L : List Nd} (m : MI0 names roots L []) {k : Nat} {nd : Nd} (h : L[k]? = some nd) : nd.kids.length = nd.κ.ho.length := by
 obtain ⟨h1, h2⟩ := m.seg k nd h
 have h3 : ([] : List Nat) = Zbz nd.kids.length (nd.κ.ho.length - nd.kids.length) := h1
 have := congrArg List.length h3
 rw [List.length_range', ZaG] at this
 omega
theorem MI0.good {names : List Str} {roots : List Nat} {L : List Nd} (m : MI0 names roots L []) (nn : names.Nodup) : Zqh names roots (L.map Nd.ro) (Zk3 L) where
 nn := nn
 nl := m.nl
 rl := m.rl
 ok := fun ρ h => by
  obtain ⟨nd, h1, rfl⟩ := ZaS.mp h
  obtain ⟨k, hk⟩ := Zbt.mp h1
  exact ZnP (m.ok nd h1).1 (by rw [Zar]; exact m.full hk)
 pn := by rw [Zar]; have := m.sz; omega
 rlt := fun i r h => by
  obtain ⟨nd, h1, _⟩ := m.root i r h
  rw [Zar]
  exact (Zaj.mp h1).1
 root := fun i r ρ h hρ => by
  obtain ⟨nd, h1, h2⟩ := m.root i r h
  rw [Zaz, h1] at hρ
  cases hρ
  have hi := (Zaj.mp h).1
  have rl := m.rl
  rw [Zg1 h1, h2]
  have e : nd.ro.isF = nd.isF := by unfold Nd.ro; rw [ZoP]; rfl
  rw [e]
  cases nd.isF with
  | true =>
   rw [if_pos rfl, if_pos rfl, ZfI, ZhJ names i (by omega), G0, Za3, Za0 (show i < names.length by omega)]
   rfl
  | false => rw [if_neg ZcY, if_neg ZcY, Zas, ZhJ names i (by omega)]
 kid := fun k ρ j c e hρ hj he => by
  rw [Zaz] at hρ
  obtain ⟨nd, h1, rfl⟩ := Zb8.mp hρ
  have fl := m.full h1
  have fl' : (nd.kids.map fun k : Nat => (k : Int)).length = nd.κ.ho.length := by rw [Zar]; exact fl
  have hj' := hj
  unfold Nd.ro at hj' he
  rw [Zko fl'] at hj'
  obtain ⟨h, g1, g2⟩ := Zqo fl' j c e hj' he
  rw [Zaz] at hj'
  obtain ⟨cn, g3, rfl⟩ := Zb8.mp hj'
  obtain ⟨g4, h', ndc, g5, g6, g7⟩ := m.kid k nd j cn h1 g3
  rw [g1] at g5
  cases g5
  refine ⟨cn, rfl, g4, ?_⟩
  rw [Zg1 g6, Zg1 h1, g7, ZoV, g2]
  have hne : nd.kids ≠ [] := fun z => by rw [z] at g3; cases g3
  have f0 := (m.fst k nd h1).1 hne
  have : (nd.kids.map fun k : Nat => (k : Int)).getD 0 0 = ((k + 1 : Nat) : Int) := by
   rw [Za3, Zaz, f0]
   rfl
  rw [this]
 reach := fun k hk => by
  rw [Zar] at hk
  rcases m.reach k hk with h | ⟨p, nd, h1, h2, h3⟩
  ·exact .inl h
  ·refine .inr ⟨p, nd.ro, h1, by rw [Zaz, h2]; rfl, ?_⟩
   unfold Nd.ro
   rw [Zko (by rw [Zar]; exact m.full h2)]
   exact ZaS.mpr ⟨k, h3, rfl⟩
noncomputable def ZeS (L : List Nd) (p : Nat) : Option Nat := match L[p]? with
 | some nd => nd.kids.getLast?
 | none => none
theorem ZfP {L : List Nd} {p : Nat} {nd : Nd} (h : L[p]? = some nd) : ZeS L p = nd.kids.getLast? := by unfold ZeS; rw [h]
theorem ZiA {L : List Nd} {p c : Nat} (h : ZeS L p = some c) : p < L.length := by
 unfold ZeS at h
 split at h
 ·rename_i nd e
  exact (Zaj.mp e).1
 ·cases h
inductive LK (L : List Nd) (a : Nat) : Nat -> Prop
 | refl : LK L a a
 | step {b c : Nat} : LK L a b -> ZeS L b = some c -> LK L a c
def Up (L : List Nd) : Prop := ∀ p c, ZeS L p = some c -> p < c /\ c < L.length
theorem LK.le {L : List Nd} (u : Up L) {a b : Nat} (h : LK L a b) : a <= b := by
 induction h with
 | refl => exact ZbV _
 | step _ e ih => have := (u _ _ e).1; omega
theorem LK.trans {L : List Nd} {a b c : Nat} (h : LK L a b) (g : LK L b c) : LK L a c := by
 induction g with
 | refl => exact h
 | step _ e ih => exact .step ih e
theorem LK.head {L : List Nd} {a b : Nat} (h : LK L a b) : a = b \/ ∃ c, ZeS L a = some c /\ LK L c b := by
 induction h with
 | refl => exact .inl rfl
 | step h e ih =>
  rcases ih with rfl | ⟨c, h1, h2⟩
  ·exact .inr ⟨_, e, .refl⟩
  ·exact .inr ⟨c, h1, .step h2 e⟩
theorem LK.lin {L : List Nd} {p x y : Nat} (h : LK L p x) (g : LK L p y) : LK L x y \/ LK L y x := by
 induction h with
 | refl => exact .inl g
 | step h e ih =>
  rcases ih with ih | ih
  ·rcases ih.head with rfl | ⟨c, h1, h2⟩
   ·exact .inr (.step .refl e)
   ·rw [e] at h1
    cases h1
    exact .inl h2
  ·exact .inr (.step ih e)
theorem LK.stay {L L' : List Nd} (u : Up L) {p : Nat} (hs : ∀ b, b ≠ p -> b < L.length -> ZeS L' b = ZeS L b) {a b : Nat} (h : LK L a b) (n : ¬ (LK L a p /\ LK L p b /\ p ≠ b)) : LK L' a b := by
 induction h with
 | refl => exact .refl
 | @step b c h e ih =>
  have bc := (u _ _ e).1
  have hb : b ≠ p := fun z => n ⟨z ▸ h, z ▸ .step .refl e, by omega⟩
  refine .step (ih fun ⟨h1, h2, h3⟩ => n ⟨h1, .step h2 e, fun z => ?_⟩) (by rw [hs b hb (ZiA e)]; exact e)
  have := h2.le u
  omega
theorem LK.mono {L L' : List Nd} (hs : ∀ b, b < L.length -> ZeS L' b = ZeS L b) {a b : Nat} (h : LK L a b) : LK L' a b := by
 induction h with
 | refl => exact .refl
 | step h e ih => exact .step ih (by rw [hs _ (ZiA e)]; exact e)
def Zph (L : List Nd) (k : Nat) : Prop := ∃ nd : Nd, L[k]? = some nd /\ nd.κ.ho = []
def To (L : List Nd) (c e : Nat) : Prop := ∃ b : Nat, e = b + 1 /\ LK L c b /\ Zph L b
structure MI (names : List Str) (roots : List Nat) (L : List Nd) (T : List Td) : Prop extends MI0 names roots L T where
 ch : T.Pairwise fun t u => ∀ p q : Nat, t.par = (p : Int) -> u.par = (q : Int) -> LK L q p
 lt : ∀ t ∈ T, ∀ p : Nat, t.par = (p : Int) -> ∃ b : Nat, L.length = b + 1 /\ LK L p b
 rt : ∀ r, roots.getLast? = some r -> (∃ b : Nat, L.length = b + 1 /\ LK L r b) /\ ∀ t ∈ T, ∀ p : Nat, t.par = (p : Int) -> LK L r p
 i1 : ∀ (p : Nat) (nd : Nd) (j c c' : Nat), L[p]? = some nd -> nd.kids[j]? = some c -> nd.kids[j + 1]? = some c' -> To L c c'
 i2 : ∀ (i r r' : Nat), roots[i]? = some r -> roots[i + 1]? = some r' -> To L r r'
 i3 : ∀ r, roots[0]? = some r -> r = 0
theorem MI0.up {names : List Str} {roots : List Nat} {L : List Nd} {T : List Td} (m : MI0 names roots L T) : Up L := fun p c h => by
 have hp := ZiA h
 rw [ZfP (Za0 hp)] at h
 rw [ZbD] at h
 obtain ⟨h1, _, ndc, _, h2, _⟩ := m.kid p _ _ c (Za0 hp) h
 exact ⟨h1, (Zaj.mp h2).1⟩
theorem MI.nil : MI [] [] [] [] where
 toMI0 := MI0.nil
 ch := .nil
 lt := fun t h => by cases h
 rt := fun r h => by cases h
 i1 := fun p nd j c c' h => by cases h
 i2 := fun i r r' h => by cases h
 i3 := fun r h => by cases h
theorem MI0.nokid {names : List Str} {roots : List Nat} {L : List Nd} {T : List Td} (m : MI0 names roots L T) {b : Nat} {x : Nd} (hb : L.length = b + 1) (hx : L[b]? = some x) : x.kids = [] := by
 cases hk : x.kids with
 | nil => rfl
 | cons c cs =>
  obtain ⟨h1, _, ndc, _, h2, _⟩ := m.kid b x 0 c hx (by rw [hk]; rfl)
  have := (Zaj.mp h2).1
  omega
theorem ZhK {names : List Str} {roots : List Nat} {L : List Nd} {T : List Td} (m : MI0 names roots L T) {b : Nat} (h : Zph L b) : ZeS L b = none := by
 obtain ⟨nd, h1, h2⟩ := h
 have := (m.seg b nd h1).2
 rw [h2] at this
 rw [ZfP h1, Zbg (Nat.le_zero.mp this)]
 rfl
theorem Zmo {κ : Kn} {out : List (Str × Hm)} {n : Nat} {dep : Int} {L : List Nd} : (Zig κ out n dep).Pairwise fun t u => ∀ p q : Nat, t.par = (p : Int) -> u.par = (q : Int) -> LK L q p :=
 List.Pairwise.imp_of_mem (R := fun _ _ => True) (fun {t u} ht hu _ p q hp hq => by
  have h1 := (ZeJ ht).1
  have h2 := (ZeJ hu).1
  have : p = q := by omega
  rw [this]
  exact .refl) (List.pairwise_of_forall fun _ _ => trivial)
theorem MI.rootStep {names : List Str} {roots : List Nat} {L : List Nd} {κ : Kn} {x : Str} {dep : Int} (m : MI names roots L []) (hx : names.length < 12) (hL : L.length <= 140) (ok : κ.okk) (h8 : κ.ho.length <= 8) (hn : ∀ w, κ = .name w -> w ∈ (defs names names.length).map Prod.fst) {out : List (Str × Hm)}
  (ho : out = defs names names.length ++ (if (Nd.mk κ [] []).isF = true then [(x, (("def" : Str), (names.length : Int)))] else [])) : MI (names ++ [x]) (roots ++ [L.length]) (L ++ [⟨κ, [], out⟩]) (Zig κ out L.length dep) := by
 have hs : ∀ b, b < L.length -> ZeS (L ++ [(⟨κ, [], out⟩ : Nd)]) b = ZeS L b := fun b hb => by unfold ZeS; rw [Zay hb]
 have lf : ∀ {b}, Zph L b -> Zph (L ++ [(⟨κ, [], out⟩ : Nd)]) b := fun {b} ⟨nd, h1, h2⟩ => ⟨nd, by rw [Zay (Zaj.mp h1).1]; exact h1, h2⟩
 have tt : ∀ {c e}, To L c e -> To (L ++ [(⟨κ, [], out⟩ : Nd)]) c e := fun {c e} ⟨b, h1, h2, h3⟩ => ⟨b, h1, h2.mono hs, lf h3⟩
 refine ⟨MI0.rootStep m.toMI0 hx hL ok h8 hn ho, Zmo, fun t ht p hp => ?_, fun r hr => ?_, fun p nd j c c' hp hc hc' => ?_, fun i r r' hr hr' => ?_, fun r hr => ?_⟩
 ·have := (ZeJ ht).1
  have e : p = L.length := by omega
  exact ⟨L.length, by rw [ZaB]; rfl, by rw [e]; exact .refl⟩
 ·rw [ZbE] at hr
  cases hr
  refine ⟨⟨L.length, by rw [ZaB]; rfl, .refl⟩, fun t ht p hp => ?_⟩
  have := (ZeJ ht).1
  have e : p = L.length := by omega
  rw [e]
  exact .refl
 ·by_cases hp' : p < L.length
  ·rw [Zay hp'] at hp
   exact tt (m.i1 p nd j c c' hp hc hc')
  ·have := (Zaj.mp hp).1
   rw [ZaB, ZaQ] at this
   have e : p = L.length := by omega
   rw [e, Zax (ZbV _), Zb3] at hp
   cases hp
   cases hc
 ·by_cases hi : i + 1 < roots.length
  ·rw [Zay (by omega)] at hr
   rw [Zay hi] at hr'
   exact tt (m.i2 i r r' hr hr')
  ·have := (Zaj.mp hr').1
   rw [ZaB, ZaQ] at this
   have e : i + 1 = roots.length := by omega
   rw [e, Zax (ZbV _), Zb3] at hr'
   cases hr'
   rw [Zay (by omega)] at hr
   obtain ⟨⟨b, hb, hk⟩, _⟩ := m.rt r (by rw [ZbD, <- e]; exact hr)
   have bl : b < L.length := by omega
   refine tt ⟨b, hb, hk, L[b], Za0 bl, ?_⟩
   cases hq : L[b].κ.ho with
   | nil => rfl
   | cons h hs =>
    obtain ⟨_, t, T', e, _⟩ := (m.fst b _ (Za0 bl)).2 (m.nokid hb (Za0 bl)) (by rw [hq]; exact fun z => nomatch z)
    cases e
 ·cases hq : roots with
  | nil =>
   rw [hq] at hr
   cases hr
   cases hL' : L with
   | nil => rfl
   | cons y ys =>
    rcases m.reach 0 (by rw [hL']; exact Nat.succ_pos _) with ⟨i, hi⟩ | ⟨p, nd, h, _⟩
    ·rw [hq] at hi; cases hi
    ·exact absurd h (Zb1 _)
  | cons r0 rs =>
   rw [hq] at hr
   exact m.i3 r (by rw [hq]; exact hr)
theorem MI.kidStep {names : List Str} {roots : List Nat} {L : List Nd} {T : List Td} {t : Td} {κ : Kn} {dep : Int} {p : Nat} {nd : Nd} (m : MI names roots L (t :: T)) (tp : t.par = (p : Int)) (hp : L[p]? = some nd) (ok : κ.okk) (h8 : κ.ho.length <= 8) (hr : κ.ho ≠ [] -> L.length + T.length <= 141) {out : List (Str × Hm)}
  (ho : out = t.held ++ exL ((p + 1 : Nat) : Int) (L.length : Int) t.ho) (hn : ∀ w, κ = .name w -> w ∈ out.map Prod.fst) : MI names roots (Zhc L p L.length ++ [⟨κ, [], out⟩]) (Zig κ out L.length dep ++ T) := by
 have u := m.up
 have plt := (Zaj.mp hp).1
 obtain ⟨b0, hb0, kb0⟩ := m.lt t Zae p tp
 have ch := List.pairwise_cons.mp m.ch
 have len : (Zhc L p L.length ++ [(⟨κ, [], out⟩ : Nd)]).length = L.length + 1 := by rw [ZaB, Zec]; rfl
 have hs : ∀ b, b ≠ p -> b < L.length -> ZeS (Zhc L p L.length ++ [(⟨κ, [], out⟩ : Nd)]) b = ZeS L b := fun b hb hl => by
  unfold ZeS
  rw [Zay (by rw [Zec]; exact hl), Zf6 (Za0 hl), if_neg hb, Za0 hl]
 have hpn : ZeS (Zhc L p L.length ++ [(⟨κ, [], out⟩ : Nd)]) p = some L.length := by
  unfold ZeS
  rw [Zay (by rw [Zec]; exact plt), Zf6 hp, if_pos rfl]
  show (nd.kids ++ [L.length]).getLast? = _
  rw [ZbE]
  rfl
 have lf : ∀ {b}, Zph L b -> Zph (Zhc L p L.length ++ [(⟨κ, [], out⟩ : Nd)]) b := fun {b} ⟨x, h1, h2⟩ => by
  have hl := (Zaj.mp h1).1
  obtain ⟨x', g1, _, g3, _⟩ := ZgS (p := p) (n := L.length) h1
  exact ⟨x', by rw [Zay (by rw [Zec]; exact hl)]; exact g1, by rw [g3]; exact h2⟩
 have tt : ∀ {c e}, To L c e -> e < L.length -> To (Zhc L p L.length ++ [(⟨κ, [], out⟩ : Nd)]) c e := fun {c e} ⟨b, h1, h2, h3⟩ he => by
  refine ⟨b, h1, h2.stay u hs fun ⟨_, g2, g3⟩ => ?_, lf h3⟩
  rcases g2.lin kb0 with z | z
  ·rcases z.head with z | ⟨c', z, _⟩
   ·omega
   ·rw [ZhK m.toMI0 h3] at z; cases z
  ·have := z.le u
   omega
 have toP : ∀ {q}, LK L q p -> LK (Zhc L p L.length ++ [(⟨κ, [], out⟩ : Nd)]) q L.length := fun {q} h => .step (h.stay u hs fun z => z.2.2 rfl) hpn
 refine ⟨MI0.kidStep m.toMI0 tp hp ok h8 hr ho hn, ?_, fun s hs' q hq => ?_, fun r hr' => ?_, fun q x j c c' hq hc hc' => ?_, fun i r r' hr1 hr2 => ?_, m.i3⟩
 ·refine ZbF.mpr ⟨Zmo, ?_, fun a ha s hs' p' q hp' hq => ?_⟩
  ·refine List.Pairwise.imp_of_mem (fun {a s} ha hs' h p' q hp' hq => ?_) ch.2
   refine (h p' q hp' hq).stay u hs fun ⟨_, g2, g3⟩ => g3 ?_
   have h1 := (ch.1 a ha p p' tp hp').le u
   have h2 := g2.le u
   omega
  ·have := (ZeJ ha).1
   have e : p' = L.length := by omega
   rw [e]
   exact toP (ch.1 s hs' p q tp hq)
 ·refine ⟨L.length, len, ?_⟩
  rcases Zah.mp hs' with h | h
  ·have := (ZeJ h).1
   have e : q = L.length := by omega
   rw [e]
   exact .refl
  ·exact toP (ch.1 s h p q tp hq)
 ·obtain ⟨_, h2⟩ := m.rt r hr'
  have rp := h2 t Zae p tp
  refine ⟨⟨L.length, len, toP rp⟩, fun s hs' q hq => ?_⟩
  rcases Zah.mp hs' with h | h
  ·have := (ZeJ h).1
   have e : q = L.length := by omega
   rw [e]
   exact toP rp
  ·refine (h2 s (Zaf _ h) q hq).stay u hs fun ⟨_, g2, g3⟩ => g3 ?_
   have h1 := (ch.1 s h p q tp hq).le u
   have h2 := g2.le u
   omega
 ·by_cases hql : q < L.length
  ·rw [Zay (by rw [Zec]; exact hql)] at hq
   obtain ⟨x0, h1, h2⟩ := Zgc hq
   by_cases e : q = p
   ·rw [if_pos e] at h2
    subst e
    rw [hp] at h1
    cases h1
    rw [h2] at hc hc'
    have hc : (nd.kids ++ [L.length])[j]? = some c := hc
    have hc' : (nd.kids ++ [L.length])[j + 1]? = some c' := hc'
    by_cases hj : j + 1 < nd.kids.length
    ·rw [Zay (by omega)] at hc
     rw [Zay hj] at hc'
     obtain ⟨_, _, ndc, _, g, _⟩ := m.kid q nd (j + 1) c' hp hc'
     exact tt (m.i1 q nd j c c' hp hc hc') (Zaj.mp g).1
    ·have := (Zaj.mp hc').1
     rw [ZaB, ZaQ] at this
     have ej : j + 1 = nd.kids.length := by omega
     rw [ej, Zax (ZbV _), Zb3] at hc'
     cases hc'
     rw [Zay (by omega)] at hc
     have lc : ZeS L q = some c := by
      rw [ZfP hp, ZbD, <- ej]
      exact hc
     have qc := u _ _ lc
     have bl : b0 < L.length := by omega
     rcases kb0.head with z | ⟨c0, z1, z2⟩
     ·omega
     ·rw [lc] at z1
      cases z1
      refine ⟨b0, hb0, z2.stay u hs fun ⟨g1, _, _⟩ => ?_, lf ⟨L[b0], Za0 bl, ?_⟩⟩
      ·have := g1.le u
       omega
      ·cases hh : L[b0].κ.ho with
       | nil => rfl
       | cons h hs =>
        obtain ⟨_, t0, T', e, e2⟩ := (m.fst b0 _ (Za0 bl)).2 (m.nokid hb0 (Za0 bl)) (by rw [hh]; exact fun z => nomatch z)
        cases e
        have : q = b0 := by omega
        omega
   ·rw [if_neg e] at h2
    subst h2
    obtain ⟨_, _, ndc, _, g, _⟩ := m.kid q x (j + 1) c' h1 hc'
    exact tt (m.i1 q x j c c' h1 hc hc') (Zaj.mp g).1
  ·have := (Zaj.mp hq).1
   rw [len] at this
   have e : q = L.length := by omega
   rw [e, Zax (by rw [Zec]; exact ZbV _), Zec, Zb3] at hq
   cases hq
   cases hc
 ·obtain ⟨ndr, g, _⟩ := m.root (i + 1) r' hr2
  exact tt (m.i2 i r r' hr1 hr2) (Zaj.mp g).1
theorem Zkq : ∀ {as : List Addr} (_ : as.Nodup) {i j : Nat} {a : Addr} (_ : as[i]? = some a) (_ : as[j]? = some a), i = j
 | x :: as, nd, 0, 0, a, _, _ => rfl
 | x :: as, nd, 0, j + 1, a, h1, h2 => by
  cases h1
  exact absurd (ZaA (show as[j]? = some x from h2)) (Zat.mp nd).1
 | x :: as, nd, i + 1, 0, a, h1, h2 => by
  cases h2
  exact absurd (ZaA (show as[i]? = some x from h1)) (Zat.mp nd).1
 | x :: as, nd, i + 1, j + 1, a, h1, h2 => by
  have := Zkq (Zat.mp nd).2 (show as[i]? = some a from h1) (show as[j]? = some a from h2)
  omega
noncomputable def ZgA (κ : Kn) (hd : List (Str × Hm)) : Option Hm := match κ with
 | .name w => look hd w
 | _ => none
theorem Zf7 {t : TT} {A B u : TS} {D : ZfS} {σ : St} {H : Hp} (Pm : St -> Hp -> Prop) (b : Bool) (ht : ∀ R : Bool -> Hp -> Prop, R b H -> t σ H R) (hA : b = true -> ∀ N : St -> Hp -> Prop, (∀ σ' H', Pm σ' H' -> N σ' H') -> A { D with nx := N } σ H)
  (hB : b = false -> ∀ N : St -> Hp -> Prop, (∀ σ' H', Pm σ' H' -> N σ' H') -> B { D with nx := N } σ H) (k : ∀ σ' H', Pm σ' H' -> u D σ' H') : Zjs (ZiL t A B) u D σ H := by
 refine ht _ ?_
 cases b with
 | true => exact Zfq (hA rfl _ k)
 | false => exact Zet (hB rfl _ k)
theorem Kn.ho_ok {κ : Kn} {h : Hol} (hm : h ∈ κ.ho) : h = p0 \/ ∃ w how, h = (some w, how) /\ (how = "fn" \/ how = "let" \/ how = "arm") := by
 cases κ with
 | num n => cases hm
 | name n => cases hm
 | fn w => exact .inr ⟨w, _, ZaU.mp hm, .inl rfl⟩
 | tag w => exact .inl (ZaU.mp hm)
 | get w => exact .inl (ZaU.mp hm)
 | lt w =>
  rcases Zag.mp (show h ∈ [p0, (some w, "let")] from hm) with e | e
  ·exact .inl e
  ·exact .inr ⟨w, _, ZaU.mp e, .inr (.inl rfl)⟩
 | rcd l => obtain ⟨_, _, rfl⟩ := ZaS.mp hm; exact .inl rfl
 | case l =>
  rcases Zag.mp (show h ∈ (p0 :: l.map fun p => ((some p.2, "arm") : Hol)) from hm) with e | e
  ·exact .inl e
  ·obtain ⟨p, _, rfl⟩ := ZaS.mp e
   exact .inr ⟨p.2, _, rfl, .inr (.inr rfl)⟩
 | row m => exact .inl (Zbu.mp hm).2
 | op s m => exact .inl (Zbu.mp hm).2
noncomputable def Td.d (t : Td) : Dt := .lst [.lst (t.held.map prD), .flat (hoV t.ho.1), sD t.ho.2, kD t.par, kD t.dep]
noncomputable def Zfn (H : Hp) (M : List Addr) : Hp := fun a => if a ∈ M then none else H a
theorem ZeF {H : Hp} {M : List Addr} {a : Addr} {u : HO} (h : a ∉ M) (e : H a = some u) : Zfn H M a = some u := by unfold Zfn; rw [if_neg h]; exact e
theorem Zea {H : Hp} {M : List Addr} {a : Addr} {u : HO} (e : Zfn H M a = some u) : a ∉ M /\ H a = some u := by
 unfold Zfn at e
 by_cases h : a ∈ M
 ·rw [if_pos h] at e; cases e
 ·rw [if_neg h] at e; exact ⟨h, e⟩
theorem Zeh {H : Hp} {M : List Addr} : ZdH (Zfn H M) H := fun b u e => (Zea e).2
theorem Ze8 {H H' : Hp} {M : List Addr} (s : ZdH H H') : ZdH (Zfn H M) (Zfn H' M) := fun b u e => ZeF (Zea e).1 (s _ _ (Zea e).2)
theorem Zd5 {H : Hp} {M : List Addr} {l : Addr} {o : HO} (h : l ∈ M) : ZdH (Zfn H M) (Zfn (upd H l o) M) := fun b u e => by
 obtain ⟨h1, h2⟩ := Zea e
 have : b ≠ l := fun z => h1 (z ▸ h)
 exact ZeF h1 (by rw [Zdt this]; exact h2)
theorem Znh {H H' : Hp} {M : List Addr} (h : ∀ a ∈ M, ∃ o, H a = some o) : ZdH (Zgb H H') (Zfn H' M) := fun b u e => by
 obtain ⟨h1, h2⟩ := Zfu e
 exact ZeF (fun z => by obtain ⟨o, ho⟩ := h b z; rw [h1] at ho; cases ho) h2
structure Ad where
 n : Addr
 r : Addr
 k : Addr
 d : Addr
 u : Addr
 t : Addr
noncomputable def Ad.l (a : Ad) : List Addr := [a.n, a.r, a.k, a.d, a.u, a.t]
structure PH (H0 H : Hp) (a : Ad) (KA : List Addr) (kv tv uv : List V) (names : List Str) (roots : List Nat) (κs : List Kn) (kds : List (List Nat)) (dus : List (Option Hm)) (T : List Td) : Prop where
 S : ZdH H0 H
 nd : (a.l ++ KA).Nodup
 fr : ∀ x ∈ a.l ++ KA, H0 x = none
 n : H a.n = some (.lst (names.map V.str))
 r : H a.r = some (.lst (roots.map nI))
 k : H a.k = some (.lst kv)
 kd : Zga (Zfn H (a.l ++ KA)) kv (κs.map Kn.d)
 d : H a.d = some (.lst (KA.map V.ref))
 dl : KA.length = kds.length
 dk : ∀ (i : Nat) (x : Addr) (ks : List Nat), KA[i]? = some x -> kds[i]? = some ks -> H x = some (.lst (ks.map nI))
 u : H a.u = some (.lst uv)
 ud : Ims H uv (dus.map hoD)
 t : H a.t = some (.lst tv.reverse)
 td : Zga (Zfn H (a.l ++ KA)) tv (T.map Td.d)
section
variable {H0 H : Hp} {a : Ad} {KA : List Addr} {kv tv uv : List V} {names : List Str} {roots : List Nat} {κs : List Kn} {kds : List (List Nat)} {dus : List (Option Hm)} {T : List Td}
theorem PH.all (h : PH H0 H a KA kv tv uv names roots κs kds dus T) : ∀ x ∈ a.l ++ KA, ∃ o, H x = some o := by
 intro x hx
 rcases Zah.mp hx with hx | hx
 ·unfold Ad.l at hx
  simp only [Zag, Za1, or_false] at hx
  rcases hx with rfl | rfl | rfl | rfl | rfl | rfl
  ·exact ⟨_, h.n⟩
  ·exact ⟨_, h.r⟩
  ·exact ⟨_, h.k⟩
  ·exact ⟨_, h.d⟩
  ·exact ⟨_, h.u⟩
  ·exact ⟨_, h.t⟩
 ·obtain ⟨i, hi⟩ := Zbt.mp hx
  have := (Zaj.mp hi).1
  have dl := h.dl
  exact ⟨_, h.dk i x _ hi (Za0 (by omega))⟩
theorem PH.same (h : PH H0 H a KA kv tv uv names roots κs kds dus T) {H' : Hp} (s : ZdH H H') : PH H0 H' a KA kv tv uv names roots κs kds dus T :=
 ⟨h.S.trans s, h.nd, h.fr, s _ _ h.n, s _ _ h.r, s _ _ h.k, h.kd.same (Ze8 s), s _ _ h.d, h.dl, fun i x ks h1 h2 => s _ _ (h.dk i x ks h1 h2), s _ _ h.u, h.ud.mono (ZdH.tk s), s _ _ h.t, h.td.same (Ze8 s)⟩
structure Dif (a : Ad) (KA : List Addr) : Prop where
 nr : a.n ≠ a.r
 nk : a.n ≠ a.k
 nd : a.n ≠ a.d
 nu : a.n ≠ a.u
 nt : a.n ≠ a.t
 rk : a.r ≠ a.k
 rd : a.r ≠ a.d
 ru : a.r ≠ a.u
 rt : a.r ≠ a.t
 kd : a.k ≠ a.d
 ku : a.k ≠ a.u
 kt : a.k ≠ a.t
 du : a.d ≠ a.u
 dt : a.d ≠ a.t
 ut : a.u ≠ a.t
 ka : ∀ x ∈ KA, x ≠ a.n /\ x ≠ a.r /\ x ≠ a.k /\ x ≠ a.d /\ x ≠ a.u /\ x ≠ a.t
 kn : KA.Nodup
theorem PH.dif (h : PH H0 H a KA kv tv uv names roots κs kds dus T) : Dif a KA := by
 have nd := h.nd
 rw [List.nodup_append] at nd
 obtain ⟨n1, n2, n3⟩ := nd
 unfold Ad.l at n1 n3
 simp only [Zat, Zag, Za1, or_false, not_or, Zbq, and_true, not_false_eq_true] at n1
 obtain ⟨⟨a1, a2, a3, a4, a5⟩, ⟨b1, b2, b3, b4⟩, ⟨c1, c2, c3⟩, ⟨d1, d2⟩, e1⟩ := n1
 refine ⟨a1, a2, a3, a4, a5, b1, b2, b3, b4, c1, c2, c3, d1, d2, e1, fun x hx => ?_, n2⟩
 exact ⟨fun z => n3 a.n (by simp) x hx z.symm, fun z => n3 a.r (by simp) x hx z.symm, fun z => n3 a.k (by simp) x hx z.symm, fun z => n3 a.d (by simp) x hx z.symm, fun z => n3 a.u (by simp) x hx z.symm, fun z => n3 a.t (by simp) x hx z.symm⟩
theorem PH.memN : a.n ∈ a.l ++ KA := by simp [Ad.l]
theorem PH.memR : a.r ∈ a.l ++ KA := by simp [Ad.l]
theorem PH.memK : a.k ∈ a.l ++ KA := by simp [Ad.l]
theorem PH.memD : a.d ∈ a.l ++ KA := by simp [Ad.l]
theorem PH.memU : a.u ∈ a.l ++ KA := by simp [Ad.l]
theorem PH.memT : a.t ∈ a.l ++ KA := by simp [Ad.l]
theorem PH.nameP (h : PH H0 H a KA kv tv uv names roots κs kds dus T) (x : Str) : PH H0 (upd H a.n (.lst (names.map V.str ++ [.str x]))) a KA kv tv uv (names ++ [x]) roots κs kds dus T := by
 have q := h.dif
 refine ⟨ZdP h.S (h.fr _ PH.memN) _, h.nd, h.fr, by rw [Zdp, ZaV]; rfl, ?_, ?_, h.kd.same (Zd5 PH.memN), ?_, h.dl, fun i x ks h1 h2 => ?_, ?_, h.ud.mono (ZfD h.n (fun zs z => nomatch z)), ?_, h.td.same (Zd5 PH.memN)⟩
 ·rw [Zdt q.nr.symm]; exact h.r
 ·rw [Zdt q.nk.symm]; exact h.k
 ·rw [Zdt q.nd.symm]; exact h.d
 ·rw [Zdt (q.ka x (ZaA h1)).1]; exact h.dk i x ks h1 h2
 ·rw [Zdt q.nu.symm]; exact h.u
 ·rw [Zdt q.nt.symm]; exact h.t
theorem PH.rootP (h : PH H0 H a KA kv tv uv names roots κs kds dus T) (x : Nat) : PH H0 (upd H a.r (.lst (roots.map nI ++ [.int (x : Int)]))) a KA kv tv uv names (roots ++ [x]) κs kds dus T := by
 have q := h.dif
 refine ⟨ZdP h.S (h.fr _ PH.memR) _, h.nd, h.fr, ?_, by rw [Zdp, ZaV]; rfl, ?_, h.kd.same (Zd5 PH.memR), ?_, h.dl, fun i x ks h1 h2 => ?_, ?_, h.ud.mono (ZfD h.r (fun zs z => nomatch z)), ?_, h.td.same (Zd5 PH.memR)⟩
 ·rw [Zdt q.nr]; exact h.n
 ·rw [Zdt q.rk.symm]; exact h.k
 ·rw [Zdt q.rd.symm]; exact h.d
 ·rw [Zdt (q.ka x (ZaA h1)).2.1]; exact h.dk i x ks h1 h2
 ·rw [Zdt q.ru.symm]; exact h.u
 ·rw [Zdt q.rt.symm]; exact h.t
theorem PH.kindP (h : PH H0 H a KA kv tv uv names roots κs kds dus T) {v : V} {κ : Kn} (dv : Dta (Zfn H (a.l ++ KA)) v κ.d) : PH H0 (upd H a.k (.lst (kv ++ [v]))) a KA (kv ++ [v]) tv uv names roots (κs ++ [κ]) kds dus T := by
 have q := h.dif
 refine ⟨ZdP h.S (h.fr _ PH.memK) _, h.nd, h.fr, ?_, ?_, Zdp, ?_, ?_, h.dl, fun i x ks h1 h2 => ?_, ?_, h.ud.mono (ZfD h.k (fun zs z => nomatch z)), ?_, h.td.same (Zd5 PH.memK)⟩
 ·rw [Zdt q.nk]; exact h.n
 ·rw [Zdt q.rk]; exact h.r
 ·rw [ZaV]
  exact Ziz (h.kd.same (Zd5 PH.memK)) (.cons (dv.same (Zd5 PH.memK)) .nil)
 ·rw [Zdt q.kd.symm]; exact h.d
 ·rw [Zdt (q.ka x (ZaA h1)).2.2.1]; exact h.dk i x ks h1 h2
 ·rw [Zdt q.ku.symm]; exact h.u
 ·rw [Zdt q.kt.symm]; exact h.t
theorem PH.dueP (h : PH H0 H a KA kv tv uv names roots κs kds dus T) {v : V} {o : Option Hm} (dv : Im H v (hoD o)) : PH H0 (upd H a.u (.lst (uv ++ [v]))) a KA kv tv (uv ++ [v]) names roots κs kds (dus ++ [o]) T := by
 have q := h.dif
 have tk : TK H (upd H a.u (.lst (uv ++ [v]))) := ZfD h.u (fun zs z => nomatch z)
 refine ⟨ZdP h.S (h.fr _ PH.memU) _, h.nd, h.fr, ?_, ?_, ?_, h.kd.same (Zd5 PH.memU), ?_, h.dl, fun i x ks h1 h2 => ?_, Zdp, ?_, ?_, h.td.same (Zd5 PH.memU)⟩
 ·rw [Zdt q.nu]; exact h.n
 ·rw [Zdt q.ru]; exact h.r
 ·rw [Zdt q.ku]; exact h.k
 ·rw [Zdt q.du]; exact h.d
 ·rw [Zdt (q.ka x (ZaA h1)).2.2.2.2.1]; exact h.dk i x ks h1 h2
 ·rw [ZaV]
  exact (h.ud.mono tk).app (.cons (dv.mono tk) .nil)
 ·rw [Zdt q.ut.symm]; exact h.t
theorem PH.todo (h : PH H0 H a KA kv tv uv names roots κs kds dus T) {tv' : List V} {T' : List Td} (dv : Zga (Zfn H (a.l ++ KA)) tv' (T'.map Td.d)) : PH H0 (upd H a.t (.lst tv'.reverse)) a KA kv tv' uv names roots κs kds dus T' := by
 have q := h.dif
 refine ⟨ZdP h.S (h.fr _ PH.memT) _, h.nd, h.fr, ?_, ?_, ?_, h.kd.same (Zd5 PH.memT), ?_, h.dl, fun i x ks h1 h2 => ?_, ?_, h.ud.mono (ZfD h.t (fun zs z => nomatch z)), Zdp, dv.same (Zd5 PH.memT)⟩
 ·rw [Zdt q.nt]; exact h.n
 ·rw [Zdt q.rt]; exact h.r
 ·rw [Zdt q.kt]; exact h.k
 ·rw [Zdt q.dt]; exact h.d
 ·rw [Zdt (q.ka x (ZaA h1)).2.2.2.2.2]; exact h.dk i x ks h1 h2
 ·rw [Zdt q.ut]; exact h.u
theorem PH.todoP (h : PH H0 H a KA kv tv uv names roots κs kds dus T) {v : V} {t : Td} (dv : Dta (Zfn H (a.l ++ KA)) v t.d) : PH H0 (upd H a.t (.lst (tv.reverse ++ [v]))) a KA kv (v :: tv) uv names roots κs kds dus (t :: T) := by
 have := h.todo (tv' := v :: tv) (T' := t :: T) (.cons dv h.td)
 rw [ZaM] at this
 exact this
theorem PH.kidP (h : PH H0 H a KA kv tv uv names roots κs kds dus T) {p : Nat} {x : Addr} {ks : List Nat} (n : Nat) (hx : KA[p]? = some x) (hk : kds[p]? = some ks) : PH H0 (upd H x (.lst (ks.map nI ++ [.int (n : Int)]))) a KA kv tv uv names roots κs (kds.set p (ks ++ [n])) dus T := by
 have q := h.dif
 have xm : x ∈ KA := ZaA hx
 have mx : x ∈ a.l ++ KA := Zan _ xm
 obtain ⟨q1, q2, q3, q4, q5, q6⟩ := q.ka x xm
 have ex := h.dk p x ks hx hk
 refine ⟨ZdP h.S (h.fr _ mx) _, h.nd, h.fr, ?_, ?_, ?_, h.kd.same (Zd5 mx), ?_, by rw [ZaK]; exact h.dl, fun i y ks' h1 h2 => ?_, ?_, h.ud.mono (ZfD ex (fun zs z => nomatch z)), ?_, h.td.same (Zd5 mx)⟩
 ·rw [Zdt q1.symm]; exact h.n
 ·rw [Zdt q2.symm]; exact h.r
 ·rw [Zdt q3.symm]; exact h.k
 ·rw [Zdt q4.symm]; exact h.d
 ·by_cases e : i = p
  ·subst e
   rw [hx] at h1
   cases h1
   rw [Zak (Zaj.mp hk).1] at h2
   cases h2
   rw [Zdp, ZaV]
   rfl
  ·rw [Zal (fun z => e z.symm)] at h2
   have : y ≠ x := fun z => e (by
    rw [z] at h1
    exact Zkq q.kn h1 hx)
   rw [Zdt this]
   exact h.dk i y ks' h1 h2
 ·rw [Zdt q5.symm]; exact h.u
 ·rw [Zdt q6.symm]; exact h.t
theorem PH.kidsP (h : PH H0 H a KA kv tv uv names roots κs kds dus T) {x : Addr} (hx : H x = none) : PH H0 (upd (upd H x (.lst [])) a.d (.lst (KA.map V.ref ++ [.ref x]))) a (KA ++ [x]) kv tv uv names roots κs (kds ++ [[]]) dus T := by
 have q := h.dif
 have al := h.all
 have xm : x ∉ a.l ++ KA := fun z => by obtain ⟨o, ho⟩ := al x z; rw [hx] at ho; cases ho
 have s1 := Zdr hx (.lst [])
 have h1 := h.same s1
 have ms : ZdH (Zfn H (a.l ++ KA)) (Zfn (upd (upd H x (.lst [])) a.d (.lst (KA.map V.ref ++ [.ref x]))) (a.l ++ (KA ++ [x]))) := fun b u e => by
  obtain ⟨e1, e2⟩ := Zea e
  have bd : b ≠ a.d := fun z => e1 (z ▸ PH.memD)
  refine ZeF (fun z => ?_) (by rw [Zdt bd]; exact s1 _ _ e2)
  rw [<- ZaP] at z
  rcases Zah.mp z with z | z
  ·exact e1 z
  ·rw [ZaU] at z
   rw [z, hx] at e2
   cases e2
 have nx : ∀ y ∈ a.l ++ KA, y ≠ x := fun y hy z => xm (z ▸ hy)
 refine ⟨ZdP h1.S (h.fr _ PH.memD) _, ?_, ?_, ?_, ?_, ?_, h.kd.same ms, by rw [Zdp, ZaV]; rfl, by rw [ZaB, ZaB, h.dl]; rfl, fun i y ks g1 g2 => ?_, ?_, h1.ud.mono (ZfD h1.d (fun zs z => nomatch z)), ?_, h.td.same ms⟩
 ·rw [<- ZaP]
  exact ZjH h.nd xm
 ·intro y hy
  rw [<- ZaP] at hy
  rcases Zah.mp hy with hy | hy
  ·exact h.fr y hy
  ·rw [ZaU] at hy
   rw [hy]
   exact h.S.free hx
 ·rw [Zdt q.nd]; exact h1.n
 ·rw [Zdt q.rd]; exact h1.r
 ·rw [Zdt q.kd]; exact h1.k
 ·have dl := h.dl
  by_cases hi : i < KA.length
  ·rw [Zay hi] at g1
   rw [Zay (by omega)] at g2
   rw [Zdt (q.ka y (ZaA g1)).2.2.2.1]
   exact h1.dk i y ks g1 g2
  ·have := (Zaj.mp g1).1
   rw [ZaB, ZaQ] at this
   have e : i = KA.length := by omega
   subst e
   rw [Zax (ZbV _), Zb3] at g1
   rw [dl, Zax (ZbV _), Zb3] at g2
   cases g1
   cases g2
   rw [Zdt (nx _ PH.memD).symm]
   exact Zdp
 ·rw [Zdt q.du.symm]; exact h1.u
 ·rw [Zdt q.dt.symm]; exact h1.t
end
section
variable {P : Program} {w : World} {K : PySem.W.Frag} {mg : Str -> Option Value} {base : Heap}
def Zji : Sp := fun vs H Q _ => ∃ (hl st : Addr) (hd : List (Str × Hm)) (hv : List V) (κ : Kn), vs = [.ref hl, .ref st] /\ κ.ok /\ H hl = some (.lst hv) /\ Ims H hv (hd.map prD) /\ Dta H (.ref st) κ.d /\ ∀ v, Im H v (hoD (ZgA κ hd)) -> Q v H
theorem Zjj (T : Txt K mg) : ZfA P w K mg base CX0 1 T.a_home T.fd_home ["_law_held", "_law_stands_here"] Zji := by
 refine T.F_home.ok Zfm (fun vs H Q E h => ?_) (fun cdv A outer s H vs Q E hr h => ?_)
 ·obtain ⟨hl, st, hd, hv, κ, rfl, _⟩ := h
  rfl
 obtain ⟨hl, st, hd, hv, κ, rfl, kok, el, him, dst, q⟩ := h
 refine ⟨_, (Zdo (ZdE (i := 2) Zfm.nd rfl (.inl rfl) Zgh)
  (Zdo (Zfa PassesOwn.never rfl (Zfo (cv 0)) (Zg3 rfl (ZdY (ZdQ (i := 3) Zfm.nd rfl (.inl rfl)) (ZdY (ZdQ (i := 4) Zfm.nd rfl (.inl rfl)) ZfF)))
   (Zdu (Zd0 (PW.pt (Zhk (ZdA ZeH (ZdG ZdD (cv 1) Zds (fun _ _ => rfl)) ZdJ (ZdK _)) (ZgV (ZdA ZeH (cv 3) (ZdG ZdD (cv 1) Zds (fun _ _ => rfl)) (ZdK _)))))
    (Zdu (ZdE (i := 2) Zfm.nd rfl (.inl rfl) (cv 4)))
    ZdI)))
  (Zdu (ZdL (cv 2))))), ?_⟩
 have lh := him.length
 rw [Zar] at lh
 cases dst with
 | @lst _ sx _ es hs =>
  cases hs with
  | @cons _ _ sx _ s1 hs =>
   cases s1
   cases hs with
   | @cons mv _ sx _ s2 hs =>
    refine ⟨hl, rfl, ⟨_, SqL.of el⟩, ZfK (xs := hv) (fun i σ H2 => ∃ (v : V) (o3 o4 : Option V), σ = [some (.ref hl), some (.ref st), some v, o3, o4] /\ H2 = H /\ Im H v (hoD (ZgA κ (hd.take i))))
     ⟨.non, none, none, rfl, rfl, by cases κ <;> exact .flat rfl⟩ (fun i σ H2 _ ⟨_, _, _, _, e, _⟩ => by rw [e]; exact SqL.of el) ?_ ?_⟩
    ·rintro i v σ H2 hv' ⟨hm, o3, o4, rfl, rfl, hh⟩
     obtain ⟨d, hdd, hi⟩ := Zfk him hv'
     rw [Zaz] at hdd
     obtain ⟨p, hp, rfl⟩ := Zb8.mp hdd
     have tk : hd.take (i + 1) = hd.take i ++ [p] := by rw [Zbd, hp]; rfl
     cases hi with
     | @tup tp _ _ ep hps =>
      cases hps with
      | cons p1 hps =>
       cases hps with
       | @cons pv _ _ _ p2 hps =>
        cases p1; cases hps
        refine ⟨tp, _, rfl, SqT.of ep, rfl, _, _, rfl, _, _, rfl, rfl, ?_⟩
        refine ⟨_, es, Zdx (Zdw (j := 0) rfl) ?_⟩
        dsimp only [tC, cEq, onB]
        rw [Zc4]
        by_cases hk : ∃ w, κ = .name w
        ·obtain ⟨w, rfl⟩ := hk
         cases s2
         rw [show decide ((Kn.name w).s = "name") = true from (show decide (("name" : Str) = "name") = true from by decide +kernel)]
         refine Zfq ⟨_, es, Zdx (Zdw (j := 1) rfl) ?_⟩
         dsimp only [tC, cEq, onB]
         rw [Zc4]
         by_cases e : p.1 = w
         ·rw [decide_eq_true e]
          refine Zfq ⟨pv, _, _, rfl, rfl, ?_⟩
          rw [tk]
          show Im _ pv (hoD (look (hd.take i ++ [p]) w))
          rw [ZfI, wid, if_pos e.symm]
          exact p2
         ·rw [decide_eq_false e]
          refine Zet ⟨hm, _, _, rfl, rfl, ?_⟩
          rw [tk]
          show Im _ hm (hoD (look (hd.take i ++ [p]) w))
          rw [ZfI, wid, if_neg (fun z => e z.symm)]
          exact hh
        ·have e1 : decide (κ.s = "name") = false := by
          cases κ with
          | name w => exact absurd ⟨w, rfl⟩ hk
          | op s m => exact ZoQ kok.1 (by decide +kernel)
          | num a => exact (show decide (("num" : Str) = "name") = false from by decide +kernel)
          | fn a => exact (show decide (("fn" : Str) = "name") = false from by decide +kernel)
          | tag a => exact (show decide (("tag" : Str) = "name") = false from by decide +kernel)
          | lt a => exact (show decide (("let" : Str) = "name") = false from by decide +kernel)
          | get a => exact (show decide (("get" : Str) = "name") = false from by decide +kernel)
          | rcd a => exact (show decide (("rec" : Str) = "name") = false from by decide +kernel)
          | case a => exact (show decide (("case" : Str) = "name") = false from by decide +kernel)
          | row a => exact (show decide (("row" : Str) = "name") = false from by decide +kernel)
         have e2 : ∀ l, ZgA κ l = none := fun l => by
          cases κ with
          | name w => exact absurd ⟨w, rfl⟩ hk
          | _ => rfl
         rw [e1]
         refine Zet (Zet ⟨hm, _, _, rfl, rfl, ?_⟩)
         rw [e2] at hh ⊢
         exact hh
    ·rintro σ H2 ⟨hm, o3, o4, rfl, rfl, hh⟩
     rw [Za8 (by omega)] at hh
     exact q hm hh
end
noncomputable def enF (L : List Nd) : Nat -> Nat -> Nat
 | 0, p => p + 1
 | f + 1, p => match ZeS L p with
  | none => p + 1
  | some c => enF L f c
noncomputable def en (L : List Nd) (p : Nat) : Nat := enF L L.length p
theorem ZnT {L : List Nd} (u : Up L) {b : Nat} (hb : ZeS L b = none) : ∀ (f p : Nat), LK L p b -> b - p <= f -> enF L f p = b + 1
 | 0, p, h, hf => by
  have := h.le u
  have e : p = b := by omega
  rw [e]
  rfl
 | f + 1, p, h, hf => by
  unfold enF
  rcases h.head with rfl | ⟨c, h1, h2⟩
  ·rw [hb]
  ·rw [h1]
   have := (u _ _ h1).1
   exact ZnT u hb f c h2 (by omega)
theorem Zj2 {L : List Nd} (u : Up L) {p b : Nat} (h : LK L p b) (hb : ZeS L b = none) (hl : b < L.length) : en L p = b + 1 := ZnT u hb _ p h (by omega)
theorem ZoW {L : List Nd} (u : Up L) : ∀ (m p : Nat), L.length - p <= m -> p < L.length -> ∃ b, LK L p b /\ ZeS L b = none /\ b < L.length
 | 0, p, h, hp => by omega
 | m + 1, p, h, hp => by
  cases hk : ZeS L p with
  | none => exact ⟨p, .refl, hk, hp⟩
  | some c =>
   have := u _ _ hk
   obtain ⟨b, h1, h2, h3⟩ := ZoW u m c (by omega) this.2
   exact ⟨b, (LK.step .refl hk).trans h1, h2, h3⟩
theorem Zh2 {L : List Nd} (u : Up L) {p : Nat} (hp : p < L.length) : p < en L p /\ en L p <= L.length := by
 obtain ⟨b, h1, h2, h3⟩ := ZoW u _ p (ZbV _) hp
 rw [Zj2 u h1 h2 h3]
 have := h1.le u
 omega
theorem Zj3 {L : List Nd} (u : Up L) {p : Nat} (hp : p < L.length) (h : ZeS L p = none) : en L p = p + 1 := Zj2 u .refl h hp
theorem Zmp {L : List Nd} (u : Up L) {p c : Nat} (h : ZeS L p = some c) : en L p = en L c := by
 obtain ⟨b, h1, h2, h3⟩ := ZoW u _ c (ZbV _) (u _ _ h).2
 rw [Zj2 u h1 h2 h3, Zj2 u ((LK.step .refl h).trans h1) h2 h3]
noncomputable def Chn (E : Nat -> Nat) : List Nat -> Nat -> Nat -> Prop
 | [], a, e => a = e
 | c :: cs, a, e => c = a /\ Chn E cs (E c) e
theorem Zmq (E : Nat -> Nat) (e : Nat) : ∀ (cs : List Nat) (a : Nat), (∀ (j c c' : Nat), cs[j]? = some c -> cs[j + 1]? = some c' -> c' = E c) -> (∀ c, cs.getLast? = some c -> E c = e) -> (cs = [] -> a = e) -> (∀ c, cs[0]? = some c -> c = a) -> Chn E cs a e
 | [], a, _, _, h3, _ => h3 rfl
 | c :: cs, a, h1, h2, _, h4 => by
  refine ⟨h4 c rfl, Zmq E e cs (E c) (fun j x y hx hy => h1 (j + 1) x y hx hy) (fun x hx => h2 x ?_) (fun z => h2 c (by rw [z]; rfl)) (fun x hx => h1 0 c x rfl hx)⟩
  cases cs with
  | nil => cases hx
  | cons y ys => rw [List.getLast?_cons_cons]; exact hx
theorem Chn.sum {E : Nat -> Nat} (S : Nat -> Int) : ∀ {cs : List Nat} {a e : Nat}, Chn E cs a e -> (cs.map fun c => S (E c) - S c).foldr (· + ·) 0 = S e - S a
 | [], a, e, h => by
  cases h
  show (0 : Int) = _
  omega
 | c :: cs, a, e, ⟨h1, h2⟩ => by
  have := Chn.sum S h2
  show S (E c) - S c + (cs.map fun c => S (E c) - S c).foldr (· + ·) 0 = _
  rw [this, h1]
  omega
theorem Chn.le {E : Nat -> Nat} : ∀ {cs : List Nat} {a e : Nat}, Chn E cs a e -> (∀ c ∈ cs, c < E c) -> a <= e /\ ∀ c ∈ cs, a <= c /\ E c <= e
 | [], a, e, h, _ => ⟨by cases h; exact ZbV _, fun c z => by cases z⟩
 | c :: cs, a, e, ⟨h1, h2⟩, hl => by
  obtain ⟨g1, g2⟩ := Chn.le h2 fun x hx => hl x (Zaf _ hx)
  have := hl c Zae
  refine ⟨by omega, fun x hx => ?_⟩
  rcases Zag.mp hx with rfl | hx
  ·omega
  ·have := g2 x hx
   omega
theorem Chn.pw {E : Nat -> Nat} : ∀ {cs : List Nat} {a e : Nat}, Chn E cs a e -> (∀ c ∈ cs, c < E c) -> cs.Pairwise fun c d => E c <= d
 | [], a, e, h, _ => .nil
 | c :: cs, a, e, ⟨h1, h2⟩, hl => by
  have hl' := fun x hx => hl x (Zaf _ hx)
  exact .cons (fun x hx => ((Chn.le h2 hl').2 x hx).1) (Chn.pw h2 hl')
theorem Chn.cov {E : Nat -> Nat} : ∀ {cs : List Nat} {a e x : Nat}, Chn E cs a e -> (∀ c ∈ cs, c < E c) -> a <= x -> x < e -> ∃ c ∈ cs, c <= x /\ x < E c
 | [], a, e, x, h, _, h1, h2 => by
  have h : a = e := h
  omega
 | c :: cs, a, e, x, ⟨h1, h2⟩, hl, h3, h4 => by
  by_cases z : x < E c
  ·exact ⟨c, Zae, by omega, z⟩
  ·obtain ⟨d, d1, d2⟩ := Chn.cov h2 (fun x hx => hl x (Zaf _ hx)) (by omega) h4
   exact ⟨d, Zaf _ d1, d2⟩
section
variable {names : List Str} {roots : List Nat} {L : List Nd}
theorem MI.to (m : MI names roots L []) {c e : Nat} (h : To L c e) : e = en L c := by
 obtain ⟨b, h1, h2, h3⟩ := h
 have h4 := ZhK m.toMI0 h3
 obtain ⟨nd, h5, _⟩ := h3
 rw [Zj2 m.up h2 h4 (Zaj.mp h5).1]
 exact h1
theorem MI.kids (m : MI names roots L []) {p : Nat} {nd : Nd} (h : L[p]? = some nd) : Chn (en L) nd.kids (p + 1) (en L p) := by
 have hp := (Zaj.mp h).1
 have hk := ZfP h
 refine Zmq _ _ _ _ (fun j c c' h1 h2 => m.to (m.i1 p nd j c c' h h1 h2)) (fun c hc => ?_) (fun z => ?_) (fun c hc => ?_)
 ·rw [hc] at hk
  exact (Zmp m.up hk).symm
 ·rw [z] at hk
  exact (Zj3 m.up hp hk).symm
 ·have := (m.fst p nd h).1 (fun z => by rw [z] at hc; cases hc)
  rw [hc] at this
  exact Zb4.inj this
theorem MI.kidL (m : MI names roots L []) {p : Nat} {nd : Nd} (h : L[p]? = some nd) : ∀ c ∈ nd.kids, c < L.length /\ c < en L c := fun c hc => by
 obtain ⟨j, hj⟩ := Zbt.mp hc
 obtain ⟨_, _, ndc, _, g, _⟩ := m.kid p nd j c h hj
 have := (Zaj.mp g).1
 exact ⟨this, (Zh2 m.up this).1⟩
theorem MI.rootL (m : MI names roots L []) : ∀ r ∈ roots, r < L.length /\ r < en L r := fun r hr => by
 obtain ⟨j, hj⟩ := Zbt.mp hr
 obtain ⟨ndc, g, _⟩ := m.root j r hj
 have := (Zaj.mp g).1
 exact ⟨this, (Zh2 m.up this).1⟩
theorem MI.lastLeaf (m : MI names roots L []) {b : Nat} (hb : L.length = b + 1) : ZeS L b = none := by
 have bl : b < L.length := by omega
 rw [ZfP (Za0 bl), m.nokid hb (Za0 bl)]
 rfl
theorem MI.rootsC (m : MI names roots L []) : Chn (en L) roots 0 L.length := by
 refine Zmq _ _ _ _ (fun j c c' h1 h2 => m.to (m.i2 j c c' h1 h2)) (fun c hc => ?_) (fun z => ?_) (fun c hc => m.i3 c hc)
 ·obtain ⟨⟨b, h1, h2⟩, _⟩ := m.rt c hc
  rw [Zj2 m.up h2 (m.lastLeaf h1) (by omega), h1]
 ·cases hL : L with
  | nil => rfl
  | cons y ys =>
   rcases m.reach 0 (by rw [hL]; exact Nat.succ_pos _) with ⟨i, hi⟩ | ⟨p, nd, h, _⟩
   ·rw [z] at hi; cases hi
   ·exact absurd h (Zb1 _)
theorem MI.rootS (m : MI names roots L []) {i j r s : Nat} (hi : roots[i]? = some r) (hj : roots[j]? = some s) (h : i < j) : en L r <= s := by
 have := m.rootsC.pw fun c hc => (m.rootL c hc).2
 have hj' := (Zaj.mp hj).1
 have := ZbG.mp this i j (by omega) hj' h
 rw [Za0 (by omega)] at hi
 rw [Za0 hj'] at hj
 rw [Zb4.inj hi, Zb4.inj hj] at this
 exact this
theorem MI.rootM (m : MI names roots L []) {i j r s : Nat} (hi : roots[i]? = some r) (hj : roots[j]? = some s) (h : i < j) : r < s := by
 have := m.rootS hi hj h
 have := (m.rootL r (ZaA hi)).2
 omega
theorem Zmr (w : Str) (h : Hm) : ∀ l : List (Str × Hm), look l.reverse w = some h -> (w, h) ∈ l
 | [], e => by cases e
 | p :: l, e => by
  rw [ZaM, ZfI] at e
  unfold wid at e
  by_cases z : w = p.1
  ·rw [if_pos z] at e
   cases e
   rw [z]
   exact Zae
  ·rw [if_neg z] at e
   exact Zaf _ (Zmr w h l e)
theorem Zkr {w : Str} {h : Hm} {l : List (Str × Hm)} (e : look l w = some h) : (w, h) ∈ l := by
 have := Zmr w h l.reverse (by rw [List.reverse_reverse]; exact e)
 exact ZbH.mp this
def Zpi (roots : List Nat) (L : List Nd) (k : Nat) (h : Hm) : Prop := (h.1 = "let" -> ∃ q : Nat, h.2 = (q : Int) /\ q < k /\ en L q <= k) /\ (h.1 = "def" -> ∃ (d r : Nat), h.2 = (d : Int) /\ roots[d]? = some r /\ r <= k)
theorem Zpi.le {k k' : Nat} {h : Hm} (z : Zpi roots L k h) (l : k <= k') : Zpi roots L k' h :=
 ⟨fun e => let ⟨q, h1, h2, h3⟩ := z.1 e; ⟨q, h1, by omega, by omega⟩, fun e => let ⟨d, r, h1, h2, h3⟩ := z.2 e; ⟨d, r, h1, h2, by omega⟩⟩
theorem Zqp {κ : Kn} {j : Nat} {w : Str} (h : κ.ho[j]? = some (some w, ("let" : Str))) : j = 1 /\ ∃ w, κ = .lt w := by
 have hm := ZaA h
 have n1 : ¬ (("fn" : Str) = "let") := by decide +kernel
 have n2 : ¬ (("arm" : Str) = "let") := by decide +kernel
 cases κ with
 | lt a =>
  match j, h with
  | 0, h => cases h
  | 1, h => exact ⟨rfl, a, rfl⟩
  | j + 2, h => cases h
 | num a => cases hm
 | name a => cases hm
 | fn a =>
  rw [Kn.ho, ZaU] at hm
  exact absurd (congrArg Prod.snd hm).symm n1
 | tag a =>
  rw [Kn.ho, ZaU] at hm
  cases hm
 | get a =>
  rw [Kn.ho, ZaU] at hm
  cases hm
 | rcd l =>
  obtain ⟨_, _, z⟩ := ZaS.mp hm
  cases z
 | case l =>
  rcases Zag.mp hm with z | z
  ·cases z
  ·obtain ⟨_, _, z⟩ := ZaS.mp z
   exact absurd (congrArg Prod.snd z) n2
 | row n => cases (Zbu.mp hm).2
 | op s n => cases (Zbu.mp hm).2
theorem MI.outOk (m : MI names roots L []) : ∀ (n k : Nat), k < n -> ∀ nd : Nd, L[k]? = some nd -> ∀ p ∈ nd.out, Zpi roots L k p.2
 | 0, k, h => absurd h (Zb1 _)
 | n + 1, k, hk => fun nd hnd p hp => by
  have kl := (Zaj.mp hnd).1
  rcases m.reach k kl with ⟨i, hi⟩ | ⟨q, ndq, h1, h2, h3⟩
  ·obtain ⟨nd', g1, g2⟩ := m.root i k hi
   rw [hnd] at g1
   cases g1
   have il := (Zaj.mp hi).1
   have key : ∀ d : Nat, d <= i -> Zpi roots L k (("def" : Str), (d : Int)) := fun d hd => by
    refine ⟨fun z => absurd z (show ¬ (("def" : Str) = "let") from by decide +kernel), fun _ => ⟨d, roots[d]'(by omega), rfl, Za0 (by omega), ?_⟩⟩
    by_cases e : d = i
    ·subst e
     rw [Za0 il] at hi
     exact ZbX (Zb4.inj hi)
    ·exact ZbT (m.rootM (Za0 (by omega)) hi (by omega))
   rw [g2] at hp
   rcases Zah.mp hp with hp | hp
   ·unfold defs at hp
    obtain ⟨d, hd, rfl⟩ := ZaS.mp hp
    have := Zac.mp hd
    exact key d (by omega)
   ·by_cases hf : nd.isF = true
    ·rw [if_pos hf, ZaU] at hp
     rw [hp]
     exact key i (ZbV _)
    ·rw [if_neg hf] at hp
     cases hp
  ·obtain ⟨j, hj⟩ := Zbt.mp h3
   obtain ⟨h4, h, ndc, h5, h6, h7⟩ := m.kid q ndq j k h2 hj
   rw [hnd] at h6
   cases h6
   rw [h7] at hp
   rcases Zah.mp hp with hp | hp
   ·exact (m.outOk n q (by omega) ndq h2 p hp).le (by omega)
   ·unfold exL at hp
    obtain ⟨o, how⟩ := h
    cases o with
    | none => cases hp
    | some w =>
     have hp : p ∈ [((w, (how, if how = ("let" : Str) then (((q + 1 : Nat)) : Int) else (k : Int))) : Str × Hm)] := hp
     rw [ZaU] at hp
     rw [hp]
     refine ⟨fun z => ?_, fun z => ?_⟩
     ·have z : how = "let" := z
      subst z
      obtain ⟨rfl, w', hw⟩ := Zqp h5
      have hh := m.toMI0.full h2
      have h0 := (m.fst q ndq h2).1 (fun z => by rw [z] at hj; cases hj)
      have := m.to (m.i1 q ndq 0 (q + 1) k h2 h0 hj)
      have b := Zh2 m.up (show q + 1 < L.length from (m.kidL h2 _ (ZaA h0)).1)
      exact ⟨q + 1, (show (if ("let" : Str) = "let" then (((q + 1 : Nat)) : Int) else (k : Int)) = ((q + 1 : Nat) : Int) from if_pos rfl), by omega, by omega⟩
     ·have z : how = "def" := z
      have hm := ZaA h5
      rcases Kn.ho_ok hm with e | ⟨w2, how2, e, e2⟩
      ·cases e
      ·cases e
       rw [z] at e2
       exact absurd e2 (by decide +kernel)
end
noncomputable def Zjk (L : List Nd) (k : Nat) : Option Hm := match L[k]? with
 | some nd => ZgA nd.κ nd.out
 | none => none
theorem ZoX {L : List Nd} {k : Nat} {nd : Nd} (h : L[k]? = some nd) : Zjk L k = ZgA nd.κ nd.out := by unfold Zjk; rw [h]
noncomputable def ZgB (roots : List Nat) : Nat -> Nat
 | 0 => 0
 | p + 1 => if p ∈ roots then ZgB roots p + 1 else ZgB roots p
section
variable {names : List Str} {roots : List Nat} {L : List Nd}
theorem MI.cnt (m : MI names roots L []) : ∀ p d : Nat, d < ZgB roots p ↔ ∃ r, roots[d]? = some r /\ r < p
 | 0, d => ⟨fun h => absurd h (Zb1 _), fun ⟨r, _, h⟩ => absurd h (Zb1 _)⟩
 | p + 1, d => by
  have ih := m.cnt p
  unfold ZgB
  by_cases hp : p ∈ roots
  ·rw [if_pos hp]
   obtain ⟨e, he⟩ := Zbt.mp hp
   have el := (Zaj.mp he).1
   have c1 : ∀ d, d < ZgB roots p ↔ d < e := fun d => by
    rw [ih d]
    constructor
    ·rintro ⟨r, h1, h2⟩
     by_cases z : d < e
     ·exact z
     ·by_cases z2 : d = e
      ·rw [z2, he] at h1; cases h1; omega
      ·have := m.rootM he h1 (by omega)
       omega
    ·intro h
     exact ⟨roots[d]'(by omega), Za0 (by omega), m.rootM (Za0 (by omega)) he h⟩
   have c2 : ZgB roots p = e := by
    have h1 := c1 e
    have h2 := c1 (ZgB roots p)
    omega
   rw [c2]
   constructor
   ·intro h
    by_cases z : d = e
    ·exact ⟨p, by rw [z]; exact he, by omega⟩
    ·obtain ⟨r, h1, h2⟩ := (ih d).mp ((c1 d).mpr (by omega))
     exact ⟨r, h1, by omega⟩
   ·rintro ⟨r, h1, h2⟩
    by_cases z : d <= e
    ·omega
    ·have := m.rootM he h1 (by omega)
     omega
  ·rw [if_neg hp, ih d]
   constructor
   ·rintro ⟨r, h1, h2⟩; exact ⟨r, h1, by omega⟩
   ·rintro ⟨r, h1, h2⟩
    refine ⟨r, h1, ?_⟩
    have : r ≠ p := fun z => hp (z ▸ ZaA h1)
    omega
noncomputable def al (roots : List Nat) (L : List Nd) (S : Nat -> Int) (p : Nat) : Int := match Zjk L p with
 | none => 1
 | some h => if h.1 = "let" then 1 + S (en L h.2.toNat) - S h.2.toNat else if h.1 = "def" /\ h.2 < (ZgB roots (p + 1) : Int) - 1 then 1 + S (en L (roots.getD h.2.toNat 0)) - S (roots.getD h.2.toNat 0) else 1
noncomputable def SS (roots : List Nat) (L : List Nd) : Nat -> Nat -> Int
 | 0, _ => 0
 | p + 1, k => if k <= p then SS roots L p k else SS roots L p p + al roots L (SS roots L p) p
noncomputable def Sx (roots : List Nat) (L : List Nd) (k : Nat) : Int := SS roots L k k
theorem Zqq : ∀ {p k : Nat}, k <= p -> SS roots L p k = Sx roots L k
 | 0, k, h => by
  have : k = 0 := by omega
  rw [this]
  rfl
 | p + 1, k, h => by
  by_cases z : k <= p
  ·show (if k <= p then _ else _) = _
   rw [if_pos z]
   exact Zqq z
  ·have : k = p + 1 := by omega
   rw [this]
   rfl
noncomputable def Wt (roots : List Nat) (L : List Nd) (p : Nat) : Int := Sx roots L (en L p) - Sx roots L p
theorem MI.due (m : MI names roots L []) {p : Nat} {h : Hm} (e : Zjk L p = some h) : p < L.length /\ ZeS L p = none /\ Zpi roots L p h := by
 unfold Zjk at e
 split at e
 ·rename_i nd hnd
  have pl := (Zaj.mp hnd).1
  unfold ZgA at e
  split at e
  ·rename_i w hw
   refine ⟨pl, ZhK m.toMI0 ⟨nd, hnd, by rw [hw]; rfl⟩, ?_⟩
   exact m.outOk (p + 1) p (ZbY _) nd hnd _ (Zkr e)
  ·cases e
 ·cases e
theorem MI.ahead (m : MI names roots L []) {p d r : Nat} (hd : roots[d]? = some r) (hc : (d : Int) < (ZgB roots (p + 1) : Int) - 1) : en L r <= p /\ ∃ r', roots[d + 1]? = some r' /\ r' <= p := by
 obtain ⟨r', h1, h2⟩ := (m.cnt (p + 1) (d + 1)).mp (by omega)
 have := m.rootS hd h1 (ZbY _)
 exact ⟨by omega, r', h1, by omega⟩
theorem Zg2 {l : List Nat} {d r : Nat} (h : l[d]? = some r) : l.getD d 0 = r := by rw [Za3, h]; rfl
theorem MI.al_eq (m : MI names roots L []) {S S' : Nat -> Int} {p : Nat} (hS : ∀ k, k <= p -> S k = S' k) : al roots L S p = al roots L S' p := by
 unfold al
 cases e : Zjk L p with
 | none => rfl
 | some h =>
  obtain ⟨pl, _, h1, h2⟩ := m.due e
  dsimp only
  by_cases z1 : h.1 = "let"
  ·obtain ⟨q, e1, e2, e3⟩ := h1 z1
   rw [if_pos z1, if_pos z1, e1, Zda, hS _ e3, hS _ (by omega)]
  ·rw [if_neg z1, if_neg z1]
   by_cases z2 : h.1 = "def" /\ h.2 < (ZgB roots (p + 1) : Int) - 1
   ·obtain ⟨d, r, e1, e2, e3⟩ := h2 z2.1
    have z3 := z2.2
    rw [e1] at z3
    obtain ⟨e4, _⟩ := m.ahead e2 z3
    rw [if_pos z2, if_pos z2, e1, Zda, Zg2 e2, hS _ e4, hS _ e3]
   ·rw [if_neg z2, if_neg z2]
theorem MI.Sx_succ (m : MI names roots L []) (p : Nat) : Sx roots L (p + 1) = Sx roots L p + al roots L (Sx roots L) p := by
 show (if p + 1 <= p then _ else _) = _
 rw [if_neg (by omega), m.al_eq fun k hk => Zqq hk]
 rfl
theorem MI.Wt_none (m : MI names roots L []) {p : Nat} {nd : Nd} (h : L[p]? = some nd) (hd : Zjk L p = none) : Wt roots L p = 1 + (nd.kids.map (Wt roots L)).sum := by
 have hk := m.kids h
 have := hk.sum (Sx roots L)
 have e : (nd.kids.map (Wt roots L)).sum = Sx roots L (en L p) - Sx roots L (p + 1) := this
 have e2 : al roots L (Sx roots L) p = 1 := by unfold al; rw [hd]
 rw [e, m.Sx_succ, e2]
 unfold Wt
 omega
theorem MI.Wt_some (m : MI names roots L []) {p : Nat} {h : Hm} (hd : Zjk L p = some h) : Wt roots L p = al roots L (Sx roots L) p := by
 obtain ⟨pl, h1, _⟩ := m.due hd
 unfold Wt
 rw [Zj3 m.up pl h1, m.Sx_succ]
 omega
theorem MI.rootN (m : MI names roots L []) {i r : Nat} (hi : roots[i]? = some r) : (∀ r', roots[i + 1]? = some r' -> r' = en L r) /\ (i + 1 = roots.length -> en L r = L.length) := by
 refine ⟨fun r' h => m.to (m.i2 i r r' hi h), fun h => ?_⟩
 obtain ⟨⟨b, h1, h2⟩, _⟩ := m.rt r (by rw [ZbD, <- h]; exact hi)
 rw [Zj2 m.up h2 (m.lastLeaf h1) (by omega), h1]
def Bef (L : List Nd) (y x : Nat) : Prop := en L y < en L x \/ (en L y = en L x /\ x < y)
theorem Bef.trans {x y z : Nat} (h : Bef L x y) (g : Bef L y z) : Bef L x z := by
 unfold Bef at *
 omega
theorem Bef.asym {x y : Nat} (h : Bef L x y) (g : Bef L y x) : False := by
 unfold Bef at *
 omega
structure PO (L : List Nd) (r : Nat) (found ahead : List Nat) : Prop where
 fp : found.Pairwise fun x y => Bef L y x
 fa : ∀ x ∈ found, ∀ a ∈ ahead, Bef L a x
 ap : ahead.Pairwise fun a b => en L a <= b
 cov : ∀ x, (x ∈ found \/ ∃ a ∈ ahead, a <= x /\ x < en L a) ↔ r <= x /\ x < en L r
 al : ∀ a ∈ ahead, a < L.length /\ en L a <= en L r
 fl : ∀ x ∈ found, x < L.length /\ en L x <= en L r
 sz : found.length + (ahead.map fun a => en L a - a).sum = en L r - r
theorem Chn.sumN {E : Nat -> Nat} : ∀ {cs : List Nat} {a e : Nat}, Chn E cs a e -> (∀ c ∈ cs, c < E c) -> (cs.map fun c => E c - c).sum = e - a
 | [], a, e, h, _ => by
  have h : a = e := h
  rw [h, Zb3]
  rfl
 | c :: cs, a, e, ⟨h1, h2⟩, hl => by
  have hl' := fun x hx => hl x (Zaf _ hx)
  have := Chn.sumN h2 hl'
  have := hl c Zae
  have := (Chn.le h2 hl').1
  rw [Zaq, List.sum_cons]
  omega
theorem PO.start {r : Nat} (hr : r < L.length) (u : Up L) : PO L r [] [r] := by
 have := Zh2 u hr
 refine ⟨.nil, fun x h => (by cases h), ZbI _ _, fun x => ⟨?_, ?_⟩, fun a ha => ?_, fun x h => (by cases h), ?_⟩
 ·rintro (h | ⟨a, ha, h⟩)
  ·cases h
  ·rw [ZaU] at ha
   rw [ha] at h
   exact h
 ·intro h
  exact .inr ⟨r, ZbJ _, h⟩
 ·rw [ZaU] at ha
  rw [ha]
  exact ⟨hr, ZbV _⟩
 ·show 0 + ((en L r - r) + 0) = _
  omega
theorem PO.step (m : MI names roots L []) {r x : Nat} {found as : List Nat} {nd : Nd} (h : PO L r found (as ++ [x])) (hx : L[x]? = some nd) : PO L r (found ++ [x]) (as ++ nd.kids) := by
 have hk := m.kids hx
 have hl := m.kidL hx
 have hl' := fun c hc => (hl c hc).2
 have le := hk.le hl'
 have xa : x ∈ as ++ [x] := Zan _ (ZbJ _)
 have ap := ZbF.mp h.ap
 have xl := h.al x xa
 have bd := Zh2 m.up xl.1
 have kb : ∀ c ∈ nd.kids, Bef L c x := fun c hc => by
  have := le.2 c hc
  unfold Bef
  omega
 have ax : ∀ a ∈ as, en L a <= x := fun a ha => ap.2.2 a ha x (ZbJ _)
 refine ⟨ZbF.mpr ⟨h.fp, ZbI _ _, fun y hy z hz => ?_⟩, fun y hy a ha => ?_, ZbF.mpr ⟨ap.1, hk.pw hl', fun a ha c hc => ?_⟩, fun y => ?_, fun a ha => ?_, fun y hy => ?_, ?_⟩
 ·rw [ZaU] at hz
  rw [hz]
  exact h.fa y hy x xa
 ·rcases Zah.mp hy with hy | hy
  ·rcases Zah.mp ha with ha | ha
   ·exact h.fa y hy a (Zai _ ha)
   ·exact (kb a ha).trans (h.fa y hy x xa)
  ·rw [ZaU] at hy
   rw [hy]
   rcases Zah.mp ha with ha | ha
   ·have := ax a ha
    exact .inl (by omega)
   ·exact kb a ha
 ·have := ax a ha
  have := le.2 c hc
  omega
 ·rw [<- h.cov y]
  constructor
  ·rintro (hy | ⟨a, ha, h1⟩)
   ·rcases Zah.mp hy with hy | hy
    ·exact .inl hy
    ·rw [ZaU] at hy
     rw [hy]
     exact .inr ⟨x, xa, ZbV _, bd.1⟩
   ·rcases Zah.mp ha with ha | ha
    ·exact .inr ⟨a, Zai _ ha, h1⟩
    ·have := le.2 a ha
     exact .inr ⟨x, xa, by omega, by omega⟩
  ·rintro (hy | ⟨a, ha, h1⟩)
   ·exact .inl (Zai _ hy)
   ·rcases Zah.mp ha with ha | ha
    ·exact .inr ⟨a, Zai _ ha, h1⟩
    ·rw [ZaU] at ha
     rw [ha] at h1
     by_cases e : y = x
     ·exact .inl (by rw [e]; exact Zan _ (ZbJ _))
     ·obtain ⟨c, h2, h3⟩ := hk.cov hl' (show x + 1 <= y by omega) h1.2
      exact .inr ⟨c, Zan _ h2, h3⟩
 ·rcases Zah.mp ha with ha | ha
  ·exact h.al a (Zai _ ha)
  ·have := le.2 a ha
   exact ⟨(hl a ha).1, by omega⟩
 ·rcases Zah.mp hy with hy | hy
  ·exact h.fl y hy
  ·rw [ZaU] at hy
   rw [hy]
   exact xl
 ·have s1 := h.sz
  have s2 := hk.sumN hl'
  have := le.1
  rw [ZaV, Zbe, List.map_singleton, List.sum_singleton] at s1
  rw [ZaV, Zbe, s2, ZaB, ZaQ]
  omega
structure Zni (L : List Nd) (r : Nat) (ps : List Nat) : Prop where
 pw : ps.Pairwise (Bef L)
 mem : ∀ x, x ∈ ps ↔ r <= x /\ x < en L r
 le : ∀ x ∈ ps, x < L.length /\ en L x <= en L r
 sz : ps.length <= L.length
theorem PO.post {r : Nat} {found : List Nat} (h : PO L r found []) (hr : r < L.length) (u : Up L) : Zni L r found.reverse := by
 have := Zh2 u hr
 refine ⟨List.pairwise_reverse.mpr h.fp, fun x => ?_, fun x hx => h.fl x (ZbH.mp hx), ?_⟩
 ·rw [ZbH, <- h.cov x]
  exact ⟨.inl, fun z => z.elim id fun ⟨a, ha, _⟩ => by cases ha⟩
 ·have := h.sz
  rw [Zbb]
  omega
theorem Zni.bef {r : Nat} {ps : List Nat} (h : Zni L r ps) {j p x : Nat} (hp : ps[j]? = some p) (hx : x ∈ ps) (b : Bef L x p) : x ∈ ps.take j := by
 obtain ⟨i, hi⟩ := Zbt.mp hx
 have jl := (Zaj.mp hp).1
 have il := (Zaj.mp hi).1
 have pw := ZbG.mp h.pw
 have ei := (Zaj.mp hi).2
 have ej := (Zaj.mp hp).2
 by_cases z : i < j
 ·exact Zbt.mpr ⟨i, by rw [List.getElem?_take, if_pos z]; exact hi⟩
 ·by_cases z2 : i = j
  ·subst z2
   rw [hp] at hi
   cases hi
   exact (b.asym b).elim
  ·have := pw j i jl il (by omega)
   rw [ei, ej] at this
   exact (b.asym this).elim
def Don (roots : List Nat) (L : List Nd) (r : Nat) (ps : List Nat) (vs : List Int) : Prop := vs.length = L.length /\ ∀ x, (x < r \/ x ∈ ps) -> vs[x]? = some (Wt roots L x)
theorem Don.kids (m : MI names roots L []) {r j p : Nat} {ps : List Nat} {vs : List Int} {nd : Nd} (P : Zni L r ps) (D : Don roots L r (ps.take j) vs) (hp : ps[j]? = some p) (h : L[p]? = some nd) : ∀ c ∈ nd.kids, vs[c]? = some (Wt roots L c) := fun c hc => by
 have hk := m.kids h
 have le := (hk.le fun c hc => (m.kidL h c hc).2).2 c hc
 have pm := (P.mem p).mp (ZaA hp)
 have pe := (P.le p (ZaA hp)).2
 have cl := m.kidL h c hc
 refine D.2 c (.inr (P.bef hp ((P.mem c).mpr ⟨by omega, by omega⟩) ?_))
 unfold Bef
 omega
theorem Don.lets (m : MI names roots L []) {r j p q : Nat} {ps : List Nat} {vs : List Int} (P : Zni L r ps) (D : Don roots L r (ps.take j) vs) (hp : ps[j]? = some p) (h1 : q < p) (h2 : en L q <= p) : vs[q]? = some (Wt roots L q) := by
 have pm := (P.mem p).mp (ZaA hp)
 have pl := (P.le p (ZaA hp)).1
 have pb := Zh2 m.up pl
 by_cases z : q < r
 ·exact D.2 q (.inl z)
 ·refine D.2 q (.inr (P.bef hp ((P.mem q).mpr ⟨by omega, by omega⟩) ?_))
  unfold Bef
  omega
theorem Don.defs (m : MI names roots L []) {r j p i d s : Nat} {ps : List Nat} {vs : List Int} (hi : roots[i]? = some r) (P : Zni L r ps) (D : Don roots L r (ps.take j) vs) (hp : ps[j]? = some p) (hd : roots[d]? = some s) {r' : Nat} (h1 : roots[d + 1]? = some r') (h2 : r' <= p) : vs[s]? = some (Wt roots L s) := by
 have pm := (P.mem p).mp (ZaA hp)
 refine D.2 s (.inl ?_)
 by_cases z : d < i
 ·exact m.rootM hd hi z
 ·have := m.rootS hi h1 (by omega)
  omega
theorem Don.put {r j p : Nat} {ps : List Nat} {vs : List Int} (D : Don roots L r (ps.take j) vs) (hp : ps[j]? = some p) (pl : p < L.length) : Don roots L r (ps.take (j + 1)) (vs.set p (Wt roots L p)) := by
 refine ⟨by rw [ZaK]; exact D.1, fun x hx => ?_⟩
 rw [ZbK]
 by_cases e : p = x
 ·rw [if_pos e, if_pos (by rw [D.1]; exact pl), e]
 ·rw [if_neg e]
  refine D.2 x ?_
  rcases hx with hx | hx
  ·exact .inl hx
  ·rw [Zbd, hp] at hx
   rcases Zah.mp hx with hx | hx
   ·exact .inr hx
   ·have : x = p := ZaU.mp hx
    exact absurd this.symm e
theorem Don.all {r : Nat} {ps : List Nat} {vs : List Int} (P : Zni L r ps) (D : Don roots L r ps vs) : Don roots L (en L r) [] vs := ⟨D.1, fun x hx => by
 rcases hx with hx | hx
 ·refine D.2 x ?_
  by_cases z : x < r
  ·exact .inl z
  ·exact .inr ((P.mem x).mpr ⟨by omega, hx⟩)
 ·cases hx⟩
theorem Don.whole {vs : List Int} (D : Don roots L L.length [] vs) : vs = (Zaa L.length).map (Wt roots L) := by
 refine Za9 fun k => ?_
 rw [Zaz]
 by_cases hk : k < L.length
 ·rw [D.2 k (.inl hk), Zbx hk]
  rfl
 ·rw [Zba (by rw [D.1]; omega), Zba (by rw [Zbm]; omega)]
  rfl
end
theorem Znj {a t k l : Int} (h0 : 0 <= t) (h1 : t < 8) (k0 : 0 <= k) (k1 : k < 16) (l0 : 0 <= l) (l1 : l < 16) (h : (k * (1 + t * 2) + a) % 16 = (l * (1 + t * 2) + a) % 16) : k = l := by
 have : t = 0 \/ t = 1 \/ t = 2 \/ t = 3 \/ t = 4 \/ t = 5 \/ t = 6 \/ t = 7 := by omega
 rcases this with rfl | rfl | rfl | rfl | rfl | rfl | rfl | rfl <;> omega
noncomputable def nmF (ws : List Str) (seed : Int) (k : Nat) : Str := wa ws (((k : Int) * (1 + seed % 8 * 2) + seed / 8) % 16)
theorem Zrv {ws : List Str} (hl : ws.length = 16) (nd : ws.Nodup) (seed : Int) {m : Nat} (hm : m <= 16) : ((Zaa m).map (nmF ws seed)).Nodup := by
 rw [List.Nodup, Zbh]
 refine List.Pairwise.imp_of_mem (fun {x y} hx hy hlt e => ?_) Zbi
 have hx := Zac.mp hx
 have hy := Zac.mp hy
 have := ZnS hl nd (Zdc _ (by decide)) (Zdd _ (by decide)) (Zdc _ (by decide)) (Zdd _ (by decide)) e
 have := Znj (Zdc _ (by decide)) (Zdd _ (by decide)) (by omega) (by omega) (by omega) (by omega) this
 omega
theorem or3 {t1 t2 t3 : TT} {σ : St} {H : Hp} {R : Bool -> Hp -> Prop} (b1 b2 b3 : Bool) (h1 : ∀ R : Bool -> Hp -> Prop, R b1 H -> t1 σ H R) (h2 : ∀ R : Bool -> Hp -> Prop, R b2 H -> t2 σ H R) (h3 : ∀ R : Bool -> Hp -> Prop, R b3 H -> t3 σ H R) (k : R (b1 || (b2 || b3)) H) : tOr t1 (tOr t2 t3) σ H R := by
 refine h1 _ ?_
 cases b1 with
 | true => exact Zfq k
 | false =>
  refine Zet (h2 _ ?_)
  cases b2 with
  | true => exact Zfq k
  | false => exact Zet (h3 _ k)
def PL (H0 H : Hp) (a : Ad) (KA : List Addr) (kv tv uv : List V) (names : List Str) (roots : List Nat) (L : List Nd) (T : List Td) : Prop := PH H0 H a KA kv tv uv names roots (L.map Nd.κ) (L.map Nd.kids) (L.map fun nd => ZgA nd.κ nd.out) T
def ZnU (H : Hp) (t : Addr) (names : List Str) (roots : List Nat) (L : List Nd) : Prop := ∃ (n r w u d : Addr) (xs us : List V) (KA : List Addr), H t = some (.tup [.ref n, .ref r, .ref w, .ref u, .ref d]) /\ H n = some (.lst (names.map V.str)) /\ H r = some (.lst (roots.map nI)) /\ H w = some (.lst xs) /\ Ims H xs (L.map fun nd => nd.ro.d) /\ H u = some (.lst us) /\ Ims H us (L.map fun nd => hoD (ZgA nd.κ nd.out)) /\
 H d = some (.lst (KA.map V.ref)) /\ KA.length = L.length /\ ∀ (i : Nat) (x : Addr) (nd : Nd), KA[i]? = some x -> L[i]? = some nd -> H x = some (.lst (nd.kids.map nI))
theorem Zjl {c : TT} {tb u : TS} {D : ZfS} {σ : St} {H : Hp} (N : St -> Hp -> Prop) (k : ∀ σ' H', N σ' H' -> u D σ' H') (w : ∀ Nx : St -> Hp -> Prop, (∀ σ' H', N σ' H' -> Nx σ' H') -> Zla c tb { D with nx := Nx } σ H) : Zjs (Zla c tb) u D σ H := w _ k
theorem ZoY {K : PySem.W.Frag} {a : Addr} {xs : List V} {g : TG} {tb : TS} {D : ZfS} {σ : St} {H : Hp} (Pv : Nat -> St -> Hp -> Prop) (h0 : Pv 0 σ H) (hl : ∀ i σ H, i <= xs.length -> Pv i σ H -> SqL K H a xs)
  (hs : ∀ (i : Nat) (x : V) (σ : St) (H : Hp), i < xs.length -> xs[xs.length - 1 - i]? = some x -> Pv i σ H -> g x σ H fun σ2 H2 => tb { D with nx := Pv (i + 1), ct := Pv (i + 1), bk := D.nx } σ2 H2) (hd : ∀ σ H, Pv xs.length σ H -> D.nx σ H) :
  ∃ W : Nat -> Nat -> St -> Hp -> Prop, (∃ m, W 0 m σ H) /\ ∀ i m σ H, W i m σ H ->
   ((Itv K a xs.length).stop i H /\ D.nx σ H) \/ ((Itv K a xs.length).go i H /\ ∃ N : St -> Hp -> Prop, (∀ σ' H', N σ' H' -> ∃ m', m' < m /\ W (i + 1) m' σ' H') /\ ∀ x H', (Itv K a xs.length).yld i H x H' -> g x σ H' fun σ2 H2 => tb { D with nx := N, ct := N, bk := D.nx } σ2 H2) := by
 refine ⟨fun i m σ H => m = xs.length - i /\ i <= xs.length /\ Pv i σ H, ⟨xs.length, by simp, ZbW _, h0⟩, ?_⟩
 rintro i m σ H ⟨rfl, hi, p⟩
 have q := hl i σ H hi p
 by_cases hlt : i < xs.length
 ·refine .inr ⟨⟨hlt, xs, q, rfl⟩, Pv (i + 1), fun σ' H' p' => ⟨xs.length - (i + 1), by omega, rfl, hlt, p'⟩, fun v H' y => ?_⟩
  obtain ⟨rfl, hx⟩ := y
  exact hs i v σ H' hlt (hx xs q) p
 ·have e : i = xs.length := by omega
  subst e
  exact .inl ⟨rfl, hd σ H p⟩
theorem addK_κ (L : List Nd) (p n : Nat) : (Zhc L p n).map Nd.κ = L.map Nd.κ := by
 refine Za9 fun k => ?_
 rw [Zaz, Zaz]
 cases h : L[k]? with
 | none => rw [Zba (by rw [Zec]; exact ZbL.mp h)]
 | some nd =>
  rw [Zf6 h]
  show some (Nd.κ (if k = p then _ else nd)) = some nd.κ
  split <;> rfl
theorem Znk (L : List Nd) (p n : Nat) : ((Zhc L p n).map fun nd => ZgA nd.κ nd.out) = L.map fun nd => ZgA nd.κ nd.out := by
 refine Za9 fun k => ?_
 rw [Zaz, Zaz]
 cases h : L[k]? with
 | none => rw [Zba (by rw [Zec]; exact ZbL.mp h)]
 | some nd =>
  rw [Zf6 h]
  show some ((fun nd : Nd => ZgA nd.κ nd.out) (if k = p then _ else nd)) = some (ZgA nd.κ nd.out)
  split <;> rfl
theorem Zms {L : List Nd} {p n : Nat} {nd : Nd} (hp : L[p]? = some nd) : (Zhc L p n).map Nd.kids = (L.map Nd.kids).set p (nd.kids ++ [n]) := by
 refine Za9 fun k => ?_
 have plt := (Zaj.mp hp).1
 rw [Zaz]
 by_cases e : k = p
 ·subst e
  rw [Zf6 hp, if_pos rfl, Zak (by rw [Zar]; exact plt)]
  rfl
 ·rw [Zal (fun z => e z.symm), Zaz]
  cases h : L[k]? with
  | none => rw [Zba (by rw [Zec]; exact ZbL.mp h)]
  | some x => rw [Zf6 h, if_neg e]
theorem PH.lists {H0 H : Hp} {a : Ad} {KA : List Addr} {kv tv uv : List V} {names : List Str} {roots : List Nat} {κs : List Kn} {kds : List (List Nat)} {dus : List (Option Hm)} {T : List Td} (h : PH H0 H a KA kv tv uv names roots κs kds dus T) : ∀ x ∈ a.l ++ KA, ∃ ys, H x = some (.lst ys) := by
 intro x hx
 rcases Zah.mp hx with hx | hx
 ·unfold Ad.l at hx
  simp only [Zag, Za1, or_false] at hx
  rcases hx with rfl | rfl | rfl | rfl | rfl | rfl
  ·exact ⟨_, h.n⟩
  ·exact ⟨_, h.r⟩
  ·exact ⟨_, h.k⟩
  ·exact ⟨_, h.d⟩
  ·exact ⟨_, h.u⟩
  ·exact ⟨_, h.t⟩
 ·obtain ⟨i, hi⟩ := Zbt.mp hx
  have := (Zaj.mp hi).1
  have dl := h.dl
  exact ⟨_, h.dk i x _ hi (Za0 (by omega))⟩
theorem Zj4 {H : Hp} {M : List Addr} (h : ∀ x ∈ M, ∃ ys, H x = some (.lst ys)) : TK H (Zfn H M) := fun b xs e => ZeF (fun z => by obtain ⟨ys, hy⟩ := h b z; rw [hy] at e; cases e) e
theorem ZnV {N : Hp} {v : V} {κ : Kn} (h : Dta N v κ.d) : ∃ (st hh : Addr) (mv : V) (hs : List V), v = .ref st /\ N st = some (.lst [.str κ.s, mv, .ref hh]) /\ Dta N mv κ.mo /\ N hh = some (.lst hs) /\ Zga N hs (κ.ho.map hlD) := by
 unfold Kn.d at h
 cases h with
 | @lst st xs _ he hs =>
  cases hs with
  | cons h1 hs =>
   cases hs with
   | @cons mv _ _ _ h2 hs =>
    cases hs with
    | cons h3 hs =>
     cases hs
     cases h1
     cases h3 with
     | @lst hh hs _ eh hh' => exact ⟨st, hh, mv, hs, rfl, he, h2, eh, hh'⟩
theorem Znl {j i : Nat} {m n : Int} {u : TS} {D : ZfS} {σ : St} {H : Hp} (hv : σ[j]? = some (some (.int m))) (k : u D (σ.set i (some (.int (m + n)))) H) : Zjs (Zpe (tOp (cI0 fun i j => V.int (i + j)) (cV j) (tC (.int n))) (Zd1 i)) u D σ H := by
 show onV σ[j]? _
 rw [hv]
 exact k
theorem Zmt (names : List Str) (i : Nat) : defs names (i + 1) = defs names i ++ [(names.getD i "", (("def" : Str), (i : Int)))] := by
 unfold defs
 rw [Zbl, ZaV]
 rfl
theorem Znm (names : List Str) (i : Nat) : (defs names i).length = i := by unfold defs; rw [Zar, Zbm]
def ZqL (names : List Str) (roots : List Nat) (L : List Nd) (t : Td) (T1 : List Td) : Prop :=
 (∃ (p : Nat) (nd : Nd), t.par = (p : Int) /\ L[p]? = some nd /\ MI names roots L (t :: T1)) \/
 ∃ (names0 : List Str) (roots0 : List Nat) (x : Str), t.par = -1 /\ t.ho = p0 /\ T1 = [] /\ t.held = defs names0 names0.length /\ names = names0 ++ [x] /\ roots = roots0 ++ [L.length] /\ MI names0 roots0 L [] /\ names0.length < 12 /\ L.length <= 140
noncomputable def ZeI (L : List Nd) (t : Td) : List (Str × Hm) := t.held ++ exL (t.par + 1) (L.length : Int) t.ho
noncomputable def ZhW (names : List Str) (t : Td) (κ : Kn) : List (Str × Hm) := if t.par < 0 /\ (Nd.mk κ [] []).isF = true then [(names.getD (names.length - 1) "", (("def" : Str), ((names.length - 1 : Nat) : Int)))] else []
theorem ZqL.step {names : List Str} {roots : List Nat} {L : List Nd} {t : Td} {T1 : List Td} (m : ZqL names roots L t T1) : ∃ L1 : List Nd, (0 <= t.par -> ∃ (p : Nat) (nd : Nd), t.par = (p : Int) /\ L[p]? = some nd /\ L1 = Zhc L p L.length) /\ (t.par < 0 -> L1 = L /\ t.ho = p0) /\ names ≠ [] /\ names.length <= 12 /\ (t.ho = p0 \/ ∃ w how, t.ho = (some w, how) /\ (how = "fn" \/ how = "let" \/ how = "arm")) /\ L.length + (T1.length + 1) <= 150 /\
  ∀ (κ : Kn) (out : List (Str × Hm)) (dep : Int), κ.okk -> κ.ho.length <= 8 -> (κ.ho ≠ [] -> L.length + T1.length <= 141) -> (∀ w, κ = .name w -> w ∈ (ZeI L t).map Prod.fst) -> out = ZeI L t ++ ZhW names t κ -> MI names roots (L1 ++ [⟨κ, [], out⟩]) (Zig κ out L.length dep ++ T1) := by
 rcases m with ⟨p, nd, tp, hp, mi⟩ | ⟨names0, roots0, x, tp, th, rfl, hh, rfl, rfl, mi, n12, l140⟩
 ·obtain ⟨p', nd', tp', hp', hix, hth⟩ := mi.tds t Zae
  have sz := mi.sz
  rw [Zao] at sz
  have rne : names ≠ [] := by
   intro z
   have rl := mi.rl
   rw [z] at rl
   have plt := (Zaj.mp hp).1
   rcases mi.reach 0 (by omega) with ⟨i, hi⟩ | ⟨p, nd, h, _⟩
   ·have := (Zaj.mp hi).1
    rw [rl] at this
    exact absurd this (Zb1 _)
   ·exact absurd h (Zb1 _)
  refine ⟨Zhc L p L.length, fun _ => ⟨p, nd, tp, hp, rfl⟩, fun h => by omega, rne, mi.nl, Kn.ho_ok (ZaA hix), by omega, fun κ out dep ok h8 h141 hn ho => ?_⟩
  have eo : out = t.held ++ exL ((p + 1 : Nat) : Int) (L.length : Int) t.ho := by
   rw [ho]
   unfold ZeI ZhW
   rw [if_neg (fun z => by omega), Zas, tp]
   rfl
  refine MI.kidStep mi tp hp ok h8 h141 eo fun w e => ?_
  have := hn w e
  unfold ZeI at this
  rw [tp] at this
  rw [eo]
  exact this
 ·refine ⟨L, fun h => by omega, fun _ => ⟨rfl, th⟩, by simp, by rw [ZaB, ZaQ]; omega, .inl th, by show L.length + (0 + 1) <= 150; omega, fun κ out dep ok h8 h141 hn ho => ?_⟩
  have hx : ZeI L t = defs names0 names0.length := by
   unfold ZeI
   rw [th, hh]
   show _ ++ [] = _
   rw [Zas]
  rw [Zas]
  refine MI.rootStep mi n12 l140 ok h8 (by rw [<- hx]; exact hn) ?_
  rw [ho, hx]
  unfold ZhW
  have e1 : (names0 ++ [x]).length - 1 = names0.length := by rw [ZaB]; rfl
  rw [e1, Za3, Zax (ZbV _), Zb3]
  cases (Nd.mk κ [] []).isF with
  | true => rw [if_pos ⟨by omega, rfl⟩, if_pos rfl]; rfl
  | false => rw [if_neg (fun z => ZcY z.2), if_neg ZcY]
theorem Znn {κ : Kn} {out : List (Str × Hm)} {n : Nat} {dep : Int} {j : Nat} {h : Hol} (e : κ.ho[j]? = some h) : (Zig κ out n dep)[j]? = some ⟨out, h, (n : Int), dep, j⟩ := by
 unfold Zig
 rw [Zaz, List.getElem?_zipIdx, e]
 show some (Td.mk out h (n : Int) dep (0 + j)) = _
 rw [Nat.zero_add]
theorem Zno {H H' : Hp} : ZdH (Zgb H H') H' := fun b u e => (Zfu e).2
theorem Zmu {H H' : Hp} {a : Addr} {o : HO} (h : H a = some o) : Zgb H H' a = none := by unfold Zgb; rw [h]
theorem ZnW {κ : Kn} (h : κ.ok) : decide (κ.s = "fn") = (Nd.mk κ [] []).isF := by
 cases κ with
 | op s m => exact ZoQ h.1 (by decide +kernel)
 | num a => exact (show decide (("num" : Str) = "fn") = false from by decide +kernel)
 | name a => exact (show decide (("name" : Str) = "fn") = false from by decide +kernel)
 | fn a => exact (show decide (("fn" : Str) = "fn") = true from by decide +kernel)
 | tag a => exact (show decide (("tag" : Str) = "fn") = false from by decide +kernel)
 | lt a => exact (show decide (("let" : Str) = "fn") = false from by decide +kernel)
 | get a => exact (show decide (("get" : Str) = "fn") = false from by decide +kernel)
 | rcd a => exact (show decide (("rec" : Str) = "fn") = false from by decide +kernel)
 | case a => exact (show decide (("case" : Str) = "fn") = false from by decide +kernel)
 | row a => exact (show decide (("row" : Str) = "fn") = false from by decide +kernel)
theorem ZoZ (names : List Str) (L : List Nd) (t : Td) (κ : Kn) : ZgA κ (ZeI L t ++ ZhW names t κ) = ZgA κ (ZeI L t) := by
 cases κ with
 | name w =>
  have : ZhW names t (.name w) = [] := by
   unfold ZhW
   rw [if_neg (fun z => nomatch z.2)]
  rw [this, Zas]
 | _ => rfl
theorem Zo0 (f q : Int) (h : Hol) : (exL f q h).length <= 1 := by
 unfold exL
 split
 ·exact ZbW _
 ·exact ZbV _
theorem Zqr {names : List Str} {roots : List Nat} {L : List Nd} {t : Td} {T1 : List Td} (m : ZqL names roots L t T1) {p : Nat} {nd : Nd} (hp : L[p]? = some nd) : nd.kids.length <= 101 := by
 rcases m with ⟨_, _, _, _, mi⟩ | ⟨names0, roots0, x, _, _, _, _, _, _, mi, _, _⟩
 ·exact ZbS (mi.seg p nd hp).2 (nd.κ.ho_le (mi.ok nd (ZaA hp)).1)
 ·exact ZbS (mi.seg p nd hp).2 (nd.κ.ho_le (mi.ok nd (ZaA hp)).1)
def WI (H : Hp) (W C : Addr) (ws : List Str) (seed : Int) (a : Ad) (m : Nat) (σ : St) (H2 : Hp) : Prop := ∃ (names : List Str) (roots : List Nat) (L : List Nd) (T : List Td) (KA : List Addr) (kv tv uv : List V) (f : Int) (o10 o11 o12 o13 o14 o15 o16 o17 o18 : Option V),
 σ = [some (.ref W), some (.int seed), some (.ref C), some (.ref a.n), some (.ref a.r), some (.ref a.k), some (.ref a.d), some (.ref a.u), some (.ref a.t), some (.int f), o10, o11, o12, o13, o14, o15, o16, o17, o18, none] /\ 0 <= f /\
 PL H H2 a KA kv tv uv names roots L T /\ MI names roots L T /\ names = (Zaa names.length).map (nmF ws seed) /\ (∀ t ∈ T, t.held.length <= 20 + L.length) /\ m = 151 - L.length
def FinP (H : Hp) (W C : Addr) (ws : List Str) (seed : Int) (a : Ad) (σ : St) (H2 : Hp) : Prop := ∃ (names : List Str) (roots : List Nat) (L : List Nd) (KA : List Addr) (kv uv : List V) (o9 o10 o11 o12 o13 o14 o15 o16 o17 o18 : Option V),
 σ = [some (.ref W), some (.int seed), some (.ref C), some (.ref a.n), some (.ref a.r), some (.ref a.k), some (.ref a.d), some (.ref a.u), some (.ref a.t), o9, o10, o11, o12, o13, o14, o15, o16, o17, o18, none] /\
 PL H H2 a KA kv [] uv names roots L [] /\ MI names roots L [] /\ names = (Zaa names.length).map (nmF ws seed)
theorem Ze9 {H : Hp} {v : V} {x : V} (h : Dta H v (.flat x)) : v = x := by cases h; rfl
theorem Zqs {N : Hp} {v : V} {t : Td} (h : Dta N v t.d) : ∃ (e hl : Addr) (hv : List V), v = .ref e /\ N e = some (.lst [.ref hl, hoV t.ho.1, .str t.ho.2, .int t.par, .int t.dep]) /\ N hl = some (.lst hv) /\ Zga N hv (t.held.map prD) := by
 unfold Td.d at h
 cases h with
 | @lst e xs _ he hs =>
  cases hs with
  | cons h1 hs =>
   cases hs with
   | cons h2 hs =>
    cases hs with
    | cons h3 hs =>
     cases hs with
     | cons h4 hs =>
      cases hs with
      | cons h5 hs =>
       cases hs
       cases Ze9 h2
       cases Ze9 h3
       cases Ze9 h4
       cases Ze9 h5
       cases h1 with
       | @lst hl hv _ eh hh => exact ⟨e, hl, hv, rfl, he, eh, hh⟩
theorem Zks {N : Hp} : ∀ {hv : List V} {l : List (Str × Hm)}, Zga N hv (l.map prD) -> Ims N hv (l.map prD)
 | [], [], _ => .nil
 | v :: hv, p :: l, .cons h hs => by
  refine .cons ?_ (Zks hs)
  cases h with
  | tup e h1 =>
   cases h1 with
   | cons a h1 =>
    cases h1 with
    | cons b h1 =>
     cases h1
     cases Ze9 a
     cases b with
     | tup e2 h2 =>
      cases h2 with
      | cons c h2 =>
       cases h2 with
       | cons d h2 =>
        cases h2
        cases Ze9 c
        cases Ze9 d
        exact .tup e (.cons (.flat rfl) (.cons (.tup e2 (.cons (.flat rfl) (.cons (.flat rfl) .nil))) .nil))
theorem Zqt {N : Hp} {v : V} {h : Hol} (d : Dta N v (hlD h)) : ∃ e, v = .ref e /\ N e = some (.lst [hoV h.1, .str h.2]) := by
 unfold hlD at d
 cases d with
 | @lst e xs _ he hs =>
  cases hs with
  | cons h1 hs =>
   cases hs with
   | cons h2 hs =>
    cases hs
    cases Ze9 h1
    cases Ze9 h2
    exact ⟨e, rfl, he⟩
theorem Zqu (N : Hp) (o : Option Str) : Dta N (hoV o) (.flat (hoV o)) := by cases o <;> exact .flat rfl
section
variable {P : Program} {w : World} {K : PySem.W.Frag} {mg : Str -> Option Value} {base : Heap}
def ZhL : Sp := fun vs H Q _ => ∃ (W C : Addr) (ws : List Str) (seed : Int) (cs : List Int), vs = [.ref W, .int seed, .ref C] /\ Wd H W ws /\ 0 <= seed /\ seed < 1000000000 /\ H C = some (.lst (cs.map V.int)) /\ cs.length <= 1000 /\
 ∀ t names roots L H', ZdH H H' -> H t = none -> MI names roots L [] -> names.Nodup -> (∀ n ∈ names, n ≠ "none") -> ZnU H' t names roots L -> Q (.ref t) H'
theorem ZhM (T : Txt K mg) : ZfA P w K mg base CX0 2 T.a_program T.fd_program ["_law_words_here", "_law_seed", "_law_cells"] ZhL := by
 have G_stands := Zh1 (P := P) (w := w) (base := base) T
 have G_home := Zjj (P := P) (w := w) (base := base) T
 have G_row := Zj0 (P := P) (w := w) (base := base) T
 refine T.F_program.ok ZdB (fun vs H Q E h => ?_) (fun cdv A outer s H vs Q E hr h => ?_)
 ·obtain ⟨W, C, ws, seed, cs, rfl, _⟩ := h
  rfl
 obtain ⟨W, C, ws, seed, cs, rfl, wd, sd0, sd1, eC, cl, q⟩ := h
 refine ⟨_, (Zdo (ZdE (i := 3) ZdB.nd rfl (.inr rfl) (ZdN Zdq))
  (Zdo (ZdE (i := 4) ZdB.nd rfl (.inl rfl) (ZdN Zdq))
  (Zdo (ZdE (i := 5) ZdB.nd rfl (.inr rfl) (ZdN Zdq))
  (Zdo (ZdE (i := 6) ZdB.nd rfl (.inr rfl) (ZdN Zdq))
  (Zdo (ZdE (i := 7) ZdB.nd rfl (.inl rfl) (ZdN Zdq))
  (Zdo (ZdE (i := 8) ZdB.nd rfl (.inl rfl) (ZdN Zdq))
  (Zdo (ZdE (i := 9) ZdB.nd rfl (.inl rfl) Zds)
  (Zdo (Zj8 PassesOwn.never (PW.pt (Zgn (ZdA Zhw (cv 9) (ZdC Zdz rfl T.z_len Zd4 (Zdn (cv 2) Zdq)) (ZdK _)) (Zgn (ZdA Zhx (ZdC Zdz rfl T.z_len Zd4 (Zdn (cv 8) Zdq)) Zds (ZdK _)) (ZfQ (ZdA ZeH (ZdC Zdz rfl T.z_len Zd4 (Zdn (cv 3) Zdq)) Zds (ZdK _))))))
   (Zdo (ZdE (i := 10) ZdB.nd rfl (.inl rfl) (ZdF Zd8 (cv 9) Zds))
   (Zdo (Zd0 (ZdA Zhw (cv 9) (ZdC Zdz rfl T.z_len Zd4 (Zdn (cv 2) Zdq)) (ZdK _))
    (Zdu (ZdE (i := 10) ZdB.nd rfl (.inl rfl) (ZdF Zd8 (ZdG ZdD (cv 2) (cv 9) (fun _ _ => rfl)) (ZdF Zh9 Zds Zds))))
    ZdI)
   (Zdo (ZdE (i := 9) ZdB.nd rfl (.inl rfl) (ZdF Zez (cv 9) Zds))
   (Zdo (Zd0 (ZdA ZeH (ZdC Zdz rfl T.z_len Zd4 (Zdn (cv 8) Zdq)) Zds (ZdK _))
    (Zdo (Zd0 (PW.pt (Zgn (ZdA ZeH (ZdC Zdz rfl T.z_len Zd4 (Zdn (cv 3) Zdq)) Zds (ZdK _)) (ZfQ (ZdA Zhx (ZdC Zdz rfl T.z_len Zd4 (Zdn (cv 5) Zdq)) Zds (ZdK _)))))
     (Zdu ZmH)
     ZdI)
    (Zdo (Zd6 (Zfc (ZfW ZcR ZcS ZcT Zee (PE.mono (cv 8)) (Zdn (PE.mono (ZdN (Zdn (ZgY rfl (ZlL (x := "_law_d") ["_law_names"] [("_law_names", 3, s.heap.objs.size + 1)] rfl rfl (by decide +kernel) (by decide +kernel) rfl (by decide +kernel) rfl rfl (by intro p hp; simp only [Zag, Za1, or_false] at hp; rcases hp with rfl <;> exact ⟨rfl, rfl, rfl, rfl⟩)) (Zeu rfl T.z_range (Zdn (ZdC Zdz rfl T.z_len Zd4 (Zdn (cv 3) Zdq)) Zdq)) (fun _ _ _ _ _ => Ze4) (fun _ _ _ _ _ => (Zey (Zdn (ZdG ZdD (cv 1) (cv 0) (fun _ _ => rfl)) (Zdn (Zey (Zdn ZdJ (Zdn (cv 0) Zdq))) Zdq))))) (Zdn Zgh (Zdn ZdJ (Zdn (Zpr Znx Zds) (Zdn Zds Zdq))))))) Zdq))))
    (Zdo (Zd6 (Zfc (ZfW ZcR ZcS ZcT Zee (PE.mono (cv 4)) (Zdn (PE.mono (ZdC Zdz rfl T.z_len Zd4 (Zdn (cv 5) Zdq))) Zdq))))
    (Zdu (Zd6 (Zfc (ZfW ZcR ZcS ZcT Zee (PE.mono (cv 3)) (Zdn (PE.mono (ZdG ZdD (cv 0) (ZdF Zd8 (ZdF Zez (ZdF Zgl (ZdC Zdz rfl T.z_len Zd4 (Zdn (cv 3) Zdq)) (ZdF Zez Zds (ZdF Zgl (ZdF Zd8 (cv 1) Zds) Zds))) (ZdF ZeC (cv 1) Zds)) Zds) (fun _ _ => rfl))) Zdq))))))))
    ZdI)
   (Zdo (ZiM (Zlz ZcR ZcW ZcX ZnB (cv 8)) (ZnH rfl (ZdY (ZdQ (i := 11) ZdB.nd rfl (.inl rfl)) (ZdY (ZdQ (i := 12) ZdB.nd rfl (.inl rfl)) (ZdY (ZdQ (i := 13) ZdB.nd rfl (.inl rfl)) (ZdY (ZdQ (i := 14) ZdB.nd rfl (.inl rfl)) (ZdY (ZdQ (i := 15) ZdB.nd rfl (.inl rfl)) ZfF)))))))
   (Zdo (ZdE (i := 16) ZdB.nd rfl (.inl rfl) (ZdC Zdz rfl T.z_len Zd4 (Zdn (cv 5) Zdq)))
   (Zdo (Zd0 (ZdA Zrc (cv 14) Zds (ZdK _))
    (Zdu (Zd6 (Zfc (ZfW ZcR ZcS ZcT Zee (PE.mono (ZdG ZdD (cv 6) (cv 14) (fun _ _ => rfl))) (Zdn (PE.mono (cv 16)) Zdq)))))
    ZdI)
   (Zdo (Zd0 (ZdA ZeH (cv 13) ZdJ (ZdK _))
    (Zdu (ZdE (i := 11) ZdB.nd rfl (.inl rfl) (ZdF Zi0 (cv 11) (ZdN (Zdn (Zey (Zdn (cv 12) (Zdn (Zey (Zdn ZdJ (Zdn (ZdF Zez (cv 14) Zds) Zdq))) Zdq))) Zdq)))))
    (Zdu (Zd0 (ZdA ZkN (cv 13) ZdJ (ZdK _))
     (Zdu (ZdE (i := 11) ZdB.nd rfl (.inl rfl) (ZdF Zi0 (cv 11) (ZdN (Zdn (Zey (Zdn (cv 12) (Zdn (Zey (Zdn (cv 13) (Zdn (cv 16) Zdq))) Zdq))) Zdq)))))
     ZdI)))
   (Zdo (ZdE (i := 17) ZdB.nd rfl (.inl rfl) (ZdO G_stands (hr.mono (by decide)) rfl T.m_stands T.k_stands T.b_stands .nil ZeG (Zdn (cv 0) (Zdn (cv 10) (Zdn (cv 11) (Zdn (ZdF Zgl (ZdF ZfR (ZdF ZfR Zds (cv 16)) (ZdC Zdz rfl T.z_len Zd4 (Zdn (cv 8) Zdq))) (Zfl ZiO rfl T.z_int Zi2 (Zdn (Zgo Zhw (cv 15) Zds (ZdK _)) Zdq))) Zdq))))))
   (Zdo (Zd6 (Zfc (ZfW ZcR ZcS ZcT Zee (PE.mono (cv 5)) (Zdn (PE.mono (cv 17)) Zdq))))
   (Zdo (Zd6 (Zfc (ZfW ZcR ZcS ZcT Zee (PE.mono (cv 6)) (Zdn (PE.mono (ZdN Zdq)) Zdq))))
   (Zdo (Zd6 (Zfc (ZfW ZcR ZcS ZcT Zee (PE.mono (cv 7)) (Zdn (PE.mono (ZdO G_home (hr.mono (by decide)) rfl T.m_home T.k_home T.b_home .nil ZeG (Zdn (cv 11) (Zdn (cv 17) Zdq)))) Zdq))))
   (Zdo (Zd0 (PW.pt (Zhk (ZdA Zhw (cv 14) Zds (ZdK _)) (ZgV (ZdA ZeH (ZdG ZdD (cv 17) Zds (fun _ _ => rfl)) ZdJ (ZdK _)))))
    (Zdu (ZdE (i := 11) ZdB.nd rfl (.inl rfl) (ZdF Zi0 (cv 11) (ZdN (Zdn (Zey (Zdn (ZdG ZdD (cv 3) (ZdF ZfR (ZdC Zdz rfl T.z_len Zd4 (Zdn (cv 3) Zdq)) Zds) (fun _ _ => rfl)) (Zdn (Zey (Zdn ZdJ (Zdn (ZdF ZfR (ZdC Zdz rfl T.z_len Zd4 (Zdn (cv 3) Zdq)) Zds) Zdq))) Zdq))) Zdq)))))
    ZdI)
   (Zdu (Zfa PassesOwn.never rfl (ZpY rfl T.z_reversed (Zdn (ZdG ZdD (cv 17) Zds (fun _ _ => rfl)) Zdq)) (ZdQ (i := 18) ZdB.nd rfl (.inl rfl))
    (Zdu (Zd6 (Zfc (ZfW ZcR ZcS ZcT Zee (PE.mono (cv 8)) (Zdn (PE.mono (ZdN (Zdn (cv 11) (Zdn (ZdG ZdD (cv 18) Zds (fun _ _ => rfl)) (Zdn (ZdG ZdD (cv 18) Zds (fun _ _ => rfl)) (Zdn (cv 16) (Zdn (ZdF Zez (cv 15) Zds) Zdq))))))) Zdq)))))))))))))))))))))
  (Zdo (Zhg (j := 19) rfl (ZlL (x := "_law_k") ["_law_kinds", "_law_kids"] [("_law_kinds", 5, s.heap.objs.size + 2), ("_law_kids", 6, s.heap.objs.size + 3)] rfl rfl (by decide +kernel) (by decide +kernel) rfl (by decide +kernel) rfl rfl (by intro p hp; simp only [Zag, Za1, or_false] at hp; rcases hp with rfl | rfl <;> exact ⟨rfl, rfl, rfl, rfl⟩)) (Zeu rfl T.z_range (Zdn (ZdC Zdz rfl T.z_len Zd4 (Zdn (cv 5) Zdq)) Zdq)) (fun _ _ _ _ _ => Ze4) (fun _ _ _ _ _ => (ZdO G_row (hr.mono (by decide)) rfl T.m_row T.k_row T.b_row .nil ZeG (Zdn (ZdG ZdD (ZdG ZdD (cv 1) (cv 0) (fun _ _ => rfl)) Zds (fun _ _ => rfl)) (Zdn (ZdG ZdD (ZdG ZdD (cv 1) (cv 0) (fun _ _ => rfl)) Zds (fun _ _ => rfl)) (Zdn (ZdG ZdD (cv 2) (cv 0) (fun _ _ => rfl)) Zdq))))) ZdB.nd rfl (.inl rfl))
  (Zdu (ZdL (Zey (Zdn (cv 3) (Zdn (cv 4) (Zdn (cv 19) (Zdn (cv 7) (Zdn (cv 6) Zdq))))))))))))))))), ?_⟩
 have sl : sizeLine = 16777216 := sizeLine_eq
 have z0 : 0 <= sizeLine := by decide
 refine ⟨z0, fun ln h1 => ?_⟩
 have s1 := Zdr h1 (.lst [])
 have e1 : (upd H ln (.lst [])) ln = some (.lst []) := Zdp
 dsimp only [Zd1]
 generalize upd H ln (.lst []) = H1 at s1 e1 ⊢
 refine ⟨z0, fun lr h2 => ?_⟩
 have s2 := Zdr h2 (.lst [])
 have e2 : (upd H1 lr (.lst [])) lr = some (.lst []) := Zdp
 dsimp only [Zd1]
 generalize upd H1 lr (.lst []) = H2 at s2 e2 ⊢
 refine ⟨z0, fun lk h3 => ?_⟩
 have s3 := Zdr h3 (.lst [])
 have e3 : (upd H2 lk (.lst [])) lk = some (.lst []) := Zdp
 dsimp only [Zd1]
 generalize upd H2 lk (.lst []) = H3 at s3 e3 ⊢
 refine ⟨z0, fun ld h4 => ?_⟩
 have s4 := Zdr h4 (.lst [])
 have e4 : (upd H3 ld (.lst [])) ld = some (.lst []) := Zdp
 dsimp only [Zd1]
 generalize upd H3 ld (.lst []) = H4 at s4 e4 ⊢
 refine ⟨z0, fun lu h5 => ?_⟩
 have s5 := Zdr h5 (.lst [])
 have e5 : (upd H4 lu (.lst [])) lu = some (.lst []) := Zdp
 dsimp only [Zd1]
 generalize upd H4 lu (.lst []) = H5 at s5 e5 ⊢
 refine ⟨z0, fun lt h6 => ?_⟩
 have s6 := Zdr h6 (.lst [])
 have e6 : (upd H5 lt (.lst [])) lt = some (.lst []) := Zdp
 dsimp only [Zd1]
 generalize upd H5 lt (.lst []) = H6 at s6 e6 ⊢
 obtain ⟨a, rfl, rfl, rfl, rfl, rfl, rfl⟩ : ∃ a : Ad, a.n = ln /\ a.r = lr /\ a.k = lk /\ a.d = ld /\ a.u = lu /\ a.t = lt := ⟨⟨ln, lr, lk, ld, lu, lt⟩, rfl, rfl, rfl, rfl, rfl, rfl⟩
 have S12 := s1.trans s2
 have S13 := S12.trans s3
 have S14 := S13.trans s4
 have S15 := S14.trans s5
 have S16 := S15.trans s6
 have ph0 : PL H H6 a [] [] [] [] [] [] [] [] := by
  refine ⟨S16, ?_, ?_, (s2.trans (s3.trans (s4.trans (s5.trans s6)))) _ _ e1, (s3.trans (s4.trans (s5.trans s6))) _ _ e2, (s4.trans (s5.trans s6)) _ _ e3, .nil, (s5.trans s6) _ _ e4, rfl, fun i x ks h => (by cases h), s6 _ _ e5, .nil, e6, .nil⟩
  ·have n12 : a.n ≠ a.r := Zdv e1 h2
   have n13 : a.n ≠ a.k := Zdv (s2 _ _ e1) h3
   have n14 : a.n ≠ a.d := Zdv ((s2.trans s3) _ _ e1) h4
   have n15 : a.n ≠ a.u := Zdv ((s2.trans (s3.trans s4)) _ _ e1) h5
   have n16 : a.n ≠ a.t := Zdv ((s2.trans (s3.trans (s4.trans s5))) _ _ e1) h6
   have n23 : a.r ≠ a.k := Zdv e2 h3
   have n24 : a.r ≠ a.d := Zdv (s3 _ _ e2) h4
   have n25 : a.r ≠ a.u := Zdv ((s3.trans s4) _ _ e2) h5
   have n26 : a.r ≠ a.t := Zdv ((s3.trans (s4.trans s5)) _ _ e2) h6
   have n34 : a.k ≠ a.d := Zdv e3 h4
   have n35 : a.k ≠ a.u := Zdv (s4 _ _ e3) h5
   have n36 : a.k ≠ a.t := Zdv ((s4.trans s5) _ _ e3) h6
   have n45 : a.d ≠ a.u := Zdv e4 h5
   have n46 : a.d ≠ a.t := Zdv (s5 _ _ e4) h6
   have n56 : a.u ≠ a.t := Zdv e5 h6
   simp [Ad.l, n12, n13, n14, n15, n16, n23, n24, n25, n26, n34, n35, n36, n45, n46, n56]
  ·intro x hx
   rw [Zas] at hx
   unfold Ad.l at hx
   simp only [Zag, Za1, or_false] at hx
   rcases hx with rfl | rfl | rfl | rfl | rfl | rfl
   ·exact h1
   ·exact s1.free h2
   ·exact S12.free h3
   ·exact S13.free h4
   ·exact S14.free h5
   ·exact S15.free h6
 refine Zjl (FinP H W C ws seed a) ?_ ?_
 ·rintro σ H7 ⟨names, roots, L, KA, kv, uv, o9, o10, o11, o12, o13, o14, o15, o16, o17, o18, rfl, ph, mi, hnm⟩
  have kvl := ZfE ph.kd
  rw [Zar, Zar] at kvl
  have Ll := mi.sz
  have dl := ph.dl
  rw [Zar] at dl
  refine ⟨a.k, _, rfl, .inl (SqL.of ph.k), _, rfl, by omega, by omega, fun D hD => ?_⟩
  refine ZgF ((kv.length : Int).toNat) (by omega) (fun xs Hc => Ims Hc xs ((L.take xs.length).map fun nd : Nd => nd.ro.d)) (fun xs H H' h tk => h.mono tk) hD rfl (fun k H _ h => Zg4 h) (fun H _ => ZbV _) .nil ?_ ?_
  ·intro k H8 v H9 xs Z S hk y hx hxl hZ
   obtain ⟨rfl, rfl⟩ := y
   have hkL : k < L.length := by omega
   obtain ⟨nd, hnd⟩ : ∃ nd, L[k]? = some nd := ⟨_, Za0 hkL⟩
   obtain ⟨v0, hv0⟩ : ∃ v0, kv[k]? = some v0 := ⟨_, Za0 (by omega)⟩
   obtain ⟨d, hd, hdt⟩ := Zhh ph.kd hv0
   rw [Zaz, Zaz, hnd] at hd
   cases hd
   obtain ⟨st, hh, mv, hs, rfl, est, dmo, _, _⟩ := ZnV hdt
   have est := S _ _ (Zeh _ _ est)
   have e0 : atI kv (0 + (k : Int)) = some (.ref st) := by rw [Zdb]; exact Zdw hv0
   obtain ⟨x, hx0⟩ : ∃ x, KA[k]? = some x := ⟨_, Za0 (by omega)⟩
   have e1 : atI (KA.map V.ref) (0 + (k : Int)) = some (.ref x) := by rw [Zdb]; exact Zdw (by rw [Zaz, hx0]; rfl)
   have ek := S _ _ ph.k
   refine ⟨_, ek, Zdx e0 ⟨_, est, Zdx (Zdw (j := 0) rfl) ⟨_, ek, Zdx e0 ⟨_, est, Zdx (Zdw (j := 1) rfl) ⟨_, S _ _ ph.d, Zdx e1 ⟨nd.κ, mv, x, nd.kids.map fun k : Nat => (k : Int), rfl, (mi.ok nd (ZaA hnd)).1, by rw [Zar]; exact mi.toMI0.full hnd, (dmo.same Zeh).same S, ?_, fun t H' S' im => hZ _ _ S' ?_⟩⟩⟩⟩⟩⟩
   ·rw [Zbr]
    exact S _ _ (ph.dk k x nd.kids hx0 (by rw [Zaz, hnd]; rfl))
   ·rw [ZaB, ZaQ, Zbd, hxl, hnd, ZaV]
    rw [hxl] at hx
    exact (hx.mono (ZdH.tk S')).app (.cons im .nil)
  ·intro H8 xs S hx hxl e
   rw [hxl, Za8 (by omega)] at hx
   refine ⟨(by show 5 <= sizeLine; decide), fun t ht => ?_⟩
   have st := Zdr ht (.tup [.ref a.n, .ref a.r, .ref D, .ref a.u, .ref a.d])
   have S8 := S.trans st
   have nn : names.Nodup := by rw [hnm]; exact Zrv wd.2.1 wd.2.2.1 seed (by have := mi.nl; omega)
   have nne : ∀ n ∈ names, n ≠ "none" := fun n hn => by
    rw [hnm] at hn
    obtain ⟨k, _, rfl⟩ := ZaS.mp hn
    exact ZjY (wd.2.2.2 _ (Zml wd.2.1 (Zdc _ (by decide)) (Zdd _ (by decide)))).2
   refine q t names roots L _ (ph.S.trans S8) ((ph.S.trans S).free ht) mi nn nne ⟨a.n, a.r, D, a.u, a.d, xs, uv, KA, Zdp, S8 _ _ ph.n, S8 _ _ ph.r, st _ _ e, hx.mono (ZdH.tk st), S8 _ _ ph.u, ?_, S8 _ _ ph.d, dl, fun i x nd h1 h2 => S8 _ _ (ph.dk i x nd.kids h1 (by rw [Zaz, h2]; rfl))⟩
   have := ph.ud
   rw [Zbr] at this
   exact this.mono (ZdH.tk S8)
 ·intro Nx hNx
  refine ⟨WI H W C ws seed a, ⟨151, [], [], [], [], [], [], [], [], 0, none, none, none, none, none, none, none, none, none, rfl, Int.le_refl _, ph0, MI.nil, rfl, fun t ht => (by cases ht), rfl⟩, ?_⟩
  rintro m σ H7 ⟨names, roots, L, T', KA, kv, tv, uv, f, o10, o11, o12, o13, o14, o15, o16, o17, o18, rfl, f0, ph, mi, hnm, hb, rfl⟩
  have kvl := ZfE ph.kd
  rw [Zar, Zar] at kvl
  have tvl := ZfE ph.td
  rw [Zar] at tvl
  have uvl := ph.ud.length
  rw [Zar, Zar] at uvl
  have dl := ph.dl
  rw [Zar] at dl
  have Ll := mi.sz
  have nl := mi.nl
  have eC7 := ph.S _ _ eC
  refine or3 (decide (f < (cs.length : Int))) (decide (0 < T'.length)) (decide (names.length = 0)) (fun R h => ⟨C, _, rfl, .inl (SqL.of eC7), ?_⟩) (fun R h => ⟨a.t, _, rfl, .inl (SqL.of ph.t), ?_⟩) (fun R h => ⟨a.n, _, rfl, .inl (SqL.of ph.n), ?_⟩) ?_
  ·show R (decide (f < (((cs.map V.int).length : Nat) : Int))) H7
   rw [Zar]; exact h
  ·show R (decide ((0 : Int) < ((tv.reverse.length : Nat) : Int))) H7
   rw [Zbb, tvl, show decide ((0 : Int) < (T'.length : Int)) = decide (0 < T'.length) from decide_eq_decide.mpr (by omega)]; exact h
  ·show R (false ^^ decide ((((names.map V.str).length : Nat) : Int) = 0)) H7
   rw [Zc4, Zar, show decide ((names.length : Int) = 0) = decide (names.length = 0) from decide_eq_decide.mpr (by omega)]; exact h
  cases hbb : (decide (f < (cs.length : Int)) || (decide (0 < T'.length) || decide (names.length = 0))) with
  | false =>
   rw [Zc6, Zc6, decide_eq_false_iff_not, decide_eq_false_iff_not, decide_eq_false_iff_not] at hbb
   have hT : T' = [] := Zbg (by omega)
   subst hT
   have htv : tv = [] := Zbg tvl
   subst htv
   exact Zet (hNx _ _ ⟨names, roots, L, KA, kv, uv, _, _, _, _, _, _, _, _, _, _, rfl, ph, mi, hnm⟩)
  | true =>
   refine Zfq ⟨fun σ' H' => ∃ m', m' < 151 - L.length /\ WI H W C ws seed a m' σ' H', fun _ _ h => h, ?_⟩
   refine ⟨(by show (0 : Int) < 5; decide), ?_⟩
   dsimp only [Zd1]
   refine Zf7 (fun σ' H' => H' = H7 /\ ∃ cell : Int, σ' = [some (.ref W), some (.int seed), some (.ref C), some (.ref a.n), some (.ref a.r), some (.ref a.k), some (.ref a.d), some (.ref a.u), some (.ref a.t), some (.int f), some (.int cell), o11, o12, o13, o14, o15, o16, o17, o18, none]) (decide (f < (cs.length : Int))) (fun R h => ⟨C, _, rfl, .inl (SqL.of eC7), ?_⟩) (fun h N hN => ?_) (fun h N hN => hN _ _ ⟨rfl, _, rfl⟩) ?_
   ·show R (decide (f < (((cs.map V.int).length : Nat) : Int))) H7
    rw [Zar]; exact h
   ·have hf := of_decide_eq_true h
    obtain ⟨c, hc⟩ : ∃ c, cs[f.toNat]? = some c := ⟨_, Za0 (by omega)⟩
    have hat : atI (cs.map V.int) f = some (.int c) := by
     have e : f = ((f.toNat : Nat) : Int) := by omega
     rw [e]
     exact Zdw (by rw [Zaz, hc]; rfl)
    exact ⟨_, eC7, Zdx hat ⟨⟨by decide, by decide, by decide⟩, (by show (0 : Int) < 10 ^ (64 : Int).toNat; decide +kernel), hN _ _ ⟨rfl, _, rfl⟩⟩⟩
   rintro σ H7 ⟨rfl, cell, rfl⟩
   refine Znl rfl ?_
   refine Zf7 (fun σ' H8 => σ' = [some (.ref W), some (.int seed), some (.ref C), some (.ref a.n), some (.ref a.r), some (.ref a.k), some (.ref a.d), some (.ref a.u), some (.ref a.t), some (.int (f + 1)), some (.int cell), o11, o12, o13, o14, o15, o16, o17, o18, none] /\ ∃ (names' : List Str) (roots' : List Nat) (t : Td) (T1 : List Td) (v : V) (tv1 : List V), PL H H8 a KA kv (v :: tv1) uv names' roots' L (t :: T1) /\ t.held.length <= 20 + L.length /\ (∀ u ∈ T1, u.held.length <= 20 + L.length) /\ names' = (Zaa names'.length).map (nmF ws seed) /\ ZqL names' roots' L t T1) (decide (T'.length = 0)) (fun R h => ⟨a.t, _, rfl, .inl (SqL.of ph.t), ?_⟩) (fun h N hN => ?_) (fun h N hN => ?_) ?_
   ·show R (false ^^ decide (((tv.reverse.length : Nat) : Int) = 0)) H7
    rw [Zc4, Zbb, tvl, show decide ((T'.length : Int) = 0) = decide (T'.length = 0) from decide_eq_decide.mpr (by omega)]; exact h
   ·have hT : T' = [] := Zbg (of_decide_eq_true h)
    subst hT
    have htv : tv = [] := Zbg tvl
    subst htv
    refine ifc (decide (names.length = 12) || decide (140 < L.length)) (fun R h => or2 _ _ (fun R h => ⟨a.n, _, rfl, .inl (SqL.of ph.n), (by
     show R (false ^^ decide ((((names.map V.str).length : Nat) : Int) = 12)) H7
     rw [Zc4, Zar, show decide ((names.length : Int) = 12) = decide (names.length = 12) from decide_eq_decide.mpr (by omega)]; exact h)⟩) (fun R h => ⟨a.k, _, rfl, .inl (SqL.of ph.k), (by
     show R (decide ((140 : Int) < (kv.length : Int))) H7
     rw [kvl, show decide ((140 : Int) < (L.length : Int)) = decide (140 < L.length) from decide_eq_decide.mpr (by omega)]; exact h)⟩) h) ?_
    cases hb2 : (decide (names.length = 12) || decide (140 < L.length)) with
    | true => exact Zfq (hNx _ _ ⟨names, roots, L, KA, kv, uv, _, _, _, _, _, _, _, _, _, _, rfl, ph, mi, hnm⟩)
    | false =>
     rw [Zc6, decide_eq_false_iff_not, decide_eq_false_iff_not] at hb2
     refine Zet ?_
     dsimp only [ZgW]
     refine ⟨⟨_, ph.t⟩, a.n, _, rfl, .inl (SqL.of ph.n), _, rfl, by rw [Zar]; omega, by rw [Zar]; omega, fun D hD => ?_⟩
     refine ZgF ((((names.map V.str).length : Nat) : Int).toNat) (by rw [Zar]; omega) (fun xs Hc => Ims Hc xs ((defs names xs.length).map prD)) (fun xs H H' h tk => h.mono tk) hD rfl (fun k H _ h => Zg4 h) (fun H _ => ZbV _) .nil ?_ ?_
     ·intro k H8 v H9 xs Z S hk y hx hxl hZ
      obtain ⟨rfl, rfl⟩ := y
      rw [Zdb]
      have hkn : k < names.length := by rw [Zar] at hk; omega
      have hat : atI (names.map V.str) (k : Int) = some (.str (names.getD k "")) := Zdw (by rw [Zaz, Za3, Za0 hkn]; rfl)
      refine ⟨_, S _ _ ph.n, Zdx hat ⟨(by show 2 <= sizeLine; decide), fun p1 hp1 => ⟨(by show 2 <= sizeLine; decide), fun p2 hp2 => hZ _ _ ((Zdr hp1 _).trans (Zdr hp2 _)) ?_⟩⟩⟩
      rw [ZaB, ZaQ, Zmt, ZaV, hxl]
      rw [hxl] at hx
      exact (hx.mono (ZdH.tk ((Zdr hp1 _).trans (Zdr hp2 _)))).app (.cons (.tup Zdp (.cons (.flat rfl) (.cons (.tup (Zdr hp2 _ _ _ Zdp) (.cons (.flat rfl) (.cons (.flat rfl) .nil))) .nil))) .nil)
     ·intro H8 xs S hx hxl eD
      rw [hxl, Zar] at hx
      refine ⟨1, rfl, (by show 5 <= sizeLine; decide), fun e he => ?_⟩
      have s9 := Zdr he (.lst [.ref D, .non, .str "", .int (-1), .int 1])
      have ph9 := (ph.same S).same s9
      have nm : ∀ {x : Addr} {Hx : Hp}, ZdH H7 Hx -> Hx x = none -> x ∉ a.l ++ KA := fun Sx hx z => by
       obtain ⟨o, ho⟩ := ph.all _ z
       rw [Sx _ _ ho] at hx
       cases hx
      refine ⟨_, ph9.t, (by show 0 < sizeLine; decide), ?_⟩
      have ph10 := ph9.todoP (v := .ref e) (t := ⟨defs names names.length, p0, -1, 1, 0⟩) (.lst (ZeF (nm S he) Zdp) (.cons (.lst (ZeF (nm (ZdH.refl _) hD) (s9 _ _ eD)) ((hx.mono (ZdH.tk s9)).mono (Zj4 ph9.lists)).das) (.cons (.flat rfl) (.cons (.flat rfl) (.cons (.flat rfl) (.cons (.flat rfl) .nil))))))
      generalize upd (upd H8 e (.lst [.ref D, .non, .str "", .int (-1), .int 1])) a.t (.lst (([] : List V).reverse ++ [.ref e])) = H10 at ph10 ⊢
      refine ⟨⟨_, ph10.r⟩, a.k, _, rfl, .inl (SqL.of ph10.k), _, ph10.r, by rw [Zar, mi.rl]; omega, ?_⟩
      rw [kvl]
      have ph11 := ph10.rootP L.length
      generalize upd H10 a.r (.lst (roots.map nI ++ [.int (L.length : Int)])) = H11 at ph11 ⊢
      have wd11 := ph11.S _ _ wd.1
      refine ⟨⟨_, ph11.n⟩, a.n, _, rfl, .inl (SqL.of ph11.n), (by show (0 : Int) < 8; decide), .inr ⟨by decide, by decide⟩, .inl ⟨by rw [Zar]; omega, by rw [Zar]; omega⟩, ⟨by decide, by decide⟩, (by show (0 : Int) < 16; decide), _, wd11, Zdx (wat wd.2.1 (Zdc _ (by decide)) (Zdd _ (by decide))) ⟨_, ph11.n, by rw [Zar]; omega, hN _ _ ⟨rfl, names ++ [_], roots ++ [L.length], _, [], _, [], ph11.nameP _, ?_, fun u hu => (by cases hu), ?_, .inr ⟨names, roots, _, rfl, rfl, rfl, rfl, rfl, rfl, mi, by omega, by omega⟩⟩⟩⟩
      ·show (defs names names.length).length <= _
       rw [Znm]
       omega
      ·rw [ZaB, ZaQ, Zbl, ZaV, <- hnm, Zar]
       rfl
   ·have hT : T'.length ≠ 0 := of_decide_eq_false h
    cases T' with
    | nil => exact absurd rfl hT
    | cons t T1 =>
     cases tv with
     | nil => cases tvl
     | cons v tv1 =>
      obtain ⟨p, nd, h1, h2, _⟩ := mi.tds t Zae
      exact hN _ _ ⟨rfl, names, roots, t, T1, v, tv1, ph, hb t Zae, fun u hu => hb u (Zaf _ hu), hnm, .inl ⟨p, nd, h1, h2, mi⟩⟩
   rintro σ H8 ⟨rfl, names', roots', t, T1, v, tv1, ph8, ht20, hT20, hnm', md⟩
   obtain ⟨L1, hk1, hk2, nne, nl', hok, sz1, step⟩ := md.step
   have tdh := ph8.td
   obtain ⟨dv, dtl⟩ : Dta (Zfn H8 (a.l ++ KA)) v t.d /\ Zga (Zfn H8 (a.l ++ KA)) tv1 (T1.map Td.d) := by
    cases tdh with
    | cons x y => exact ⟨x, y⟩
   obtain ⟨e, hl, hv, rfl, ee, ehl, dh⟩ := Zqs dv
   have et8 := ph8.t
   rw [ZaM] at et8
   refine ⟨.inl ⟨rfl, _, SqL.of et8⟩, a.t, _, .ref e, rfl, rfl, et8, by rw [ZaB, ZaQ, Zb2, Zax (ZbV _), Zb3]; rfl, ?_⟩
   rw [ZbM]
   have ph9 := ph8.todo dtl
   have SM := Zd5 (H := H8) (M := a.l ++ KA) (l := a.t) (o := .lst tv1.reverse) PH.memT
   generalize upd H8 a.t (.lst tv1.reverse) = H9 at ph9 SM ⊢
   have ee9 := SM _ _ ee
   have ehl9 := SM _ _ ehl
   have dh9 := dh.same SM
   refine ⟨e, _, rfl, SqL.of (Zeh _ _ ee9), rfl, _, _, rfl, _, _, rfl, _, _, rfl, _, _, rfl, _, _, rfl, rfl, ?_⟩
   refine ⟨a.k, _, rfl, .inl (SqL.of ph9.k), ?_⟩
   rw [kvl]
   dsimp only [Zd1]
   have tv1l := ZfE dtl
   rw [Zar] at tv1l
   have L1l : L1.length = L.length := by
    by_cases z : 0 <= t.par
    ·obtain ⟨p, nd, _, _, h⟩ := hk1 z
     rw [h, Zec]
    ·rw [(hk2 (by omega)).1]
   have im9 := Zks dh9
   refine Zf7 (fun σ' H' => σ' = [some (.ref W), some (.int seed), some (.ref C), some (.ref a.n), some (.ref a.r), some (.ref a.k), some (.ref a.d), some (.ref a.u), some (.ref a.t), some (.int (f + 1)), some (.int cell), some (.ref hl), some (hoV t.ho.1), some (.str t.ho.2), some (.int t.par), some (.int t.dep), some (.int (L.length : Int)), o17, o18, none] /\ PL H H' a KA kv tv1 uv names' roots' L1 T1 /\ ZdH (Zfn H9 (a.l ++ KA)) H') (decide (0 <= t.par)) (fun R h => h) (fun h N hN => ?_) (fun h N hN => ?_) ?_
   ·obtain ⟨p, nd, tp, hp, eL1⟩ := hk1 (of_decide_eq_true h)
    have plt := (Zaj.mp hp).1
    obtain ⟨x, hx⟩ : ∃ x, KA[p]? = some x := ⟨_, Za0 (by omega)⟩
    have hat : atI (KA.map V.ref) t.par = some (.ref x) := by rw [tp]; exact Zdw (by rw [Zaz, hx]; rfl)
    have hkp : (L.map Nd.kids)[p]? = some nd.kids := by rw [Zaz, hp]; rfl
    have ex := ph9.dk p x nd.kids hx hkp
    have mx : x ∈ a.l ++ KA := Zan _ (ZaA hx)
    have kl : nd.kids.length <= 1000 := by
     have h1 := (Zqr md hp)
     omega
    refine ⟨_, ph9.d, Zdx hat ⟨⟨_, ex⟩, _, ex, by rw [Zar]; omega, hN _ _ ⟨rfl, ?_, fun b u eb => ?_⟩⟩⟩
    ·have := ph9.kidP L.length hx hkp
     unfold PL
     rw [eL1, addK_κ, Znk, Zms hp]
     exact this
    ·have bx : b ≠ x := fun z => (Zea eb).1 (z ▸ mx)
     rw [Zdt bx]
     exact (Zea eb).2
   ·exact hN _ _ ⟨rfl, by rw [(hk2 (by have := of_decide_eq_false h; omega)).1]; exact ph9, Zeh⟩
   rintro σ Hq ⟨rfl, phq, SF⟩
   have ehq := SF _ _ ehl9
   have imq := im9.mono (ZdH.tk SF)
   have nhl : hl ∉ a.l ++ KA := (Zea ehl9).1
   have hvl := im9.length
   rw [Zar] at hvl
   have cat : ∀ (w : Str) (how : Str) (k : Int) (N : St -> Hp -> Prop), t.held ++ [(w, (how, k))] = ZeI L t -> hoV t.ho.1 = .str w -> (∀ σ' H', (∃ (hl' : Addr) (hv' : List V), σ' = [some (.ref W), some (.int seed), some (.ref C), some (.ref a.n), some (.ref a.r), some (.ref a.k), some (.ref a.d), some (.ref a.u), some (.ref a.t), some (.int (f + 1)), some (.int cell), some (.ref hl'), some (hoV t.ho.1), some (.str t.ho.2), some (.int t.par), some (.int t.dep), some (.int (L.length : Int)), o17, o18, none] /\ PL H H' a KA kv tv1 uv names' roots' L1 T1 /\ H' hl' = some (.lst hv') /\ hl' ∉ a.l ++ KA /\ Ims H' hv' ((ZeI L t).map prD)) -> N σ' H') ->
     2 <= sizeLine /\ ∀ p1, Hq p1 = none -> 2 <= sizeLine /\ ∀ p2, (upd Hq p1 (.tup [.str how, .int k])) p2 = none -> 1 <= sizeLine /\ ∀ l3, (upd (upd Hq p1 (.tup [.str how, .int k])) p2 (.tup [hoV t.ho.1, .ref p1])) l3 = none -> ∃ (l b : Addr) (xs zs : List V), V.ref hl = .ref l /\ V.ref l3 = .ref b /\ (upd (upd (upd Hq p1 (.tup [.str how, .int k])) p2 (.tup [hoV t.ho.1, .ref p1])) l3 (.lst [.ref p2])) l = some (.lst xs) /\ (upd (upd (upd Hq p1 (.tup [.str how, .int k])) p2 (.tup [hoV t.ho.1, .ref p1])) l3 (.lst [.ref p2])) b = some (.lst zs) /\ xs.length + zs.length <= sizeLine /\ ∀ p, (upd (upd (upd Hq p1 (.tup [.str how, .int k])) p2 (.tup [hoV t.ho.1, .ref p1])) l3 (.lst [.ref p2])) p = none -> N [some (.ref W), some (.int seed), some (.ref C), some (.ref a.n), some (.ref a.r), some (.ref a.k), some (.ref a.d), some (.ref a.u), some (.ref a.t), some (.int (f + 1)), some (.int cell), some (.ref p), some (hoV t.ho.1), some (.str t.ho.2), some (.int t.par), some (.int t.dep), some (.int (L.length : Int)), o17, o18, none] (upd (upd (upd (upd Hq p1 (.tup [.str how, .int k])) p2 (.tup [hoV t.ho.1, .ref p1])) l3 (.lst [.ref p2])) p (.lst (xs ++ zs))) := fun w how k N eH eW hN => by
    refine ⟨by decide, fun p1 h1 => ⟨by decide, fun p2 h2 => ⟨by decide, fun l3 h3 => ?_⟩⟩⟩
    have t1 := Zdr h1 (.tup [.str how, .int k])
    have t2 := Zdr h2 (.tup [hoV t.ho.1, .ref p1])
    have t3 := Zdr h3 (.lst [.ref p2])
    have t13 := (t1.trans t2).trans t3
    refine ⟨hl, l3, hv, [.ref p2], rfl, rfl, t13 _ _ ehq, Zdp, by show hv.length + 1 <= sizeLine; omega, fun p hp => ?_⟩
    have t4 := Zdr hp (.lst (hv ++ [.ref p2]))
    have t14 := t13.trans t4
    refine hN _ _ ⟨p, hv ++ [.ref p2], rfl, phq.same t14, Zdp, fun z => ?_, ?_⟩
    ·obtain ⟨o, ho⟩ := phq.all _ z
     rw [t13 _ _ ho] at hp
     cases hp
    ·rw [<- eH, ZaV]
     refine (imq.mono (ZdH.tk t14)).app (.cons (.tup ((t3.trans t4) _ _ Zdp) ?_) .nil)
     have i1 : ∀ Hx, Im Hx (hoV t.ho.1) (sD w) := fun Hx => by rw [eW]; exact .flat rfl
     exact .cons (i1 _) (.cons (.tup ((t2.trans (t3.trans t4)) _ _ Zdp) (.cons (.flat rfl) (.cons (.flat rfl) .nil))) .nil)
   refine Zf7 (fun σ' H' => ∃ (hl' : Addr) (hv' : List V), σ' = [some (.ref W), some (.int seed), some (.ref C), some (.ref a.n), some (.ref a.r), some (.ref a.k), some (.ref a.d), some (.ref a.u), some (.ref a.t), some (.int (f + 1)), some (.int cell), some (.ref hl'), some (hoV t.ho.1), some (.str t.ho.2), some (.int t.par), some (.int t.dep), some (.int (L.length : Int)), o17, o18, none] /\ PL H H' a KA kv tv1 uv names' roots' L1 T1 /\ H' hl' = some (.lst hv') /\ hl' ∉ a.l ++ KA /\ Ims H' hv' ((ZeI L t).map prD)) (decide (t.ho.2 = "let")) (fun R h => by show R (false ^^ decide (t.ho.2 = "let")) Hq; rw [Zc4]; exact h) (fun h N hN => ?_) (fun h N hN => ?_) ?_
   ·have e2 := of_decide_eq_true h
    rcases hok with h0 | ⟨w, how, h0, h1⟩
    ·rw [h0] at e2
     exact absurd e2 (show ("" : Str) ≠ "let" from by decide +kernel)
    ·have e3 : how = "let" := by rw [h0] at e2; exact e2
     refine cat w "let" (t.par + 1) N ?_ (by rw [h0]; rfl) hN
     unfold ZeI exL
     rw [h0, e3]
     show _ = _ ++ (match (some (w, (("let" : Str), if ("let" : Str) = "let" then t.par + 1 else (L.length : Int))) : Option (Str × Hm)) with | none => [] | some p => [p])
     rw [if_pos rfl]
   ·have e2 := of_decide_eq_false h
    rcases hok with h0 | ⟨w, how, h0, h1⟩
    ·refine (?_ : ZiL _ _ _ _ _ _)
     show (if (true ^^ decide (t.ho.2 = "")) = true then _ else _)
     rw [h0]
     rw [show (true ^^ decide ((p0 : Hol).2 = "")) = false from (show (true ^^ decide (("" : Str) = "")) = false from by decide +kernel)]
     refine Zet (hN _ _ ⟨hl, hv, by rw [h0], phq, ehq, nhl, ?_⟩)
     have : ZeI L t = t.held := by unfold ZeI; rw [h0]; show _ ++ [] = _; rw [Zas]
     rw [this]
     exact imq
    ·have hne : how ≠ "" := by rcases h1 with rfl | rfl | rfl <;> decide +kernel
     have hnl : how ≠ "let" := fun z => e2 (by rw [h0]; exact z)
     show (if (true ^^ decide (t.ho.2 = "")) = true then _ else _)
     rw [decide_eq_false (show ¬ t.ho.2 = "" from by rw [h0]; exact hne)]
     refine Zfq (?_ : Zpe _ _ _ _ _)
     have := cat w t.ho.2 (L.length : Int) N ?_ (by rw [h0]; rfl) hN
     ·exact this
     ·unfold ZeI exL
      rw [h0]
      show _ = _ ++ (match (some (w, (how, if how = "let" then t.par + 1 else (L.length : Int))) : Option (Str × Hm)) with | none => [] | some p => [p])
      rw [if_neg hnl]
   rintro σ H9b ⟨hl', hv', rfl, ph9b, el9, nl9, im9b⟩
   have hv9 := im9b.length
   rw [Zar] at hv9
   have hxl : (ZeI L t).length <= t.held.length + 1 := by
    unfold ZeI
    rw [ZaB]
    have := Zo0 (t.par + 1) (L.length : Int) t.ho
    omega
   have wd9 : Wd H9b W ws := ⟨ph9b.S _ _ wd.1, wd.2⟩
   have c01 : ∀ b : Bool, Zps (150 - (L.length : Int) - ((tv1.reverse.length : Nat) : Int)) (if b = true then 1 else 0) := fun b => .inr (by cases b <;> exact ⟨by decide, by decide⟩)
   refine ⟨a.t, _, rfl, .inl (SqL.of ph9b.t), .inr ⟨_, rfl, c01 _, W, hl', ws, ZeI L t, hv', cell, _, rfl, wd9, el9, im9b, by omega, fun r κ H10 S10 dk kok h9 h8 hnm9 => ?_⟩⟩
   have h141 : κ.ho ≠ [] -> L.length + T1.length <= 141 := fun z => by
    have := h9 z
    rw [Zbb, tv1l] at this
    by_cases y : t.dep < 24
    ·rw [decide_eq_true y, if_pos rfl] at this
     omega
    ·rw [decide_eq_false y, if_neg ZcY] at this
     omega
   have all9 := ph9b.all
   have ph10 := ph9b.same S10
   dsimp only [Zd1]
   refine ⟨⟨_, ph10.k⟩, _, ph10.k, by omega, ?_⟩
   have ph11 := ph10.kindP (dk.same (Znh all9))
   have nN : ∀ {x : Addr}, x ∈ a.l ++ KA -> Zgb H9b H10 x = none := fun hx => by obtain ⟨o, ho⟩ := all9 _ hx; exact Zmu ho
   have SN11 : ZdH (Zgb H9b H10) (upd H10 a.k (.lst (kv ++ [.ref r]))) := ZdP Zno (nN PH.memK) _
   have nlk : ∀ {x : Addr}, x ∈ a.l ++ KA -> hl' ≠ x := fun hx z => nl9 (z ▸ hx)
   have el11 : (upd H10 a.k (.lst (kv ++ [.ref r]))) hl' = some (.lst hv') := by rw [Zdt (nlk PH.memK)]; exact S10 _ _ el9
   have im11 : Ims (upd H10 a.k (.lst (kv ++ [.ref r]))) hv' ((ZeI L t).map prD) := (im9b.mono (ZdH.tk S10)).mono (ZfD ph10.k (fun zs z => nomatch z))
   generalize upd H10 a.k (.lst (kv ++ [.ref r])) = H11 at ph11 SN11 el11 im11 ⊢
   refine ⟨⟨_, ph11.d⟩, z0, fun x hx => ⟨_, (Zdr hx _) _ _ ph11.d, by rw [Zar]; omega, ?_⟩⟩
   have ph12 := ph11.kidsP hx
   have sx := Zdr hx (.lst [])
   have SN12 : ZdH (Zgb H9b H10) (upd (upd H11 x (.lst [])) a.d (.lst (KA.map V.ref ++ [.ref x]))) := ZdP (SN11.trans sx) (nN PH.memD) _
   have nx : hl' ≠ x := Zdv el11 hx
   have el12 : (upd (upd H11 x (.lst [])) a.d (.lst (KA.map V.ref ++ [.ref x]))) hl' = some (.lst hv') := by rw [Zdt (nlk PH.memD)]; exact sx _ _ el11
   have im12 : Ims (upd (upd H11 x (.lst [])) a.d (.lst (KA.map V.ref ++ [.ref x]))) hv' ((ZeI L t).map prD) := (im11.mono (ZdH.tk sx)).mono (ZfD (sx _ _ ph11.d) (fun zs z => nomatch z))
   generalize upd (upd H11 x (.lst [])) a.d (.lst (KA.map V.ref ++ [.ref x])) = H12 at ph12 SN12 el12 im12 ⊢
   refine ⟨⟨_, ph12.u⟩, hl', r, ZeI L t, hv', κ, rfl, kok.1, el12, im12, dk.same SN12, fun vd hvd => ⟨_, ph12.u, by omega, ?_⟩⟩
   have ph13 := ph12.dueP hvd
   have SN13 : ZdH (Zgb H9b H10) (upd H12 a.u (.lst (uv ++ [vd]))) := ZdP SN12 (nN PH.memU) _
   have el13 : (upd H12 a.u (.lst (uv ++ [vd]))) hl' = some (.lst hv') := by rw [Zdt (nlk PH.memU)]; exact el12
   have im13 : Ims (upd H12 a.u (.lst (uv ++ [vd]))) hv' ((ZeI L t).map prD) := im12.mono (ZfD ph12.u (fun zs z => nomatch z))
   generalize upd H12 a.u (.lst (uv ++ [vd])) = H13 at ph13 SN13 el13 im13 ⊢
   have nl13 : hl' ∉ a.l ++ (KA ++ [x]) := fun z => by
    rw [<- ZaP] at z
    rcases Zah.mp z with z | z
    ·exact nl9 z
    ·exact nx (ZaU.mp z)
   obtain ⟨r', hh, mv, hs, er', eN, _, ehh, dhs⟩ := ZnV dk
   cases er'
   have nn1 : names'.length - 1 < names'.length := by
    have : names'.length ≠ 0 := fun z => nne (Zbg z)
    omega
   dsimp only
   refine Zf7 (fun σ' H' => ∃ (ho : Addr) (hov : List V), σ' = [some (.ref W), some (.int seed), some (.ref C), some (.ref a.n), some (.ref a.r), some (.ref a.k), some (.ref a.d), some (.ref a.u), some (.ref a.t), some (.int (f + 1)), some (.int cell), some (.ref ho), some (hoV t.ho.1), some (.str t.ho.2), some (.int t.par), some (.int t.dep), some (.int (L.length : Int)), some (.ref r), o18, none] /\ PH H H' a (KA ++ [x]) (kv ++ [.ref r]) tv1 (uv ++ [vd]) names' roots' (L1.map Nd.κ ++ [κ]) (L1.map Nd.kids ++ [[]]) ((L1.map fun nd => ZgA nd.κ nd.out) ++ [ZgA κ (ZeI L t)]) T1 /\ H' ho = some (.lst hov) /\ ho ∉ a.l ++ (KA ++ [x]) /\ Ims H' hov ((ZeI L t ++ ZhW names' t κ).map prD) /\ ZdH (Zgb H9b H10) H') (decide (t.par < 0) && decide (κ.s = "fn")) (fun R h => ?_) (fun h N hN => ?_) (fun h N hN => ?_) ?_
   ·refine ZrI (decide (t.par < 0)) (decide (κ.s = "fn")) (fun R h => h) (fun R h => ?_) h
    refine ⟨_, SN13 _ _ eN, Zdx (Zdw (j := 0) rfl) ?_⟩
    show R (false ^^ decide (κ.s = "fn")) H13
    rw [Zc4]
    exact h
   ·rw [Zc2, decide_eq_true_eq, ZnW kok.1] at h
    have own : ZhW names' t κ = [(names'.getD (names'.length - 1) "", (("def" : Str), ((names'.length - 1 : Nat) : Int)))] := by unfold ZhW; rw [if_pos h]
    have e1 : (((names'.map V.str).length : Nat) : Int) - 1 = ((names'.length - 1 : Nat) : Int) := by rw [Zar]; omega
    have hat : atI (names'.map V.str) ((((names'.map V.str).length : Nat) : Int) - 1) = some (.str (names'.getD (names'.length - 1) "")) := by
     rw [e1]
     exact Zdw (by rw [Zaz, Za3, Za0 nn1]; rfl)
    refine ⟨a.n, _, rfl, .inl (SqL.of ph13.n), _, ph13.n, Zdx hat ⟨a.n, _, rfl, .inl (SqL.of ph13.n), (by show 2 <= sizeLine; decide), fun p1 hp1 => ⟨(by show 2 <= sizeLine; decide), fun p2 hp2 => ⟨(by show 1 <= sizeLine; decide), fun l3 hl3 => ?_⟩⟩⟩⟩
    have t1 := Zdr hp1 (.tup [.str "def", .int ((((names'.map V.str).length : Nat) : Int) - 1)])
    have t2 := Zdr hp2 (.tup [.str (names'.getD (names'.length - 1) ""), .ref p1])
    have t3 := Zdr hl3 (.lst [.ref p2])
    have t13 := (t1.trans t2).trans t3
    refine ⟨hl', l3, hv', [.ref p2], rfl, rfl, t13 _ _ el13, Zdp, by show hv'.length + 1 <= sizeLine; omega, fun p hp => ?_⟩
    have t4 := Zdr hp (.lst (hv' ++ [.ref p2]))
    have t14 := t13.trans t4
    refine hN _ _ ⟨p, hv' ++ [.ref p2], rfl, ph13.same t14, Zdp, fun z => ?_, ?_, SN13.trans t14⟩
    ·obtain ⟨o, ho⟩ := ph13.all _ z
     rw [t13 _ _ ho] at hp
     cases hp
    ·rw [own, ZaV]
     have i2 : ∀ Hx, Im Hx (.int ((((names'.map V.str).length : Nat) : Int) - 1)) (.flat (.int ((names'.length - 1 : Nat) : Int))) := fun Hx => by rw [e1]; exact .flat rfl
     exact (im13.mono (ZdH.tk t14)).app (.cons (.tup ((t3.trans t4) _ _ Zdp) (.cons (.flat rfl) (.cons (.tup ((t2.trans (t3.trans t4)) _ _ Zdp) (.cons (.flat rfl) (.cons (i2 _) .nil))) .nil))) .nil)
   ·rw [Bool.and_eq_false_iff, decide_eq_false_iff_not, ZnW kok.1] at h
    have own : ZhW names' t κ = [] := by
     unfold ZhW
     rw [if_neg]
     rintro ⟨z1, z2⟩
     rcases h with h | h
     ·exact h z1
     ·rw [h] at z2; cases z2
    exact hN _ _ ⟨hl', hv', rfl, ph13, el13, nl13, by rw [own, Zas]; exact im13, SN13⟩
   rintro σ H14 ⟨ho, hov, rfl, ph14, eho, nho, imo, SN14⟩
   have hsl := ZfE dhs
   rw [Zar] at hsl
   have NTl := ZgR κ (ZeI L t ++ ZhW names' t κ) L.length (t.dep + 1)
   refine ⟨_, SN14 _ _ eN, Zdx (Zdw (j := 2) rfl) ⟨hh, hs, rfl, SqL.of (SN14 _ _ ehh), ZoY (xs := hs) (fun i σ H15 => ∃ (o18 : Option V) (tv' : List V), σ = [some (.ref W), some (.int seed), some (.ref C), some (.ref a.n), some (.ref a.r), some (.ref a.k), some (.ref a.d), some (.ref a.u), some (.ref a.t), some (.int (f + 1)), some (.int cell), some (.ref ho), some (hoV t.ho.1), some (.str t.ho.2), some (.int t.par), some (.int t.dep), some (.int (L.length : Int)), some (.ref r), o18, none] /\ PH H H15 a (KA ++ [x]) (kv ++ [.ref r]) tv' (uv ++ [vd]) names' roots' (L1.map Nd.κ ++ [κ]) (L1.map Nd.kids ++ [[]]) ((L1.map fun nd => ZgA nd.κ nd.out) ++ [ZgA κ (ZeI L t)]) ((Zig κ (ZeI L t ++ ZhW names' t κ) L.length (t.dep + 1)).drop (hs.length - i) ++ T1) /\ H15 ho = some (.lst hov) /\ Ims H15 hov ((ZeI L t ++ ZhW names' t κ).map prD) /\ ZdH (Zgb H9b H10) H15)
    ⟨o18, tv1, rfl, by rw [Nat.sub_zero, List.drop_of_length_le (by omega), ZaR]; exact ph14, eho, imo, SN14⟩ (fun i σ H15 _ ⟨_, _, _, _, _, _, SN⟩ => SqL.of (SN _ _ ehh)) ?_ ?_⟩⟩
   ·rintro i v σ H15 hi hv ⟨o18', tv', rfl, ph15, eho15, imo15, SN15⟩
    obtain ⟨d, hd, hdv⟩ := Zhh dhs hv
    rw [Zaz] at hd
    obtain ⟨hol, hhol, rfl⟩ := Zb8.mp hd
    obtain ⟨ex, rfl, eex⟩ := Zqt hdv
    have eex15 := SN15 _ _ eex
    refine ⟨⟨_, ph15.t⟩, _, eex15, Zdx (Zdw (j := 0) rfl) ⟨_, eex15, Zdx (Zdw (j := 1) rfl) ⟨(by show 5 <= sizeLine; decide), fun e he => ?_⟩⟩⟩
    have s16 := Zdr he (.lst [.ref ho, hoV hol.1, .str hol.2, .int (L.length : Int), .int (t.dep + 1)])
    have ph16 := ph15.same s16
    have tvl' := ZfE ph15.td
    rw [Zar, ZaB, ZaJ] at tvl'
    have h100 := κ.ho_le kok.1
    have all15 := ph15.all
    have nme : e ∉ a.l ++ (KA ++ [x]) := fun z => by
     obtain ⟨o, hoo⟩ := all15 _ z
     rw [hoo] at he
     cases he
    have drp : (Zig κ (ZeI L t ++ ZhW names' t κ) L.length (t.dep + 1)).drop (hs.length - (i + 1)) = ⟨ZeI L t ++ ZhW names' t κ, hol, (L.length : Int), t.dep + 1, hs.length - 1 - i⟩ :: (Zig κ (ZeI L t ++ ZhW names' t κ) L.length (t.dep + 1)).drop (hs.length - i) := by
     have g := Znn (out := ZeI L t ++ ZhW names' t κ) (n := L.length) (dep := t.dep + 1) hhol
     have e1 : hs.length - (i + 1) = hs.length - 1 - i := by omega
     have e2 : hs.length - i = hs.length - 1 - i + 1 := by omega
     rw [e1, e2]
     obtain ⟨g1, g2⟩ := Zaj.mp g
     rw [Za6 g1, g2]
    refine ⟨_, ph16.t, by rw [Zbb]; omega, _, .ref e :: tv', rfl, ?_, ?_, ?_, ?_⟩
    ·rw [drp, ZaF]
     exact ph16.todoP (.lst (ZeF nme Zdp) (.cons (.lst (ZeF nho (s16 _ _ eho15)) ((imo15.mono (ZdH.tk s16)).mono (Zj4 ph16.lists)).das) (.cons (Zqu _ _) (.cons (.flat rfl) (.cons (.flat rfl) (.cons (.flat rfl) .nil))))))
    ·rw [Zdt (show ho ≠ a.t from fun z => nho (z ▸ PH.memT))]
     exact s16 _ _ eho15
    ·exact (imo15.mono (ZdH.tk s16)).mono (ZfD ph16.t (fun zs z => nomatch z))
    ·exact ZdP (SN15.trans s16) (nN PH.memT) _
   ·rintro σ H15 ⟨o18', tv', rfl, ph15, eho15, imo15, SN15⟩
    rw [Zb3, Za7] at ph15
    have outl : (ZeI L t ++ ZhW names' t κ).length <= 20 + L.length + 1 := by
     rw [ZaB]
     unfold ZhW
     split
     ·rename_i z
      have h0 := (hk2 z.1).2
      have : ZeI L t = t.held := by unfold ZeI; rw [h0]; show _ ++ [] = _; rw [Zas]
      rw [this]
      show _ + 1 <= _
      omega
     ·show _ + 0 <= _
      omega
    refine ⟨151 - (L1 ++ [(⟨κ, [], ZeI L t ++ ZhW names' t κ⟩ : Nd)]).length, by rw [ZaB, ZaQ, L1l]; omega, names', roots', _, _, KA ++ [x], kv ++ [.ref r], tv', uv ++ [vd], f + 1, _, _, _, _, _, _, _, _, _, rfl, by omega, ?_, step κ _ (t.dep + 1) kok h8 h141 hnm9 rfl, hnm', ?_, rfl⟩
    ·unfold PL
     rw [ZaV, ZaV, ZaV]
     show PH _ _ _ _ _ _ _ _ _ _ _ (_ ++ [ZgA κ (ZeI L t ++ ZhW names' t κ)]) _
     rw [ZoZ]
     exact ph15
    ·intro u hu
     rw [ZaB, ZaQ, L1l]
     rcases Zah.mp hu with hu | hu
     ·rw [(ZeJ hu).2.1]
      omega
     ·have := hT20 u hu
      omega
end
theorem Zqv : ∀ {v : V}, Zgd v = true -> eqV v v = true
 | .non, _ => rfl
 | .bl b, _ => by cases b <;> rfl
 | .int i, _ => by simp [eqV]
 | .str z, _ => by simp [eqV]
 | .ref _, h => absurd h ZcY
 | .byt _, h => by first | (simp [eqV]; done) | exact absurd h ZcY
mutual
theorem Zqw {H : Hp} : ∀ {v : V} {d : Dt}, Im H v d -> eqD d d = true /\ ZgE d d = true
 | v, _, .flat h => by
  refine ⟨?_, by simp [ZgE]⟩
  rw [eqD]
  exact Zqv (by cases v <;> first | rfl | cases h)
 | _, _, .tup _ hs => by
  obtain ⟨h1, h2⟩ := Zmv hs
  exact ⟨by rw [eqD]; exact h1, by rw [ZgE]; exact h2⟩
theorem Zmv {H : Hp} : ∀ {v : List V} {d : List Dt}, Ims H v d -> Zjt d d = true /\ Zhu d d = true
 | _, _, .nil => ⟨by rw [Zjt], by simp [Zhu]⟩
 | _, _, .cons h hs => by
  obtain ⟨h1, h2⟩ := Zqw h
  obtain ⟨h3, h4⟩ := Zmv hs
  exact ⟨by rw [Zjt, h1, h3]; rfl, by rw [Zhu, h2, h4]; rfl⟩
end
mutual
theorem Zo1 {K : PySem.W.Frag} {H : Hp} : ∀ {v : V} {d : Dt}, Im H v d -> At K H v d
 | v, _, .flat h => .flat (by cases v <;> first | rfl | cases h)
 | _, _, .tup h hs => .tup (SqT.of h) (Zj5 hs)
theorem Zj5 {K : PySem.W.Frag} {H : Hp} : ∀ {v : List V} {d : List Dt}, Ims H v d -> Ats K H v d
 | _, _, .nil => .nil
 | _, _, .cons h hs => .cons (Zo1 h) (Zj5 hs)
end
theorem Zqx {d : Dt} (h : eqD d d = true) : (if true = true then !eqD d d else eqD d d) = false := by
 rw [if_pos rfl, h]
 rfl
theorem ZnX {K : PySem.W.Frag} {H : Hp} {a : Addr} {xs : List V} {ds : List Dt} (e : H a = some (.lst xs)) (i : Ims H xs ds) : At K H (.ref a) (.lst ds) /\ eqD (.lst ds) (.lst ds) = true /\ ZgE (.lst ds) (.lst ds) = true := by
 obtain ⟨h1, h2⟩ := Zmv i
 exact ⟨.lst (SqL.of e) (Zj5 i), by rw [eqD]; exact h1, by rw [ZgE, if_pos rfl]; exact h2⟩
theorem ZiB (ns : List Int) (lo hi : Option Int) : ∃ ms : List Int, Zh5 (ns.map V.int) lo hi = ms.map V.int /\ ms.length <= ns.length := by
 refine ⟨(ns.drop (HT.Internal.sIx (ns.map V.int).length 0 lo)).take (HT.Internal.sIx (ns.map V.int).length (ns.map V.int).length hi - HT.Internal.sIx (ns.map V.int).length 0 lo), ?_, ?_⟩
 ·unfold Zh5
  rw [<- List.map_drop, <- List.map_take]
 ·rw [Zaw, ZaJ]
  omega
theorem Zo2 {K : PySem.W.Frag} {a b : Addr} {xs ys : List V} {g : TG} {tb : TS} {D : ZfS} {σ : St} {H : Hp} (Pv : Nat -> St -> Hp -> Prop) (h0 : Pv 0 σ H) (hl : ∀ i σ H, i <= xs.length -> Pv i σ H -> SqL K H a xs /\ SqL K H b ys) (hn : ys.length = xs.length)
  (hs : ∀ (i : Nat) (x y : V) (σ : St) (H : Hp) (T : Addr), xs[i]? = some x -> ys[i]? = some y -> Pv i σ H -> H T = none -> g (.ref T) σ (upd H T (.tup [x, y])) fun σ2 H2 => tb { D with nx := Pv (i + 1), ct := Pv (i + 1), bk := D.nx } σ2 H2) (hd : ∀ σ H, Pv xs.length σ H -> D.nx σ H) :
  ∃ W : Nat -> Nat -> St -> Hp -> Prop, (∃ m, W 0 m σ H) /\ ∀ i m σ H, W i m σ H ->
   ((Itz K a b).stop i H /\ D.nx σ H) \/ ((Itz K a b).go i H /\ ∃ N : St -> Hp -> Prop, (∀ σ' H', N σ' H' -> ∃ m', m' < m /\ W (i + 1) m' σ' H') /\ ∀ x H', (Itz K a b).yld i H x H' -> g x σ H' fun σ2 H2 => tb { D with nx := N, ct := N, bk := D.nx } σ2 H2) := by
 refine ⟨fun i m σ H => m = xs.length - i /\ i <= xs.length /\ Pv i σ H, ⟨xs.length, by simp, ZbW _, h0⟩, ?_⟩
 rintro i m σ H ⟨rfl, hi, p⟩
 obtain ⟨q1, q2⟩ := hl i σ H hi p
 by_cases hlt : i < xs.length
 ·refine .inr ⟨⟨xs, ys, xs[i], ys[i]'(by omega), q1, q2, by simp [hlt], Za0 (by omega)⟩, Pv (i + 1), fun σ' H' p' => ⟨xs.length - (i + 1), by omega, rfl, hlt, p'⟩, fun v H' y => ?_⟩
  obtain ⟨T, x, y, rfl, hT, rfl, hx, hy⟩ := y
  exact hs i x y σ H T (hx xs q1) (hy ys q2) p hT
 ·have e : i = xs.length := by omega
  subst e
  exact .inl ⟨⟨xs, ys, q1, q2, by omega⟩, hd σ H p⟩
theorem Zhj {f : Str} {v : V} : ∀ {fs : List (Str × V)} (ns : List Str), fs.map Prod.fst = ns -> f ∉ ns -> Zhe f v fs = fs ++ [(f, v)]
 | [], _, _, _ => rfl
 | p :: t, _, rfl, h => by
  rw [Zaq, Zag, not_or] at h
  have : ¬ p.1 = f := fun z => h.1 z.symm
  simp only [Zhe, if_neg this, ZaF]
  rw [Zhj _ rfl h.2]
section
variable {P : Program} {w : World} {K : PySem.W.Frag} {mg : Str -> Option Value} {base : Heap}
def Zgx (C : Addr) : Sp := fun vs H Q _ => ∃ (x dx n r w : Addr), vs = [.ref x, .ref n, .ref r, .ref w] /\ H x = some (.ins C dx []) /\ Q .non (upd H x (.ins C dx (fP n r w)))
theorem Zgy (T : Txt K mg) : ZfA P w K mg base CX0 1 T.a_Program___init__ T.fd_Program___init__ ["self", "names", "roots", "rows"] (Zgx T.a_Program) := by
 refine T.F_Program___init__.ok Zgv (fun vs H Q E h => ?_) (fun cdv A outer s H vs Q E hr h => ?_)
 ·obtain ⟨x, dx, n, r, w, rfl, _⟩ := h
  rfl
 obtain ⟨x, dx, n, r, w, rfl, hx, q⟩ := h
 refine ⟨_, (Zdo (ZjM T.cl_Program T.n_Program_names (Zll (PE.mono (cv 0)) (PE.mono (cv 1)) rfl))
  (Zdo (ZjM T.cl_Program T.n_Program_roots (Zll (PE.mono (cv 0)) (PE.mono (cv 2)) rfl))
  (Zdu (ZjM T.cl_Program T.n_Program_rows (Zll (PE.mono (cv 0)) (PE.mono (cv 3)) rfl))))), ?_⟩
 refine ⟨dx, _, hx, (by show 0 < 1000; decide), dx, _, Zdp, (by show 1 < 1000; decide), dx, _, Zdp, ?_, ?_⟩
 ·rw [Zhj (f := ("roots" : Str)) ["names"] rfl (by decide +kernel)]; show 2 < 1000; decide
 ·rw [ZgT, ZgT, Zhj (f := ("roots" : Str)) ["names"] rfl (by decide +kernel), Zhj (f := ("rows" : Str)) ["names", "roots"] rfl (by decide +kernel)]
  exact q
def ZiC : Sp := fun vs H Q _ => ∃ (l1 l2 : Addr) (xs us : List V) (ρs : List Ro) (out : Nat -> Str -> Option Hm), vs = [.ref l1, .ref l2] /\ H l1 = some (.lst xs) /\ H l2 = some (.lst us) /\ xs.length = ρs.length /\ us.length = ρs.length /\ HoA H xs ρs out /\ HoA H us ρs out /\ ∀ H', ZdH H H' -> Q (.bl true) H'
theorem ZiD (T : Txt K mg) : ZfA P w K mg base CX0 1 T.a_alike T.fd_alike ["_law_found", "_law_due"] ZiC := by
 refine T.F_alike.ok ZfN (fun vs H Q E h => ?_) (fun cdv A outer s H vs Q E hr h => ?_)
 ·obtain ⟨l1, l2, xs, us, ρs, out, rfl, _⟩ := h
  rfl
 obtain ⟨l1, l2, xs, us, ρs, out, rfl, e1, e2, x1, x2, h1, h2, q⟩ := h
 refine ⟨_, (Zdo (Zd0 (PW.pt (Zgn (Zgj (ZfB (ZdC Zfj rfl T.z_isinstance Zd2 (Zdn (cv 0) (Zdn (Zgk rfl T.z_list Zil) Zdq))))) (ZfQ (ZdA ZkN (ZdC Zdz rfl T.z_len Zd4 (Zdn (cv 0) Zdq)) (ZdC Zdz rfl T.z_len Zd4 (Zdn (cv 1) Zdq)) (ZdK _)))))
   (Zdu (ZdL ZgU))
   ZdI)
  (Zdo (Zfa PassesOwn.never rfl (ZlJ rfl T.z_zip (Zdn (cv 0) (Zdn (cv 1) Zdq))) (Zg3 rfl (ZdY (ZdQ (i := 2) ZfN.nd rfl (.inl rfl)) (ZdY (ZdQ (i := 3) ZfN.nd rfl (.inl rfl)) ZfF)))
   (Zdu (Zd0 (Zgi (Zj7 (cv 3)))
    (Zdu (Zd0 (Zgi (Zih (cv 2)))
     (Zdu (ZdL ZgU))
     ZdI))
    (Zdu (Zd0 (PW.pt (Zgn (Zgj (ZfB (ZdC Zfj rfl T.z_isinstance Zd2 (Zdn (cv 2) (Zdn (Zgk rfl T.z_tuple Zf9) Zdq))))) (Zgn (ZdA ZkN (ZdC Zdz rfl T.z_len Zd4 (Zdn (cv 2) Zdq)) Zds (ZdK _)) (ZfQ (Zgj (ZfB (ZdC Zfj rfl T.z_isinstance Zd2 (Zdn (ZdG ZdT (cv 2) Zds (fun _ _ => rfl)) (Zdn (Zgk rfl T.z_str ZpM) Zdq)))))))))
     (Zdu (ZdL ZgU))
     (Zdu (Zd0 (PW.pt (Zgn (Zgj (ZfB (ZdC Zfj rfl T.z_isinstance Zd2 (Zdn (ZdG ZdT (cv 2) Zds (fun _ _ => rfl)) (Zdn (Zgk rfl T.z_int Zi2) Zdq))))) (Zgn (ZfB (ZdC Zfj rfl T.z_isinstance Zd2 (Zdn (ZdG ZdT (cv 2) Zds (fun _ _ => rfl)) (Zdn (Zgk rfl T.z_bool ZlE) Zdq)))) (ZfQ (ZdA (ZnF hr) (cv 2) (cv 3) (ZdK _))))))
      (Zdu (ZdL ZgU))
      ZdI)))))))
  (Zdu (ZdL ZgU)))), ?_⟩
 have sl : sizeLine = 16777216 := sizeLine_eq
 refine ⟨_, _, _, _, true, rfl, fun _ r => r, .lst e1, rfl, _, rfl, Zet ?_⟩
 refine ⟨l1, _, rfl, .inl (SqL.of e1), l2, _, rfl, .inl (SqL.of e2), ?_⟩
 show (if (true ^^ decide ((xs.length : Int) = (us.length : Int))) = true then _ else _)
 rw [decide_eq_true (show (xs.length : Int) = (us.length : Int) by omega)]
 refine Zet ?_
 dsimp only [ZgW]
 refine ⟨l1, l2, rfl, ⟨_, SqL.of e1⟩, ⟨_, SqL.of e2⟩, Zo2 (xs := xs) (ys := us) (fun i σ H2 => ∃ (o2 o3 : Option V), σ = [some (.ref l1), some (.ref l2), o2, o3] /\ ZdH H H2) ⟨none, none, rfl, ZdH.refl _⟩ (fun i σ H2 _ ⟨_, _, _, S⟩ => ⟨SqL.of (S _ _ e1), SqL.of (S _ _ e2)⟩) (by omega) ?_ ?_⟩
 ·rintro i x y σ H2 t hx hy ⟨o2, o3, rfl, S⟩ ht
  have hi := (Zaj.mp hx).1
  obtain ⟨ρ, hρ⟩ : ∃ ρ, ρs[i]? = some ρ := ⟨_, Za0 (by omega)⟩
  have sT := Zdr ht (.tup [x, y])
  have S2 := S.trans sT
  have ix := (h1 i x ρ hx hρ).mono (ZdH.tk S2)
  have iy := (h2 i y ρ hy hρ).mono (ZdH.tk S2)
  refine ⟨t, _, rfl, SqT.of Zdp, rfl, _, _, rfl, _, _, rfl, rfl, ?_⟩
  generalize upd H2 t (.tup [x, y]) = H3 at S2 ix iy ⊢
  cases hd : duo out i ρ with
  | none =>
   rw [hd] at ix iy
   cases ix
   cases iy
   refine ⟨_, rfl, ?_⟩
   rw [decide_eq_true rfl]
   refine Zfq ⟨_, rfl, ?_⟩
   rw [decide_eq_true rfl]
   exact Zet ⟨_, _, rfl, S2⟩
  | some h =>
   rw [hd] at ix iy
   obtain ⟨q1, c1⟩ := Zqw ix
   have ax := Zo1 (K := K) ix
   have ay := Zo1 (K := K) iy
   cases ix with
   | @tup t1 xs1 _ et1 hs1 =>
    cases iy with
    | @tup t2 xs2 _ et2 hs2 =>
     cases hs1 with
     | cons a1 hs1 =>
      cases hs1 with
      | cons a2 hs1 =>
       cases a1; cases a2; cases hs1
       refine ⟨_, rfl, ?_⟩
       rw [decide_eq_false (fun z => nomatch z)]
       refine Zet ⟨_, _, _, _, true, rfl, fun _ r => r, .tup et1, rfl, _, rfl, Zet ?_⟩
       refine ⟨t1, _, rfl, .inr (SqT.of et1), ?_⟩
       dsimp only [tC, cEq, onB]
       rw [decide_eq_true (show ((([V.str h.1, V.int h.2] : List V).length : Nat) : Int) = 2 from rfl)]
       refine Zet ⟨_, et1, Zdx (Zdw (j := 0) rfl) ⟨_, _, _, _, true, rfl, fun _ r => r, .str _, rfl, _, rfl, ?_⟩⟩
       refine Zet ⟨_, et1, Zdx (Zdw (j := 1) rfl) ⟨_, _, _, _, true, rfl, fun _ r => r, .int _, rfl, _, rfl, Zet ?_⟩⟩
       refine ⟨_, et1, Zdx (Zdw (j := 1) rfl) ⟨_, _, _, _, false, rfl, fun _ r => r, .int _, rfl, _, rfl, Zet ?_⟩⟩
       refine ⟨t1, t2, _, _, rfl, rfl, ax, ay, c1, by show ZhV (hmD h) <= 100; simp [hmD, ZhV, ZeK], ?_⟩
       rw [Zqx q1]
       dsimp only [onB]
       exact Zet ⟨_, _, rfl, S2⟩
 ·rintro σ H2 ⟨o2, o3, rfl, S⟩
  exact q H2 S
end
theorem MI.stands {names : List Str} {roots : List Nat} {L : List Nd} (m : MI names roots L []) {d r : Nat} (k : Nat) (hd : roots[d]? = some r) : (decide (d + 1 = roots.length) || decide (k < roots.getD (d + 1) 0)) = !(decide ((d : Int) < (ZgB roots (k + 1) : Int) - 1)) := by
 have dl := (Zaj.mp hd).1
 have c := m.cnt (k + 1) (d + 1)
 by_cases e : d + 1 = roots.length
 ·rw [decide_eq_true e, Zc0, decide_eq_false, Bool.not_false]
  intro z
  obtain ⟨r', h1, _⟩ := c.mp (by omega)
  have := (Zaj.mp h1).1
  omega
 ·rw [decide_eq_false e, Zc1]
  have h1 : roots[d + 1]? = some (roots[d + 1]'(by omega)) := Za0 (by omega)
  rw [Zg2 h1]
  by_cases z : k < roots[d + 1]'(by omega)
  ·rw [decide_eq_true z, decide_eq_false, Bool.not_false]
   intro y
   obtain ⟨r', h2, h3⟩ := c.mp (by omega)
   rw [h1] at h2
   cases h2
   omega
  ·have := c.mpr ⟨_, h1, by omega⟩
   rw [decide_eq_false z, decide_eq_true (show (d : Int) < (ZgB roots (k + 1) : Int) - 1 by omega), Bool.not_true]
theorem Zmw {f : Nat -> Nat} : ∀ {l : List Nat}, (∀ a ∈ l, 1 <= f a) -> l.length <= (l.map f).sum
 | [], _ => ZbV _
 | a :: l, h => by
  have := Zmw fun b hb => h b (Zaf _ hb)
  have := h a Zae
  rw [Zao, Zaq, List.sum_cons]
  omega
theorem Zo3 {names : List Str} {roots : List Nat} {L : List Nd} (m : MI names roots L []) {k : Nat} {nd : Nd} (h : L[k]? = some nd) : nd.ro.ok /\ nd.ro.pl.map V.int = nd.kids.map nI /\ nd.kids.length <= 101 := by
 have fl := m.toMI0.full h
 have fl' : (nd.kids.map fun k : Nat => (k : Int)).length = nd.κ.ho.length := by rw [Zar]; exact fl
 refine ⟨ZnP (m.ok nd (ZaA h)).1 fl', ?_, by rw [fl]; exact nd.κ.ho_le (m.ok nd (ZaA h)).1⟩
 unfold Nd.ro
 rw [Zko fl', Zbr]
 rfl
theorem Zmx {H : Hp} {xs : List V} {L : List Nd} {k : Nat} {nd : Nd} (h : Ims H xs (L.map fun nd => nd.ro.d)) (e : L[k]? = some nd) : ∃ t : Addr, xs[k]? = some (.ref t) /\ Im H (.ref t) nd.ro.d := by
 have h' : Ims H xs ((L.map Nd.ro).map Ro.d) := by rw [Zbr]; exact h
 obtain ⟨t, _, h1, _, _, h2⟩ := Ziy h' (show (L.map Nd.ro)[k]? = some nd.ro by rw [Zaz, e]; rfl)
 exact ⟨t, h1, h2⟩
section
variable {P : Program} {w : World} {K : PySem.W.Frag} {mg : Str -> Option Value} {base : Heap}
def Zjm (C : Addr) : Sp := fun vs H Q _ => ∃ (p n r w dx : Addr) (roots : List Nat) (k d : Nat), vs = [.ref p, .int (k : Int), .int (d : Int)] /\ H p = some (.ins C dx (fP n r w)) /\ H r = some (.lst (roots.map nI)) /\ d < roots.length /\ Q (.bl (decide (d + 1 = roots.length) || decide (k < roots.getD (d + 1) 0))) H
theorem Zjn (T : Txt K mg) : ZfA P w K mg base CX0 1 T.a_stands_in T.fd_stands_in ["program", "place", "number"] (Zjm T.a_Program) := by
 refine T.F_stands_in.ok Zg5 (fun vs H Q E h => ?_) (fun cdv A outer s H vs Q E hr h => ?_)
 ·obtain ⟨p, n, r, w, dx, roots, k, d, rfl, _⟩ := h
  rfl
 obtain ⟨p, n, r, w, dx, roots, k, d, rfl, eo, er, hd, q⟩ := h
 refine ⟨_, (Zdo (ZdE (i := 3) Zg5.nd rfl (.inl rfl) (ZdF Zez (cv 2) Zds))
  (Zdu (ZdL (ZqO (Zgo ZeH (cv 3) (ZdC Zdz rfl T.z_len Zd4 (Zdn (Zev T.cl_Program T.n_Program_roots (cv 0)) Zdq)) (ZdK _)) (Znu (Zgo Zhw (cv 1) (ZdG ZdD (Zev T.cl_Program T.n_Program_roots (cv 0)) (cv 3) (fun _ _ => rfl)) (ZdK _))))))), ?_⟩
 refine ⟨_, ⟨dx, _, eo, ZfO _ _ _⟩, r, _, rfl, .inl (SqL.of er), _, rfl, ?_⟩
 show if (false ^^ decide ((d : Int) + 1 = (((roots.map nI).length : Nat) : Int))) = true then _ else _
 rw [Zc4, Zar, show decide ((d : Int) + 1 = (roots.length : Int)) = decide (d + 1 = roots.length) from decide_eq_decide.mpr (by omega)]
 by_cases e : d + 1 = roots.length
 ·rw [decide_eq_true e] at q ⊢
  rw [Zc0] at q
  exact Zfq q
 ·rw [decide_eq_false e] at q ⊢
  rw [Zc1] at q
  have h1 : roots[d + 1]? = some (roots[d + 1]'(by omega)) := Za0 (by omega)
  rw [Zg2 h1] at q
  refine Zet ⟨_, ⟨dx, _, eo, ZfO _ _ _⟩, _, er, Zdx (v := nI (roots[d + 1]'(by omega))) (Zdw (j := d + 1) (by rw [Zaz, h1]; rfl)) ?_⟩
  show Q (.bl (decide ((k : Int) < ((roots[d + 1]'(by omega) : Nat) : Int)))) H
  rw [show decide ((k : Int) < ((roots[d + 1]'(by omega) : Nat) : Int)) = decide (k < roots[d + 1]'(by omega)) from decide_eq_decide.mpr (by omega)]
  exact q
def ZiE : Sp := fun vs H Q _ => ∃ (w : Addr) (xs : List V) (names : List Str) (roots : List Nat) (L : List Nd) (r : Nat), vs = [.ref w, .int (r : Int)] /\ MI names roots L [] /\ r < L.length /\ H w = some (.lst xs) /\ Ims H xs (L.map fun nd => nd.ro.d) /\
 ∀ l ps H', ZdH H H' -> H l = none -> H' l = some (.lst (ps.map nI)) -> Zni L r ps -> Q (.ref l) H'
theorem ZiF (T : Txt K mg) : ZfA P w K mg base CX0 7 T.a_inside_out T.fd_inside_out ["rows", "root"] ZiE := by
 have G_places_in := Zf2 (P := P) (w := w) (base := base) T
 refine T.F_inside_out.ok Zft (fun vs H Q E h => ?_) (fun cdv A outer s H vs Q E hr h => ?_)
 ·obtain ⟨w, xs, names, roots, L, r, rfl, _⟩ := h
  rfl
 obtain ⟨w, xs, names, roots, L, r, rfl, mi, hr0, ew, ims, q⟩ := h
 refine ⟨_, (Zdo (ZdE (i := 2) Zft.nd rfl (.inl rfl) (ZdN Zdq))
  (Zdo (ZdE (i := 3) Zft.nd rfl (.inl rfl) (ZdN (Zdn (cv 1) Zdq)))
  (Zdo (Zj8 PassesOwn.never (ZdA Zhx (ZdC Zdz rfl T.z_len Zd4 (Zdn (cv 3) Zdq)) Zds (ZdK _))
   (Zdo (ZdE (i := 4) Zft.nd rfl (.inl rfl) (Zlz ZcR ZcW ZcX ZnB (cv 3)))
   (Zdo (Zd6 (Zfc (ZfW ZcR ZcS ZcT Zee (PE.mono (cv 2)) (Zdn (PE.mono (cv 4)) Zdq))))
   (Zdu (Zd6 (ZfW ZcR ZcU ZcV Zhr (cv 3) (Zdn (ZdO G_places_in (hr.mono (by decide)) rfl T.m_places_in T.k_places_in T.b_places_in .nil ZeG (Zdn (ZdG ZdD (cv 0) (cv 4) (fun _ _ => rfl)) Zdq)) Zdq)))))))
  (Zdu (ZdL (ZkR rfl rfl T.z_list rfl T.z_reversed (Zdn (cv 2) Zdq))))))), ?_⟩
 have sl : sizeLine = 16777216 := sizeLine_eq
 have Ll := mi.sz
 have rb := Zh2 mi.up hr0
 refine ⟨(by show 0 <= sizeLine; decide), fun lf h1 => ?_⟩
 have s1 := Zdr h1 (.lst [])
 have e1 : (upd H lf (.lst [])) lf = some (.lst []) := Zdp
 dsimp only [Zd1]
 generalize upd H lf (.lst []) = H1 at s1 e1 ⊢
 refine ⟨(by show 1 <= sizeLine; decide), fun la h2 => ?_⟩
 have s2 := Zdr h2 (.lst [.int (r : Int)])
 have e2 : (upd H1 la (.lst [.int (r : Int)])) la = some (.lst [.int (r : Int)]) := Zdp
 dsimp only [Zd1]
 generalize upd H1 la (.lst [.int (r : Int)]) = H2 at s2 e2 ⊢
 have ne : lf ≠ la := Zdv e1 h2
 refine Zjl (fun σ H3 => ∃ (found : List Nat) (o4 : Option V), σ = [some (.ref w), some (.int (r : Int)), some (.ref lf), some (.ref la), o4] /\ PO L r found [] /\ H3 lf = some (.lst (found.map nI)) /\ ZdH H H3) ?_ ?_
 ·rintro σ H3 ⟨found, o4, rfl, po, ef, S⟩
  refine ⟨lf, _, rfl, SqL.of ef, fun l hl => ?_⟩
  exact q l found.reverse _ (S.trans (Zdr hl _)) (S.free hl) (by rw [Zdp, List.map_reverse]) (po.post hr0 mi.up)
 ·intro Nx hNx
  refine ⟨fun m σ H3 => ∃ (found ahead : List Nat) (o4 : Option V), σ = [some (.ref w), some (.int (r : Int)), some (.ref lf), some (.ref la), o4] /\ PO L r found ahead /\ H3 lf = some (.lst (found.map nI)) /\ H3 la = some (.lst (ahead.map nI)) /\ ZdH H H3 /\ m = 200 - found.length,
   ⟨200, [], [r], none, rfl, PO.start hr0 mi.up, s2 _ _ e1, e2, s1.trans s2, rfl⟩, ?_⟩
  rintro m σ H3 ⟨found, ahead, o4, rfl, po, ef, ea, S, rfl⟩
  have sz := po.sz
  refine ⟨la, _, rfl, .inl (SqL.of ea), ?_⟩
  show if decide ((0 : Int) < (((ahead.map nI).length : Nat) : Int)) = true then _ else _
  rw [Zar]
  rcases List.eq_nil_or_concat ahead with rfl | ⟨as, x, rfl⟩
  ·exact Zet (hNx _ _ ⟨found, o4, rfl, po, ef, S⟩)
  rw [List.concat_eq_append] at po ea sz ⊢
  rw [decide_eq_true (by rw [ZaB, ZaQ]; omega)]
  have xl := (po.al x (Zan _ (ZbJ _))).1
  obtain ⟨nd, hnd⟩ : ∃ nd, L[x]? = some nd := ⟨_, Za0 xl⟩
  have po' := po.step mi hnd
  have sz' := po'.sz
  rw [ZaB, ZaQ] at sz'
  obtain ⟨rok, rpl, rkl⟩ := Zo3 mi hnd
  refine Zfq ⟨fun σ H4 => ∃ (o4 : Option V), σ = [some (.ref w), some (.int (r : Int)), some (.ref lf), some (.ref la), o4] /\ H4 lf = some (.lst ((found ++ [x]).map nI)) /\ H4 la = some (.lst ((as ++ nd.kids).map nI)) /\ ZdH H H4, ?_, ?_⟩
  ·rintro σ' H4 ⟨o4, rfl, ef4, ea4, S4⟩
   exact ⟨200 - (found ++ [x]).length, by rw [ZaB, ZaQ]; omega, found ++ [x], as ++ nd.kids, o4, rfl, po', ef4, ea4, S4, rfl⟩
  ·refine ⟨.inl ⟨rfl, _, SqL.of ea⟩, la, _, nI x, rfl, rfl, ea, ?_, ?_⟩
   ·rw [Zar, ZaB, ZaQ, Zb2, Zaz, Zax (ZbV _), Zb3]
    rfl
   have ed : ((as ++ [x]).map nI).dropLast = as.map nI := by rw [ZaV]; exact ZbM
   rw [ed]
   have fl : H lf = none := h1
   have al : H la = none := s1.free h2
   have S4 : ZdH H (upd H3 la (.lst (as.map nI))) := ZdP S al _
   have ef4 : (upd H3 la (.lst (as.map nI))) lf = some (.lst (found.map nI)) := by rw [Zdt ne]; exact ef
   have ea4 : (upd H3 la (.lst (as.map nI))) la = some (.lst (as.map nI)) := Zdp
   dsimp only [Zd1]
   generalize upd H3 la (.lst (as.map nI)) = H4 at S4 ef4 ea4 ⊢
   refine ⟨⟨_, ef4⟩, _, ef4, by rw [Zar]; omega, ?_⟩
   have S5 : ZdH H (upd H4 lf (.lst (found.map nI ++ [nI x]))) := ZdP S4 fl _
   have ef5 : (upd H4 lf (.lst (found.map nI ++ [nI x]))) lf = some (.lst ((found ++ [x]).map nI)) := by rw [Zdp, ZaV]; rfl
   have ea5 : (upd H4 lf (.lst (found.map nI ++ [nI x]))) la = some (.lst (as.map nI)) := by rw [Zdt ne.symm]; exact ea4
   dsimp only
   generalize upd H4 lf (.lst (found.map nI ++ [nI x])) = H5 at S5 ef5 ea5 ⊢
   obtain ⟨t, ht, it⟩ := Zmx ims hnd
   refine ⟨.inl ⟨rfl, _, SqL.of ea5⟩, _, S5 _ _ ew, Zdx (Zdw (j := x) ht) ⟨t, nd.ro, rfl, it.mono (ZdH.tk S5), rok, fun l H6 S6 hl e6 => ?_⟩⟩
   rw [rpl] at e6
   refine ⟨la, l, _, _, rfl, rfl, S6 _ _ ea5, e6, ?_, _, rfl, ?_, ?_, ?_⟩
   ·rw [Zar, Zar]
    have := Zmw (f := fun a => en L a - a) (l := as ++ [x]) fun a ha => by
     have := Zh2 mi.up (po.al a ha).1
     omega
    rw [ZaB, ZaQ] at this
    omega
   ·rw [Zdt ne]; exact S6 _ _ ef5
   ·rw [Zdp, ZaV]
   ·exact ZdP (S5.trans S6) al _
end
theorem Zkt {H : Hp} {v : V} {h : Hm} (i : Im H v (hmD h)) : ∃ t, v = .ref t /\ H t = some (.tup [.str h.1, .int h.2]) := by
 unfold hmD at i
 cases i with
 | @tup t xs _ et hs =>
  cases hs with
  | cons a hs =>
   cases hs with
   | cons b hs =>
    cases a; cases b; cases hs
    exact ⟨t, rfl, et⟩
theorem ZnY {H : Hp} {us : List V} {L : List Nd} {k : Nat} (h : Ims H us (L.map fun nd => hoD (ZgA nd.κ nd.out))) (hk : k < L.length) : ∃ v, us[k]? = some v /\ Im H v (hoD (Zjk L k)) := by
 have lu := h.length
 rw [Zar] at lu
 obtain ⟨d, hd, him⟩ := Zfk h (Za0 (show k < us.length by omega))
 rw [Zaz, Za0 hk] at hd
 cases hd
 refine ⟨_, Za0 (by omega), ?_⟩
 rw [ZoX (Za0 hk)]
 exact him
theorem ZnZ {roots : List Nat} {L : List Nd} {S : Nat -> Int} {p q : Nat} {h : Hm} (e : Zjk L p = some h) (h1 : h.1 = "let") (h2 : h.2 = (q : Int)) : al roots L S p = 1 + (S (en L q) - S q) := by
 unfold al
 rw [e]
 dsimp only
 rw [if_pos h1, h2, Zda]
 omega
theorem Zn0 {roots : List Nat} {L : List Nd} {S : Nat -> Int} {p d r : Nat} {h : Hm} (e : Zjk L p = some h) (h1 : h.1 = "def") (h2 : h.2 = (d : Int)) (hd : roots[d]? = some r) (hc : (d : Int) < (ZgB roots (p + 1) : Int) - 1) : al roots L S p = 1 + (S (en L r) - S r) := by
 unfold al
 rw [e]
 dsimp only
 rw [if_neg (by rw [h1]; decide +kernel), if_pos ⟨h1, by rw [h2]; exact hc⟩, h2, Zda, Zg2 hd]
 omega
theorem Zku {roots : List Nat} {L : List Nd} {S : Nat -> Int} {p : Nat} {h : Hm} (e : Zjk L p = some h) (h1 : ¬ h.1 = "let") (h2 : ¬ (h.1 = "def" /\ h.2 < (ZgB roots (p + 1) : Int) - 1)) : al roots L S p = 1 := by
 unfold al
 rw [e]
 dsimp only
 rw [if_neg h1, if_neg h2]
section
variable {P : Program} {w : World} {K : PySem.W.Frag} {mg : Str -> Option Value} {base : Heap}
def Zjo (C : Addr) : Sp := fun vs H Q _ => ∃ (p n r w dx hl wl : Addr) (xs us : List V) (names : List Str) (roots : List Nat) (L : List Nd) (ws : List Int) (i rt j k : Nat) (ps : List Nat), vs = [.ref p, .ref hl, .int (k : Int), .ref wl] /\ MI names roots L [] /\
 H p = some (.ins C dx (fP n r w)) /\ H r = some (.lst (roots.map nI)) /\ H w = some (.lst xs) /\ Ims H xs (L.map fun nd => nd.ro.d) /\ H hl = some (.lst us) /\ Ims H us (L.map fun nd => hoD (ZgA nd.κ nd.out)) /\ H wl = some (.lst (ws.map V.int)) /\
 roots[i]? = some rt /\ Zni L rt ps /\ Don roots L rt (ps.take j) ws /\ ps[j]? = some k /\ ∀ H', ZdH H H' -> Q (.int (Wt roots L k)) H'
theorem Zjp (T : Txt K mg) : ZfA P w K mg base CX0 7 T.a_weight_of T.fd_weight_of ["program", "homes", "place", "weights"] (Zjo T.a_Program) := by
 have G_places_in := Zf2 (P := P) (w := w) (base := base) T
 have G_stands_in := Zjn (P := P) (w := w) (base := base) T
 refine T.F_weight_of.ok Zg6 (fun vs H Q E h => ?_) (fun cdv A outer s H vs Q E hr h => ?_)
 ·obtain ⟨p, n, r, w, dx, hl, wl, xs, us, names, roots, L, ws, i, rt, j, k, ps, rfl, _⟩ := h
  rfl
 obtain ⟨p, n, r, w, dx, hl, wl, xs, us, names, roots, L, ws, i, rt, j, k, ps, rfl, mi, eo, er, ew, ims, eh, imu, el, hi, po, don, hk, q⟩ := h
 refine ⟨_, (Zdo (ZdE (i := 4) Zg6.nd rfl (.inl rfl) (ZdG ZdD (cv 1) (cv 2) (fun _ _ => rfl)))
  (Zdo (Zd0 (Zgi (Zj7 (cv 4)))
   (Zdu (ZdL (ZdF Zez Zds (ZdC (Zl4 rfl) rfl T.z_sum ZlD (Zdn (ZgY rfl (ZlL (x := "inner") ["weights"] [("weights", 3, s.heap.objs.size + 1)] rfl rfl (by decide +kernel) (by decide +kernel) rfl (by decide +kernel) rfl rfl (by intro p hp; simp only [Zag, Za1, or_false] at hp; rcases hp with rfl <;> exact ⟨rfl, rfl, rfl, rfl⟩)) (Zfo (ZdO G_places_in (hr.mono (by decide)) rfl T.m_places_in T.k_places_in T.b_places_in .nil ZeG (Zdn (ZdG ZdD (Zev T.cl_Program T.n_Program_rows (cv 0)) (cv 2) (fun _ _ => rfl)) Zdq))) (fun _ _ _ _ _ => Ze4) (fun _ _ _ _ _ => (ZdG ZdD (cv 1) (cv 0) (fun _ _ => rfl)))) Zdq)))))
   ZdI)
  (Zdo (Zd0 (ZdA ZeH (ZdG ZdT (cv 4) Zds (fun _ _ => rfl)) ZdJ (ZdK _))
   (Zdu (ZdL (ZdF Zez Zds (ZdG ZdD (cv 3) (ZdG ZdT (cv 4) Zds (fun _ _ => rfl)) (fun _ _ => rfl)))))
   ZdI)
  (Zdo (Zd0 (PW.pt (Zhk (ZdA ZeH (ZdG ZdT (cv 4) Zds (fun _ _ => rfl)) ZdJ (ZdK _)) (ZgV (Zgj (ZfB (ZdO G_stands_in (hr.mono (by decide)) rfl T.m_stands_in T.k_stands_in T.b_stands_in .nil ZeG (Zdn (cv 0) (Zdn (cv 2) (Zdn (ZdG ZdT (cv 4) Zds (fun _ _ => rfl)) Zdq)))))))))
   (Zdu (ZdL (ZdF Zez Zds (ZdG ZdD (cv 3) (ZdG ZdD (Zev T.cl_Program T.n_Program_roots (cv 0)) (ZdG ZdT (cv 4) Zds (fun _ _ => rfl)) (fun _ _ => rfl)) (fun _ _ => rfl)))))
   ZdI)
  (Zdu (ZdL Zds)))))), ?_⟩
 have sl : sizeLine = 16777216 := sizeLine_eq
 have kl := (po.le k (ZaA hk)).1
 obtain ⟨nd, hnd⟩ : ∃ nd, L[k]? = some nd := ⟨_, Za0 kl⟩
 obtain ⟨v, hv, iv⟩ := ZnY imu kl
 have at_w : ∀ {c : Nat}, ws[c]? = some (Wt roots L c) -> atI (ws.map V.int) (c : Int) = some (.int (Wt roots L c)) := fun {c} h => Zdw (by rw [Zaz, h]; rfl)
 refine ⟨_, eh, Zdx (Zdw hv) ?_⟩
 dsimp only [Zd1]
 cases hd : Zjk L k with
 | none =>
  rw [hd] at iv
  cases iv
  refine ⟨_, rfl, ?_⟩
  rw [decide_eq_true rfl]
  obtain ⟨rok, rpl, rkl⟩ := Zo3 mi hnd
  obtain ⟨t, ht, it⟩ := Zmx ims hnd
  refine Zfq ⟨_, ⟨dx, _, eo, Zf3 _ _ _⟩, _, ew, Zdx (Zdw ht) ⟨t, nd.ro, rfl, it, rok, fun l H1 S1 hl e1 => ⟨l, rfl, ⟨_, SqL.of e1⟩, fun D hD => ?_⟩⟩⟩
  rw [rpl] at e1
  have kids := don.kids mi po hk hnd
  refine ZgF nd.kids.length (by omega) (fun xs _ => xs = (nd.kids.take xs.length).map fun c => V.int (Wt roots L c)) (fun xs H H' h tk => h) hD rfl (fun k H S h => Zi6 e1 S (by rw [Zar]; exact h)) (fun H S => ?_) rfl ?_ ?_
  ·have := Zi7 (K := K) e1 S
   rw [Zar] at this
   exact this
  ·intro z H2 v H3 xs Z S hz y hx hxl hZ
   obtain ⟨rfl, hy⟩ := y
   have hv := hy _ (SqL.of (S _ _ e1))
   rw [Zaz, Za0 hz] at hv
   cases hv
   refine ⟨_, (S1.trans S) _ _ el, Zdx (at_w (kids _ (Za4 hz))) (hZ _ _ (ZdH.refl _) ?_)⟩
   rw [hxl] at hx
   rw [ZaB, ZaQ, hxl, Zbd, Za0 hz, ZaV, <- hx]
   rfl
  ·intro H2 xs S hx hxl e2
   rw [hxl, Zbf] at hx
   refine ⟨D, nd.kids.map (Wt roots L), rfl, SqL.of (by rw [e2, hx, Zbr]; rfl), ?_⟩
   have := q H2 (S1.trans S)
   rw [mi.Wt_none hnd hd] at this
   exact this
 | some h =>
  rw [hd] at iv
  obtain ⟨t, rfl, et⟩ := Zkt iv
  obtain ⟨_, _, o1, o2⟩ := mi.due hd
  have wk := mi.Wt_some hd
  refine ⟨_, rfl, ?_⟩
  rw [decide_eq_false (fun z => nomatch z)]
  refine Zet ⟨_, et, Zdx (Zdw (j := 0) rfl) ?_⟩
  dsimp only [tC, cEq, onB]
  rw [Zc4]
  by_cases z1 : h.1 = "let"
  ·rw [decide_eq_true z1]
   obtain ⟨c, c1, c2, c3⟩ := o1 z1
   have := don.lets mi po hk c2 c3
   refine Zfq ⟨_, et, Zdx (Zdw (j := 1) rfl) ?_⟩
   rw [c1]
   refine ⟨_, el, Zdx (at_w this) ?_⟩
   have := q H (ZdH.refl _)
   rw [wk, ZnZ hd z1 c1] at this
   exact this
  ·rw [decide_eq_false z1]
   refine Zet ⟨_, et, Zdx (Zdw (j := 0) rfl) ?_⟩
   dsimp only [tC, cEq, onB]
   rw [Zc4]
   by_cases z2 : h.1 = "def"
   ·rw [decide_eq_true z2]
    obtain ⟨d, s, c1, c2, c3⟩ := o2 z2
    refine Zfq ⟨_, et, Zdx (Zdw (j := 1) rfl) ?_⟩
    rw [c1]
    refine ⟨p, n, r, w, dx, roots, k, d, rfl, eo, er, (Zaj.mp c2).1, _, rfl, ?_⟩
    dsimp only
    rw [mi.stands k c2, Bool.not_not]
    by_cases z3 : (d : Int) < (ZgB roots (k + 1) : Int) - 1
    ·rw [decide_eq_true z3]
     obtain ⟨_, r', g1, g2⟩ := mi.ahead c2 z3
     have := don.defs mi hi po hk c2 g1 g2
     refine Zfq ⟨_, ⟨dx, _, eo, ZfO _ _ _⟩, _, et, Zdx (Zdw (j := 1) rfl) ?_⟩
     rw [c1]
     refine ⟨_, er, Zdx (v := nI s) (Zdw (by rw [Zaz, c2]; rfl)) ⟨_, el, Zdx (at_w this) ?_⟩⟩
     have := q H (ZdH.refl _)
     rw [wk, Zn0 hd z2 c1 c2 z3] at this
     exact this
    ·rw [decide_eq_false z3]
     refine Zet ?_
     have := q H (ZdH.refl _)
     rw [wk, Zku hd z1 (fun z => z3 (by rw [<- c1]; exact z.2))] at this
     exact this
   ·rw [decide_eq_false z2]
    refine Zet (Zet ?_)
    have := q H (ZdH.refl _)
    rw [wk, Zku hd z1 (fun z => z2 z.1)] at this
    exact this
end
theorem Zmy {n j : Nat} (h : j < n) : ixN n (j : Int) = some j := by
 unfold ixN
 rw [if_pos (by omega), if_pos (by omega), Zda]
theorem Znp (ws : List Int) (k : Nat) (z : Int) : (ws.map V.int).set k (.int z) = (ws.set k z).map V.int := (ZbN ..).symm
noncomputable def bnd (roots : List Nat) (L : List Nd) (i : Nat) : Nat := match roots[i]? with
 | some r => r
 | none => L.length
theorem MI.bnd0 {names : List Str} {roots : List Nat} {L : List Nd} (m : MI names roots L []) : bnd roots L 0 = 0 := by
 unfold bnd
 cases h : roots[0]? with
 | some r => exact m.i3 r h
 | none =>
  have c := m.rootsC
  have : roots = [] := Zbg (Nat.le_zero.mp (ZbL.mp h))
  rw [this] at c
  exact c.symm
theorem Zqy {roots : List Nat} {L : List Nd} {i r : Nat} (h : roots[i]? = some r) : bnd roots L i = r := by unfold bnd; rw [h]
theorem MI.bndS {names : List Str} {roots : List Nat} {L : List Nd} (m : MI names roots L []) {i r : Nat} (h : roots[i]? = some r) : bnd roots L (i + 1) = en L r := by
 obtain ⟨h1, h2⟩ := m.rootN h
 have il := (Zaj.mp h).1
 unfold bnd
 cases h' : roots[i + 1]? with
 | some r' => exact h1 r' h'
 | none =>
  have := ZbL.mp h'
  exact (h2 (by omega)).symm
theorem Zo4 {roots : List Nat} {L : List Nd} : bnd roots L roots.length = L.length := by
 unfold bnd
 rw [Zba (ZbV _)]
section
variable {P : Program} {w : World} {K : PySem.W.Frag} {mg : Str -> Option Value} {base : Heap}
def Zgf (C : Addr) : Sp := fun vs H Q _ => ∃ (e : Addr) (x : Str), vs = [.ref e, .str x] /\ H e = some (ZnI e C) /\ ∀ dx, H dx = none -> dx ≠ e -> Q .non (upd (upd H e (ZkS e C dx)) dx (ZjQ dx [("word", .str x)]))
theorem Zgg (T : Txt K mg) : ZfA P w K mg base CX0 1 T.a_TooHeavy___init__ T.fd_TooHeavy___init__ ["self", "word"] (Zgf T.a_TooHeavy) := by
 refine T.F_TooHeavy___init__.ok Zge (fun vs H Q E h => ?_) (fun cdv A outer s H vs Q E hr h => ?_)
 ·obtain ⟨e, x, rfl, _⟩ := h
  rfl
 obtain ⟨e, x, rfl, he, q⟩ := h
 refine ⟨_, (Zdu (Zkj rfl (cv 0) (cv 1) rfl)), ?_⟩
 exact ⟨e, _, rfl, he, T.xs_TooHeavy, T.xf_TooHeavy_word, q⟩
def ZiG (C Ct : Addr) : Sp := fun vs H Q E => ∃ (p n r w dx hl : Addr) (xs us : List V) (names : List Str) (roots : List Nat) (L : List Nd), vs = [.ref p, .ref hl] /\ MI names roots L [] /\
 H p = some (.ins C dx (fP n r w)) /\ H n = some (.lst (names.map V.str)) /\ H r = some (.lst (roots.map nI)) /\ H w = some (.lst xs) /\ Ims H xs (L.map fun nd => nd.ro.d) /\ H hl = some (.lst us) /\ Ims H us (L.map fun nd => hoD (ZgA nd.κ nd.out)) /\
 ((∀ i s : Nat, roots[i]? = some s -> Wt roots L s <= 60) -> ∀ l H', ZdH H H' -> H l = none -> H' l = some (.lst (((Zaa L.length).map (Wt roots L)).map V.int)) -> Q (.ref l) H') /\
 (∀ (i s : Nat) (x : Str), roots[i]? = some s -> names[i]? = some x -> 60 < Wt roots L s -> (∀ j s : Nat, j < i -> roots[j]? = some s -> Wt roots L s <= 60) -> ∀ dx H', ZdH H H' -> H' dx = some (ZjQ dx [("word", .str x)]) -> E (.ref Ct) (some dx) H')
theorem ZiH (T : Txt K mg) : ZfA P w K mg base (CXF P w) 8 T.a_weights_of T.fd_weights_of ["program", "homes"] (ZiG T.a_Program T.a_TooHeavy) := by
 have G_inside_out := ZiF (P := P) (w := w) (base := base) T
 have G_weight_of := Zjp (P := P) (w := w) (base := base) T
 have G_TooHeavy___init__ := Zgg (P := P) (w := w) (base := base) T
 refine T.F_weights_of.okF Ze6 (fun vs H Q E h => ?_) (fun cdv A outer s H vs Q E hr h => ?_)
 ·obtain ⟨p, n, r, w, dx, hl, xs, us, names, roots, L, rfl, _⟩ := h
  rfl
 obtain ⟨p, n, r, w, dx, hl, xs, us, names, roots, L, rfl, mi, eo, en0, er, ew, ims, eh, imu, q1, q2⟩ := h
 refine ⟨_, (Zdo (ZdE (i := 2) Ze6.nd rfl (.inl rfl) (ZdF ZpL (ZdN (Zdn Zds Zdq)) (ZdC Zdz rfl T.z_len Zd4 (Zdn (Zev T.cl_Program T.n_Program_rows (cv 0)) Zdq))))
  (Zdo (Zfa PassesOwn.leaving rfl (ZjL rfl T.z_enumerate (Zdn (Zev T.cl_Program T.n_Program_roots (cv 0)) Zdq)) (Zg3 rfl (ZdY (ZdQ (i := 3) Ze6.nd rfl (.inl rfl)) (ZdY (ZdQ (i := 4) Ze6.nd rfl (.inl rfl)) ZfF)))
   (Zdo (Zfa PassesOwn.leaving rfl (Zfo (ZdO G_inside_out (hr.mono (by decide)) rfl T.m_inside_out T.k_inside_out T.b_inside_out .nil ZeG (Zdn (Zev T.cl_Program T.n_Program_rows (cv 0)) (Zdn (cv 4) Zdq)))) (ZdQ (i := 5) Ze6.nd rfl (.inl rfl))
    (Zdu (ZiM (ZdO G_weight_of (hr.mono (by decide)) rfl T.m_weight_of T.k_weight_of T.b_weight_of .nil ZeG (Zdn (cv 0) (Zdn (cv 1) (Zdn (cv 5) (Zdn (cv 2) Zdq))))) (Zk9 (cv 2) (cv 5) Zii))))
   (Zdu (Zd0 (ZdA Zhx (ZdG ZdD (cv 2) (cv 4) (fun _ _ => rfl)) (Zq8 rfl T.m_MOST_WEIGHT) (ZdK _))
    (Zdu (Zja rfl rfl ZlZ T.xi_TooHeavy G_TooHeavy___init__ (hr.mono (by decide)) T.b_TooHeavy___init__ rfl T.m_TooHeavy (Zdn (ZdG ZdD (Zev T.cl_Program T.n_Program_names (cv 0)) (cv 3) (fun _ _ => rfl)) Zdq)))
    ZdI))))
  (Zdu (ZdL (cv 2))))), ?_⟩
 have sl : sizeLine = 16777216 := sizeLine_eq
 have Ll := mi.sz
 have lx := ims.length
 rw [Zar] at lx
 refine ⟨(by show 1 <= sizeLine; decide), fun l0 h0 => ?_⟩
 have s0 := Zdr h0 (.lst [.int 0])
 have e0 : (upd H l0 (.lst [.int 0])) l0 = some (.lst [.int 0]) := Zdp
 generalize upd H l0 (.lst [.int 0]) = H0 at s0 e0 ⊢
 refine ⟨_, ⟨dx, _, s0 _ _ eo, Zf3 _ _ _⟩, w, _, rfl, .inl (SqL.of (s0 _ _ ew)), l0, _, _, rfl, rfl, e0, by omega, by omega, ?_, fun wl h1 => ?_⟩
 ·show 1 * ((xs.length : Int)).toNat <= sizeLine
  omega
 have s1 := Zdr h1 (.lst (Zav (xs.length : Int).toNat [V.int 0]).flatten)
 have e1 : (upd H0 wl (.lst (Zav (xs.length : Int).toNat [V.int 0]).flatten)) wl = some (.lst ((Zav L.length (0 : Int)).map V.int)) := by rw [Zdp, List.flatten_replicate_singleton, Zby, Zda, lx]
 dsimp only [Zd1]
 generalize upd H0 wl (.lst (Zav (xs.length : Int).toNat [V.int 0]).flatten) = H1 at s1 e1 ⊢
 have S01 := s0.trans s1
 have wn : H wl = none := s0.free h1
 refine ⟨_, ⟨dx, _, S01 _ _ eo, ZfO _ _ _⟩, r, rfl, ⟨_, SqL.of (S01 _ _ er)⟩, Zix (xs := roots.map nI) (fun i σ H2 => ∃ (ws : List Int) (o3 o4 o5 : Option V), σ = [some (.ref p), some (.ref hl), some (.ref wl), o3, o4, o5] /\ ZdH H H2 /\ H2 wl = some (.lst (ws.map V.int)) /\ Don roots L (bnd roots L i) [] ws /\ ∀ j s : Nat, j < i -> roots[j]? = some s -> Wt roots L s <= 60)
  ⟨_, none, none, none, rfl, S01, e1, ⟨ZaC .., fun x hx => ?_⟩, fun j s h => absurd h (Zb1 _)⟩ (fun i σ H2 _ ⟨_, _, _, _, _, S, _⟩ => SqL.of (S _ _ er)) ?_ ?_⟩
 ·rw [mi.bnd0] at hx
  rcases hx with hx | hx
  ·exact absurd hx (Zb1 _)
  ·cases hx
 ·rintro i v σ H2 t hx ⟨ws, o3, o4, o5, rfl, S, el, don, light⟩ ht
  rw [Zaz] at hx
  obtain ⟨rt, hrt, rfl⟩ := Zb8.mp hx
  have rl := mi.rootL rt (ZaA hrt)
  have sT := Zdr ht (.tup [.int (i : Int), nI rt])
  refine ⟨t, _, rfl, SqT.of Zdp, rfl, _, _, rfl, _, _, rfl, rfl, ?_⟩
  have S3 := S.trans sT
  have el3 := sT _ _ el
  generalize upd H2 t (.tup [.int (i : Int), nI rt]) = H3 at sT S3 el3 ⊢
  rw [Zqy hrt] at don
  refine ⟨_, ⟨dx, _, S3 _ _ eo, Zf3 _ _ _⟩, w, xs, names, roots, L, rt, rfl, mi, rl.1, S3 _ _ ew, ims.mono (ZdH.tk S3), fun l ps H4 S4 hl4 e4 post => ?_⟩
  have nl : l ≠ wl := (Zdv el3 hl4).symm
  have S34 := S3.trans S4
  refine ⟨l, rfl, ⟨_, SqL.of e4⟩, ZfK (xs := ps.map nI) (fun j σ H5 => ∃ (ws : List Int) (o5 : Option V), σ = [some (.ref p), some (.ref hl), some (.ref wl), some (.int (i : Int)), some (.int (rt : Int)), o5] /\ ZdH H H5 /\ H5 l = some (.lst (ps.map nI)) /\ H5 wl = some (.lst (ws.map V.int)) /\ Don roots L rt (ps.take j) ws)
   ⟨ws, o5, rfl, S34, e4, S4 _ _ el3, don⟩ (fun j σ H5 _ ⟨_, _, _, _, e, _⟩ => SqL.of e) ?_ ?_⟩
  ·rintro j v σ H5 hv ⟨ws, o5, rfl, S5, el5, ew5, don5⟩
   rw [Zaz] at hv
   obtain ⟨k, hk, rfl⟩ := Zb8.mp hv
   have kl := (post.le k (ZaA hk)).1
   refine ⟨p, n, r, w, dx, hl, wl, xs, us, names, roots, L, ws, i, rt, j, k, ps, rfl, mi, S5 _ _ eo, S5 _ _ er, S5 _ _ ew, ims.mono (ZdH.tk S5), S5 _ _ eh, imu.mono (ZdH.tk S5), ew5, hrt, post, don5, hk, fun H6 S6 => ?_⟩
   refine ⟨wl, _, _, k, rfl, rfl, S6 _ _ ew5, Zmy (by rw [Zar, don5.1]; exact kl), ws.set k (Wt roots L k), _, rfl, ZdP (S5.trans S6) wn _, ?_, ?_, don5.put hk kl⟩
   ·rw [Zdt nl]; exact S6 _ _ el5
   ·rw [Zdp, Znp]
  ·rintro σ H5 ⟨ws, o5, rfl, S5, el5, ew5, don5⟩
   rw [Zar, Za8 (ZbV _)] at don5
   have don6 := don5.all post
   have hw : ws[rt]? = some (Wt roots L rt) := don6.2 rt (.inl rl.2)
   refine ⟨_, ew5, Zdx (Zdw (by rw [Zaz, hw]; rfl)) ?_⟩
   show if decide ((60 : Int) < Wt roots L rt) = true then _ else _
   by_cases z : 60 < Wt roots L rt
   ·rw [decide_eq_true z]
    have il := (Zaj.mp hrt).1
    have rn := mi.rl
    obtain ⟨x, hx'⟩ : ∃ x, names[i]? = some x := ⟨_, Za0 (by omega)⟩
    refine Zfq ⟨_, ⟨dx, _, S5 _ _ eo, ZgN _ _ _⟩, _, S5 _ _ en0, Zdx (v := .str x) (Zdw (by rw [Zaz, hx']; rfl)) ⟨(by show 1 <= sizeLine; decide), fun e he => ⟨e, x, rfl, Zdp, fun d hd hde => ⟨rfl, d, ?_, ?_⟩⟩⟩⟩
    ·rw [Zdt hde.symm, Zdp]
    ·have he' := S5.free he
     have hd' : H5 d = none := by rw [Zdt hde] at hd; exact hd
     have hd'' := S5.free hd'
     refine q2 i rt x hrt hx' z light d _ (fun b u hb => ?_) (by rw [Zhy hde, Zdp])
     rw [Zhy (Zdv hb he'), Zdt (Zdv hb hd''), Zdt (Zdv hb he'), Zdt (Zdv hb he')]
     exact S5 b u hb
   ·rw [decide_eq_false z]
    refine Zet ⟨ws, _, _, _, rfl, S5, ew5, ?_, fun j s hj hs => ?_⟩
    ·rw [mi.bndS hrt]
     exact don6
    ·by_cases ji : j = i
     ·rw [ji, hrt] at hs
      cases hs
      omega
     ·exact light j s (by omega) hs
 ·rintro σ H2 ⟨ws, o3, o4, o5, rfl, S, el, don, light⟩
  rw [Zar, Zo4] at don
  rw [Zar] at light
  rw [don.whole] at el
  exact q1 (fun i s h => light i s (Zaj.mp h).1 h) wl H2 S wn el
end
theorem Zo5 (p : Nat) (l : List Nat) : inV (.int (p : Int)) (l.map nI) = decide (p ∈ l) := by
 unfold inV
 rw [List.any_map]
 by_cases h : p ∈ l
 ·rw [decide_eq_true h]
  exact ZaT.mpr ⟨p, h, by show eqV (.int (p : Int)) (.int (p : Int)) = true; simp [eqV]⟩
 ·rw [decide_eq_false h]
  refine List.any_eq_false.mpr fun x hx => ?_
  show ¬ eqV (.int (x : Int)) (.int (p : Int)) = true
  have : x ≠ p := fun z => h (z ▸ hx)
  simp [eqV]
  omega
theorem Znq {n : Nat} {g : TG} {tb : TS} {D : ZfS} {σ : St} {H : Hp} (Pv : Nat -> St -> Hp -> Prop) (h0 : Pv 0 σ H)
  (hs : ∀ i σ H, i < n -> Pv i σ H -> g (.int ((n - 1 - i : Nat) : Int)) σ H fun σ2 H2 => tb { D with nx := Pv (i + 1), ct := Pv (i + 1), bk := D.nx } σ2 H2) (hd : ∀ σ H, Pv n σ H -> D.nx σ H) :
  ∃ W : Nat -> Nat -> St -> Hp -> Prop, (∃ m, W 0 m σ H) /\ ∀ i m σ H, W i m σ H ->
   ((Itd n).stop i H /\ D.nx σ H) \/ ((Itd n).go i H /\ ∃ N : St -> Hp -> Prop, (∀ σ' H', N σ' H' -> ∃ m', m' < m /\ W (i + 1) m' σ' H') /\ ∀ x H', (Itd n).yld i H x H' -> g x σ H' fun σ2 H2 => tb { D with nx := N, ct := N, bk := D.nx } σ2 H2) := by
 refine ⟨fun i m σ H => m = n - i /\ i <= n /\ Pv i σ H, ⟨n, rfl, ZbW _, h0⟩, ?_⟩
 rintro i m σ H ⟨rfl, hi, p⟩
 by_cases hlt : i < n
 ·refine .inr ⟨hlt, Pv (i + 1), fun σ' H' p' => ⟨n - (i + 1), by omega, rfl, hlt, p'⟩, fun v H' y => ?_⟩
  obtain ⟨rfl, rfl⟩ := y
  exact hs i σ H' hlt p
 ·have e : i = n := by omega
  subst e
  exact .inl ⟨ZbV _, hd σ H p⟩
noncomputable def eF (L : List Nd) (i k : Nat) : Nat := if L.length - i <= k then en L k else k + 1
noncomputable def eL (L : List Nd) (i : Nat) : List Nat := (Zaa L.length).map (eF L i)
theorem Zjq {L : List Nd} {i k : Nat} (h : k < L.length) : (eL L i)[k]? = some (eF L i k) := by
 unfold eL
 rw [Zaz, Zbx h]
 rfl
theorem Zjr {L : List Nd} {i : Nat} : (eL L i).length = L.length := by unfold eL; rw [Zar, Zbm]
theorem Zn1 {L : List Nd} {i : Nat} (h : i < L.length) : (eL L i).set (L.length - 1 - i) (en L (L.length - 1 - i)) = eL L (i + 1) := by
 refine Za9 fun k => ?_
 rw [ZbK, Zjr]
 by_cases e : L.length - 1 - i = k
 ·rw [if_pos e, if_pos (by omega), Zjq (by omega), e]
  unfold eF
  rw [if_pos (by omega)]
 ·rw [if_neg e]
  by_cases hk : k < L.length
  ·rw [Zjq hk, Zjq hk]
   unfold eF
   by_cases z : L.length - i <= k
   ·rw [if_pos z, if_pos (by omega)]
   ·rw [if_neg z, if_neg (by omega)]
  ·rw [Zba (by rw [Zjr]; omega), Zba (by rw [Zjr]; omega)]
theorem Zo6 {L : List Nd} (u : Up L) {i : Nat} (h : i < L.length) (hk : ZeS L (L.length - 1 - i) = none) : eL L i = eL L (i + 1) := by
 have := Zn1 h
 rw [<- this]
 refine Za9 fun k => ?_
 rw [ZbK, Zjr]
 by_cases e : L.length - 1 - i = k
 ·rw [if_pos e, if_pos (by omega), Zjq (by omega), <- e, Zj3 u (by omega) hk]
  unfold eF
  rw [if_neg (by omega)]
 ·rw [if_neg e]
theorem Zqz {L : List Nd} : eL L L.length = (Zaa L.length).map (en L) := by
 unfold eL
 refine Zbs fun k _ => ?_
 unfold eF
 rw [if_pos (by omega)]
theorem Znr (ws : List Nat) (k z : Nat) : (ws.map nI).set k (nI z) = (ws.set k z).map nI := (ZbN ..).symm
section
variable {P : Program} {w : World} {K : PySem.W.Frag} {mg : Str -> Option Value} {base : Heap}
def ZhN : Sp := fun vs H Q _ => ∃ (w r u d : Addr) (xs us : List V) (KA : List Addr) (names : List Str) (roots : List Nat) (L : List Nd), vs = [.ref w, .ref r, .ref u, .ref d] /\ MI names roots L [] /\ H w = some (.lst xs) /\ xs.length = L.length /\ H r = some (.lst (roots.map nI)) /\
 H u = some (.lst us) /\ Ims H us (L.map fun nd => hoD (ZgA nd.κ nd.out)) /\ H d = some (.lst (KA.map V.ref)) /\ KA.length = L.length /\ (∀ (i : Nat) (x : Addr) (nd : Nd), KA[i]? = some x -> L[i]? = some nd -> H x = some (.lst (nd.kids.map nI))) /\
 ∀ l H', ZdH H H' -> H l = none -> H' l = some (.lst (((Zaa L.length).map (Wt roots L)).map V.int)) -> Q (.ref l) H'
theorem ZhO (T : Txt K mg) : ZfA P w K mg base CX0 1 T.a_weights T.fd_weights ["_law_rows", "_law_roots", "_law_due", "_law_kids"] ZhN := by
 refine T.F_weights.ok ZdR (fun vs H Q E h => ?_) (fun cdv A outer s H vs Q E hr h => ?_)
 ·obtain ⟨w, r, u, d, xs, us, KA, names, roots, L, rfl, _⟩ := h
  rfl
 obtain ⟨w, r, u, d, xs, us, KA, names, roots, L, rfl, mi, ew, lx, er, eu, imu, ed, dl, dk, q⟩ := h
 refine ⟨_, (Zdo (ZdE (i := 4) ZdR.nd rfl (.inr rfl) (ZgY rfl (Zpg (x := "_law_place") rfl (by decide +kernel) (by decide +kernel) rfl rfl) (Zeu rfl T.z_range (Zdn (ZdC Zdz rfl T.z_len Zd4 (Zdn (cv 0) Zdq)) Zdq)) (fun _ _ _ _ _ => Ze4) (fun _ _ _ _ _ => (ZdF Zez (cv 0) Zds))))
  (Zdo (Zfa PassesOwn.never rfl (Zl3 rfl T.z_reversed rfl T.z_range (Zdn (ZdC Zdz rfl T.z_len Zd4 (Zdn (cv 0) Zdq)) Zdq)) (ZdQ (i := 5) ZdR.nd rfl (.inl rfl))
   (Zdu (Zd0 (ZdA Zhx (ZdC Zdz rfl T.z_len Zd4 (Zdn (ZdG ZdD (cv 3) (cv 5) (fun _ _ => rfl)) Zdq)) Zds (ZdK _))
    (Zdu (ZiM (ZdG ZdD (cv 4) (ZdG ZdD (ZdG ZdD (cv 3) (cv 5) (fun _ _ => rfl)) (ZdF ZfR (ZdC Zdz rfl T.z_len Zd4 (Zdn (ZdG ZdD (cv 3) (cv 5) (fun _ _ => rfl)) Zdq)) Zds) (fun _ _ => rfl)) (fun _ _ => rfl)) (Zk9 (cv 4) (cv 5) Zii)))
    ZdI)))
  (Zdo (ZdE (i := 6) ZdR.nd rfl (.inr rfl) (ZdN (Zdn Zds Zdq)))
  (Zdo (ZdE (i := 7) ZdR.nd rfl (.inl rfl) (Zpr Znx Zds))
  (Zdo (Zfa PassesOwn.never rfl (Zeu rfl T.z_range (Zdn (ZdC Zdz rfl T.z_len Zd4 (Zdn (cv 0) Zdq)) Zdq)) (ZdQ (i := 5) ZdR.nd rfl (.inl rfl))
   (Zdo (Zd0 (ZdA Zhq (cv 5) (cv 1) rfl)
    (Zdu (ZdE (i := 7) ZdR.nd rfl (.inl rfl) (ZdF Zez (cv 7) Zds)))
    ZdI)
   (Zdo (ZdE (i := 8) ZdR.nd rfl (.inl rfl) Zds)
   (Zdo (ZdE (i := 9) ZdR.nd rfl (.inl rfl) (ZdG ZdD (cv 2) (cv 5) (fun _ _ => rfl)))
   (Zdo (Zd0 (PW.pt (Zhk (Zgi (Zih (cv 9))) (ZgV (ZdA ZeH (ZdG ZdT (cv 9) Zds (fun _ _ => rfl)) ZdJ (ZdK _)))))
    (Zdu (ZdE (i := 8) ZdR.nd rfl (.inl rfl) (ZdF ZfR (ZdF Zez Zds (ZdG ZdD (cv 6) (ZdG ZdD (cv 4) (ZdG ZdT (cv 9) Zds (fun _ _ => rfl)) (fun _ _ => rfl)) (fun _ _ => rfl))) (ZdG ZdD (cv 6) (ZdG ZdT (cv 9) Zds (fun _ _ => rfl)) (fun _ _ => rfl)))))
    (Zdu (Zd0 (PW.pt (Zhk (Zgi (Zih (cv 9))) (Zhk (ZdA ZeH (ZdG ZdT (cv 9) Zds (fun _ _ => rfl)) ZdJ (ZdK _)) (ZgV (ZdA Zhw (ZdG ZdT (cv 9) Zds (fun _ _ => rfl)) (cv 7) (ZdK _))))))
     (Zdo (ZdE (i := 10) ZdR.nd rfl (.inl rfl) (ZdG ZdD (cv 1) (ZdG ZdT (cv 9) Zds (fun _ _ => rfl)) (fun _ _ => rfl)))
     (Zdu (ZdE (i := 8) ZdR.nd rfl (.inl rfl) (ZdF ZfR (ZdF Zez Zds (ZdG ZdD (cv 6) (ZdG ZdD (cv 4) (cv 10) (fun _ _ => rfl)) (fun _ _ => rfl))) (ZdG ZdD (cv 6) (cv 10) (fun _ _ => rfl))))))
     ZdI)))
   (Zdu (Zd6 (Zfc (ZfW ZcR ZcS ZcT Zee (PE.mono (cv 6)) (Zdn (PE.mono (ZdF Zez (ZdG ZdD (cv 6) (cv 5) (fun _ _ => rfl)) (cv 8))) Zdq))))))))))
  (Zdu (ZdL (ZgY rfl (ZlL (x := "_law_place") ["_law_spent", "_law_ends"] [("_law_spent", 6, s.heap.objs.size + 2), ("_law_ends", 4, s.heap.objs.size + 1)] rfl rfl (by decide +kernel) (by decide +kernel) rfl (by decide +kernel) rfl rfl (by intro p hp; simp only [Zag, Za1, or_false] at hp; rcases hp with rfl | rfl <;> exact ⟨rfl, rfl, rfl, rfl⟩)) (Zeu rfl T.z_range (Zdn (ZdC Zdz rfl T.z_len Zd4 (Zdn (cv 0) Zdq)) Zdq)) (fun _ _ _ _ _ => Ze4) (fun _ _ _ _ _ => (ZdF ZfR (ZdG ZdD (cv 1) (ZdG ZdD (cv 2) (cv 0) (fun _ _ => rfl)) (fun _ _ => rfl)) (ZdG ZdD (cv 1) (cv 0) (fun _ _ => rfl)))))))))))), ?_⟩
 have sl : sizeLine = 16777216 := sizeLine_eq
 have Ll := mi.sz
 refine ⟨w, _, rfl, .inl (SqL.of ew), _, rfl, by omega, by omega, fun le hle => ?_⟩
 refine ZgF ((xs.length : Int).toNat) (by omega) (fun zs _ => zs = (Zaa zs.length).map fun k => nI (k + 1)) (fun _ _ _ h _ => h) hle rfl (fun k H _ h => Zg4 h) (fun H _ => ZbV _) rfl ?_ ?_
 ·intro k H2 v H3 zs Z S hk y hx hxl hZ
  obtain ⟨rfl, rfl⟩ := y
  refine hZ _ _ (ZdH.refl _) ?_
  rw [ZaB, ZaQ, Zbl, ZaV, <- hx, hxl]
  show zs ++ [V.int (0 + (k : Int) + 1)] = zs ++ [V.int ((k + 1 : Nat) : Int)]
  rw [show (0 : Int) + (k : Int) + 1 = ((k + 1 : Nat) : Int) by omega]
 intro H1 zs s1 hzs hzl e1
 have e1 : H1 le = some (.lst ((eL L 0).map nI)) := by
  rw [e1, hzs, hzl, lx, Zda]
  unfold eL
  rw [Zbr]
  congr 2
  refine Zbs fun k hk => ?_
  have := Zac.mp hk
  show nI (k + 1) = nI (eF L 0 k)
  unfold eF
  rw [if_neg (by omega)]
 clear hzs hzl
 dsimp only [Zd1]
 have hn : H le = none := hle
 refine ⟨w, _, rfl, .inl (SqL.of (s1 _ _ ew)), L.length, by rw [lx], by omega, Znq (n := L.length) (fun i σ H2 => ∃ o5 : Option V, σ = [some (.ref w), some (.ref r), some (.ref u), some (.ref d), some (.ref le), o5, none, none, none, none, none] /\ ZdH H H2 /\ H2 le = some (.lst ((eL L i).map nI))) ⟨none, rfl, s1, e1⟩ ?_ ?_⟩
 ·rintro i σ H2 hi ⟨o5, rfl, S, e2⟩
  have pl : L.length - 1 - i < L.length := by omega
  obtain ⟨p, hp⟩ : ∃ p, p = L.length - 1 - i := ⟨_, rfl⟩
  rw [<- hp] at pl
  obtain ⟨nd, hnd⟩ : ∃ nd, L[p]? = some nd := ⟨_, Za0 pl⟩
  obtain ⟨x, hx⟩ : ∃ x, KA[p]? = some x := ⟨_, Za0 (by omega)⟩
  have ex := S _ _ (dk p x nd hx hnd)
  have ax : atI (KA.map V.ref) (p : Int) = some (.ref x) := Zdw (by rw [Zaz, hx]; rfl)
  rw [<- hp]
  dsimp only [Zd1]
  refine ⟨_, S _ _ ed, Zdx ax ⟨x, _, rfl, .inl (SqL.of ex), ?_⟩⟩
  show if decide ((0 : Int) < (((nd.kids.map nI).length : Nat) : Int)) = true then _ else _
  rw [Zar]
  cases hl : ZeS L p with
  | none =>
   have hl' := hl
   rw [ZfP hnd, List.getLast?_eq_none_iff] at hl'
   rw [hl']
   refine Zet ⟨_, rfl, S, ?_⟩
   rw [hp] at hl
   rw [<- Zo6 mi.up hi hl]
   exact e2
  | some c =>
   have hl' := hl
   rw [ZfP hnd, ZbD] at hl'
   have kl := (Zaj.mp hl').1
   have cu := mi.up _ _ hl
   rw [decide_eq_true (by omega)]
   refine Zfq ⟨_, S _ _ ed, Zdx ax ⟨_, S _ _ ed, Zdx ax ⟨x, _, rfl, .inl (SqL.of ex), _, ex, Zdx (v := nI c) ?_ ⟨_, e2, Zdx (v := nI (en L c)) (Zdw ?_) ⟨le, _, _, p, rfl, rfl, e2, Zmy (by rw [Zar, Zjr]; exact pl), _, rfl, ZdP S hn _, ?_⟩⟩⟩⟩⟩
   ·rw [Zar, show ((nd.kids.length : Nat) : Int) - 1 = ((nd.kids.length - 1 : Nat) : Int) by omega]
    exact Zdw (by rw [Zaz, hl']; rfl)
   ·rw [Zaz, Zjq cu.2]
    unfold eF
    rw [if_pos (by omega)]
    rfl
   ·rw [Zdp, Znr, <- Zmp mi.up hl, hp, Zn1 hi]
 rintro σ H2 ⟨o5, rfl, S2, e2⟩
 rw [Zqz] at e2
 refine ⟨(by show 1 <= sizeLine; decide), fun ls hls => ?_⟩
 have s3 := Zdr hls (.lst [.int 0])
 have e3 : (upd H2 ls (.lst [.int 0])) ls = some (.lst [.int 0]) := Zdp
 have el3 := s3 _ _ e2
 have S3 := S2.trans s3
 have sn : H ls = none := S2.free hls
 have nls : le ≠ ls := Zdv e2 hls
 dsimp only [Zd1]
 generalize upd H2 ls (.lst [.int 0]) = H3 at s3 e3 el3 S3 ⊢
 refine ⟨_, rfl, ?_⟩
 dsimp only
 have lat : ∀ {k : Nat}, k < L.length -> atI (((Zaa L.length).map (en L)).map nI) (k : Int) = some (nI (en L k)) := fun {k} hk => Zdw (by rw [Zaz, Zaz, Zbx hk]; rfl)
 have sat : ∀ {i k : Nat}, k <= i -> atI (((Zaa (i + 1)).map (Sx roots L)).map V.int) (k : Int) = some (.int (Sx roots L k)) := fun {i k} hk => Zdw (by rw [Zaz, Zaz, Zbx (by omega)]; rfl)
 refine ⟨w, _, rfl, .inl (SqL.of (S3 _ _ ew)), (L.length : Int), by rw [lx], by omega, by omega, Zhm (lo := 0) (n := L.length) (fun i σ H4 => ∃ o5 o8 o9 o10 : Option V, σ = [some (.ref w), some (.ref r), some (.ref u), some (.ref d), some (.ref le), o5, some (.ref ls), some (.int ((ZgB roots i : Int) - 1)), o8, o9, o10] /\ ZdH H H4 /\ H4 le = some (.lst (((Zaa L.length).map (en L)).map nI)) /\ H4 ls = some (.lst (((Zaa (i + 1)).map (Sx roots L)).map V.int)))
  ⟨_, none, none, none, rfl, S3, el3, e3⟩ ?_ ?_⟩
 ·rintro i σ H4 hi ⟨o5, o8, o9, o10, rfl, S4, el4, es4⟩
  rw [Zdb]
  dsimp only [Zd1]
  refine Zf7 (fun σ H5 => H5 = H4 /\ σ = [some (.ref w), some (.ref r), some (.ref u), some (.ref d), some (.ref le), some (.int (i : Int)), some (.ref ls), some (.int ((ZgB roots (i + 1) : Int) - 1)), o8, o9, o10]) (decide (i ∈ roots)) (fun R h => ⟨r, _, rfl, .inl (SqL.of (S4 _ _ er)), rfl, ?_, ?_⟩) (fun hb N k => k _ _ ⟨rfl, ?_⟩) (fun hb N k => k _ _ ⟨rfl, ?_⟩) ?_
  ·rw [ZaY]
   exact ZaZ.mpr fun _ _ => rfl
  ·show R (if false = true then _ else inV (.int (i : Int)) (roots.map nI)) H4
   rw [if_neg ZcY, Zo5]
   exact h
  ·have hb := of_decide_eq_true hb
   have e : (ZgB roots i : Int) - 1 + 1 = (ZgB roots (i + 1) : Int) - 1 := by
    show _ = ((if i ∈ roots then ZgB roots i + 1 else ZgB roots i : Nat) : Int) - 1
    rw [if_pos hb]
    omega
   rw [<- e]
   rfl
  ·have hb := of_decide_eq_false hb
   have e : (ZgB roots i : Int) - 1 = (ZgB roots (i + 1) : Int) - 1 := by
    show _ = ((if i ∈ roots then ZgB roots i + 1 else ZgB roots i : Nat) : Int) - 1
    rw [if_neg hb]
   rw [<- e]
   rfl
  ·rintro σ H5 ⟨rfl, rfl⟩
   obtain ⟨v, hv, iv⟩ := ZnY imu hi
   have iv := iv.mono (ZdH.tk S4)
   refine ⟨_, S4 _ _ eu, Zdx (Zdw hv) ?_⟩
   dsimp only [Zd1]
   have fin : ∀ (o10 : Option V) {U : TE} {D : ZfS}, D.nx = (fun σ H5 => ∃ o5 o8 o9 o10 : Option V, σ = [some (.ref w), some (.ref r), some (.ref u), some (.ref d), some (.ref le), o5, some (.ref ls), some (.int ((ZgB roots (i + 1) : Int) - 1)), o8, o9, o10] /\ ZdH H H5 /\ H5 le = some (.lst (((Zaa L.length).map (en L)).map nI)) /\ H5 ls = some (.lst (((Zaa (i + 1 + 1)).map (Sx roots L)).map V.int))) ->
     Zpp (ZrH (cV 6) (tOp (cI0 fun i j => V.int (i + j)) (tOp Zrd (cV 6) (cV 5)) (cV 8))) D [some (.ref w), some (.ref r), some (.ref u), some (.ref d), some (.ref le), some (.int (i : Int)), some (.ref ls), some (.int ((ZgB roots (i + 1) : Int) - 1)), some (.int (al roots L (Sx roots L) i)), some v, o10] H5 := fun o10 U D hD => by
    refine ⟨⟨_, es4⟩, _, es4, Zdx (sat (ZbV i)) ⟨_, es4, by rw [Zar, Zar, Zbm]; omega, ?_⟩⟩
    rw [hD]
    refine ⟨_, _, _, _, rfl, ZdP S4 sn _, by rw [Zdt nls]; exact el4, ?_⟩
    rw [Zdp, Zbl (n := i + 1), ZaV, ZaV]
    show some (HO.lst (_ ++ [V.int (Sx roots L i + al roots L (Sx roots L) i)])) = some (HO.lst (_ ++ [V.int (Sx roots L (i + 1))]))
    rw [mi.Sx_succ]
   refine Zf7 (fun σ H6 => H6 = H5 /\ ∃ o10 : Option V, σ = [some (.ref w), some (.ref r), some (.ref u), some (.ref d), some (.ref le), some (.int (i : Int)), some (.ref ls), some (.int ((ZgB roots (i + 1) : Int) - 1)), some (.int (al roots L (Sx roots L) i)), some v, o10]) (match Zjk L i with | none => false | some h => decide (h.1 = "let")) (fun R h => ?_) (fun hb N k => ?_) (fun hb N k => ?_) ?_
   ·cases hd : Zjk L i with
    | none =>
     rw [hd] at iv h
     cases iv
     refine ⟨_, rfl, ?_⟩
     show if (!decide (V.non = V.non)) = true then _ else _
     rw [decide_eq_true rfl]
     exact Zet h
    | some hm =>
     rw [hd] at iv h
     obtain ⟨t, rfl, et⟩ := Zkt iv
     refine ⟨_, rfl, ?_⟩
     show if (!decide (V.ref t = V.non)) = true then _ else _
     rw [decide_eq_false (fun z => nomatch z)]
     refine Zfq ⟨_, et, Zdx (Zdw (j := 0) rfl) ?_⟩
     dsimp only [tC, cEq, onB]
     rw [Zc4]
     exact h
   ·cases hd : Zjk L i with
    | none => rw [hd] at hb; cases hb
    | some hm =>
     rw [hd] at iv hb
     obtain ⟨t, rfl, et⟩ := Zkt iv
     have hb := of_decide_eq_true hb
     obtain ⟨_, _, o1, _⟩ := mi.due hd
     obtain ⟨c, c1, c2, c3⟩ := o1 hb
     have a1 : atI [V.str hm.1, V.int hm.2] 1 = some (.int (c : Int)) := by rw [c1]; exact Zdw (j := 1) rfl
     refine ⟨_, et, Zdx a1 ⟨_, el4, Zdx (lat (by omega)) ⟨_, es4, Zdx (sat c3) ⟨_, et, Zdx a1 ⟨_, es4, Zdx (sat (by omega)) (k _ _ ⟨rfl, o10, ?_⟩)⟩⟩⟩⟩⟩
     have e : al roots L (Sx roots L) i = 1 + Sx roots L (en L c) - Sx roots L c := by rw [ZnZ hd hb c1]; omega
     rw [e]
     rfl
   ·cases hd : Zjk L i with
    | none =>
     rw [hd] at iv
     cases iv
     refine ⟨_, rfl, ?_⟩
     show if (!decide (V.non = V.non)) = true then _ else _
     rw [decide_eq_true rfl]
     refine Zet (Zet (k _ _ ⟨rfl, o10, ?_⟩))
     have e : al roots L (Sx roots L) i = 1 := by unfold al; rw [hd]
     rw [e]
     rfl
    | some hm =>
     rw [hd] at iv hb
     obtain ⟨t, rfl, et⟩ := Zkt iv
     have hb := of_decide_eq_false hb
     obtain ⟨_, _, _, o2⟩ := mi.due hd
     refine ⟨_, rfl, ?_⟩
     show if (!decide (V.ref t = V.non)) = true then _ else _
     rw [decide_eq_false (fun z => nomatch z)]
     refine Zfq ⟨_, et, Zdx (Zdw (j := 0) rfl) ?_⟩
     dsimp only [tC, cEq, onB]
     rw [Zc4]
     by_cases z2 : hm.1 = "def"
     ·rw [decide_eq_true z2]
      obtain ⟨c, rt, c1, c2, c3⟩ := o2 z2
      have a1 : atI [V.str hm.1, V.int hm.2] 1 = some (.int (c : Int)) := by rw [c1]; exact Zdw (j := 1) rfl
      refine Zfq ⟨_, et, Zdx a1 ?_⟩
      show if decide ((c : Int) < (ZgB roots (i + 1) : Int) - 1) = true then _ else _
      by_cases z3 : (c : Int) < (ZgB roots (i + 1) : Int) - 1
      ·rw [decide_eq_true z3]
       obtain ⟨g0, r', g1, g2⟩ := mi.ahead c2 z3
       have rl := mi.rootL rt (ZaA c2)
       refine Zfq ⟨_, et, Zdx a1 ⟨_, S4 _ _ er, Zdx (v := nI rt) (Zdw (by rw [Zaz, c2]; rfl)) ⟨_, el4, Zdx (lat rl.1) ⟨_, es4, Zdx (sat g0) ⟨_, es4, Zdx (sat c3) (k _ _ ⟨rfl, some (nI rt), ?_⟩)⟩⟩⟩⟩⟩
       have e : al roots L (Sx roots L) i = 1 + Sx roots L (en L rt) - Sx roots L rt := by rw [Zn0 hd z2 c1 c2 z3]; omega
       rw [e]
       rfl
      ·rw [decide_eq_false z3]
       refine Zet (k _ _ ⟨rfl, o10, ?_⟩)
       rw [Zku hd hb (fun z => z3 (by rw [<- c1]; exact z.2))]
       rfl
     ·rw [decide_eq_false z2]
      refine Zet (Zet (k _ _ ⟨rfl, o10, ?_⟩))
      rw [Zku hd hb (fun z => z2 z.1)]
      rfl
   ·rintro σ H6 ⟨rfl, o10', rfl⟩
    exact fin o10' (U := cV 0) rfl
 ·rintro σ H4 ⟨o5, o8, o9, o10, rfl, S4, el4, es4⟩
  refine ⟨w, _, rfl, .inl (SqL.of (S4 _ _ ew)), (L.length : Int), by rw [lx], by omega, by omega, fun D hD => ?_⟩
  refine ZgF L.length (by omega) (fun zs _ => zs = (Zaa zs.length).map fun k => V.int (Wt roots L k)) (fun _ _ _ h _ => h) hD rfl (fun k H _ h => Zg4 h) (fun H _ => ZbV _) rfl ?_ ?_
  ·intro k H5 v H6 zs Z S hk y hx hxl hZ
   obtain ⟨rfl, rfl⟩ := y
   rw [Zdb]
   have b := Zh2 mi.up hk
   refine ⟨_, S _ _ el4, Zdx (lat hk) ⟨_, S _ _ es4, Zdx (sat b.2) ⟨_, S _ _ es4, Zdx (sat (by omega)) (hZ _ _ (ZdH.refl _) ?_)⟩⟩⟩
   rw [ZaB, ZaQ, Zbl, ZaV, <- hx, hxl]
   rfl
  ·intro H5 zs S hx hxl e
   rw [hxl] at hx
   refine q D H5 (S4.trans S) (S4.free hD) ?_
   rw [e, hx, Zbr]
   rfl
end
theorem Zkv : ∀ l : List Int, ZkL (l.map V.int) (l.map V.int) = true
 | [] => by simp [ZkL]
 | x :: l => by
  have := Zkv l
  simp [ZkL, eqV] at this ⊢
  first | exact this | trivial
theorem ZhP (f : Nat -> Bool) (G : Nat -> V) : ∀ m k : Nat, ((∀ d, k <= d -> d < k + m -> f d = false) /\ ((Zbz k m).filter f).map G = []) \/ ∃ i, k <= i /\ i < k + m /\ f i = true /\ (∀ j, k <= j -> j < i -> f j = false) /\ ∃ rest, ((Zbz k m).filter f).map G = G i :: rest
 | 0, k => .inl ⟨fun d h1 h2 => by omega, rfl⟩
 | m + 1, k => by
  rw [List.range'_succ]
  cases hk : f k with
  | true =>
   rw [Zbo hk]
   exact .inr ⟨k, ZbV _, by omega, hk, fun j h1 h2 => by omega, _, rfl⟩
  | false =>
   rw [ZbC (by rw [hk]; exact ZcY)]
   rcases ZhP f G m (k + 1) with ⟨h1, h2⟩ | ⟨i, h1, h2, h3, h4, h5⟩
   ·refine .inl ⟨fun d g1 g2 => ?_, h2⟩
    by_cases e : d = k
    ·rw [e]; exact hk
    ·exact h1 d (by omega) (by omega)
   ·refine .inr ⟨i, by omega, by omega, h3, fun j g1 g2 => ?_, h5⟩
    by_cases e : j = k
    ·rw [e]; exact hk
    ·exact h4 j (by omega) g2
noncomputable def hvP (roots : List Nat) (L : List Nd) : V -> Bool
 | .int d => decide (60 < Wt roots L (roots.getD d.toNat 0))
 | _ => false
noncomputable def hvG (names : List Str) : V -> V
 | .int d => .str (names.getD d.toNat "")
 | v => v
noncomputable def hvL (names : List Str) (roots : List Nat) (L : List Nd) : List V := (((Zaa names.length).map nI).filter (hvP roots L)).map (hvG names)
theorem ZqA {names : List Str} {roots : List Nat} {L : List Nd} (hl : roots.length = names.length) : ((∀ i s : Nat, roots[i]? = some s -> Wt roots L s <= 60) /\ hvL names roots L = []) \/ ∃ (i s : Nat) (x : Str) (rest : List V), roots[i]? = some s /\ names[i]? = some x /\ 60 < Wt roots L s /\ (∀ j s : Nat, j < i -> roots[j]? = some s -> Wt roots L s <= 60) /\ hvL names roots L = .str x :: rest := by
 have e : hvL names roots L = ((Zbz 0 names.length).filter fun d => hvP roots L (nI d)).map fun d => hvG names (nI d) := by
  unfold hvL
  rw [List.filter_map, Zbr, List.range_eq_range']
  rfl
 have lt : ∀ {i s : Nat}, roots[i]? = some s -> hvP roots L (nI i) = decide (60 < Wt roots L s) := fun {i s} h => by
  show decide (60 < Wt roots L (roots.getD ((i : Int)).toNat 0)) = _
  rw [Zda, Zg2 h]
 have lt' : ∀ {i s : Nat}, roots[i]? = some s -> hvP roots L (nI i) = false -> Wt roots L s <= 60 := fun {i s} h z => by
  rw [lt h] at z
  have := of_decide_eq_false z
  omega
 rw [e]
 rcases ZhP (fun d => hvP roots L (nI d)) (fun d => hvG names (nI d)) names.length 0 with ⟨h1, h2⟩ | ⟨i, h1, h2, h3, h4, rest, h5⟩
 ·refine .inl ⟨fun i s hs => lt' hs (h1 i (ZbW _) ?_), h2⟩
  have := (Zaj.mp hs).1
  omega
 ·have hi : i < roots.length := by omega
  have hs : roots[i]? = some roots[i] := Za0 hi
  have hx : names[i]? = some (names[i]'(by omega)) := Za0 (by omega)
  have h3 : hvP roots L (nI i) = true := h3
  rw [lt hs] at h3
  refine .inr ⟨i, _, _, rest, hs, hx, of_decide_eq_true h3, fun j s hj hs' => lt' hs' (h4 j (ZbW _) hj), ?_⟩
  rw [h5]
  show V.str (names.getD ((i : Int)).toNat "") :: rest = _
  rw [Zda, Za3, hx]
  rfl
theorem Zmz {t u : TS} {D : ZfS} {σ : St} {H : Hp} (σ₀ : St) (N : St -> Hp -> Prop) (hσ : σ = σ₀) (k : ∀ σ' H', N σ' H' -> u D σ' H') (w : ∀ D' : ZfS, (∀ σ' H', N σ' H' -> D'.nx σ' H') -> t D' σ₀ H) : Zjs t u D σ H := by
 subst hσ
 exact w { D with nx := u D } k
section
variable {P : Program} {w : World} {K : PySem.W.Frag} {mg : Str -> Option Value} {base : Heap}
def ZhQ : Sp := fun vs H Q _ => ∃ (l1 l2 : Addr) (ws : List Int), vs = [.ref l1, .ref l2] /\ H l1 = some (.lst (ws.map V.int)) /\ H l2 = some (.lst (ws.map V.int)) /\ ∀ H', ZdH H H' -> Q (.bl true) H'
theorem ZhR (T : Txt K mg) : ZfA P w K mg base CX0 1 T.a_numbers T.fd_numbers ["_law_found", "_law_due"] ZhQ := by
 refine T.F_numbers.ok Zf0 (fun vs H Q E h => ?_) (fun cdv A outer s H vs Q E hr h => ?_)
 ·obtain ⟨l1, l2, ws, rfl, _⟩ := h
  rfl
 obtain ⟨l1, l2, ws, rfl, e1, e2, q⟩ := h
 refine ⟨_, (Zdo (Zd0 (PW.pt (Zgn (Zgj (ZfB (ZdC Zfj rfl T.z_isinstance Zd2 (Zdn (cv 0) (Zdn (Zgk rfl T.z_list Zil) Zdq))))) (ZfQ (ZdA ZkN (ZdC Zdz rfl T.z_len Zd4 (Zdn (cv 0) Zdq)) (ZdC Zdz rfl T.z_len Zd4 (Zdn (cv 1) Zdq)) (ZdK _)))))
   (Zdu (ZdL ZgU))
   ZdI)
  (Zdo (Zfa PassesOwn.never rfl (Zfo (cv 0)) (ZdQ (i := 2) Zf0.nd rfl (.inl rfl))
   (Zdu (Zd0 (PW.pt (Zgn (Zgj (ZfB (ZdC Zfj rfl T.z_isinstance Zd2 (Zdn (cv 2) (Zdn (Zgk rfl T.z_int Zi2) Zdq))))) (ZfQ (ZfB (ZdC Zfj rfl T.z_isinstance Zd2 (Zdn (cv 2) (Zdn (Zgk rfl T.z_bool ZlE) Zdq)))))))
    (Zdu (ZdL ZgU))
    ZdI)))
  (Zdu (ZdL (Zgo (ZpN hr.units0) (cv 0) (cv 1) (ZdK _)))))), ?_⟩
 refine ⟨_, _, _, _, true, rfl, fun _ r => r, .lst e1, rfl, _, rfl, Zet ?_⟩
 refine ⟨l1, _, rfl, .inl (SqL.of e1), l2, _, rfl, .inl (SqL.of e2), ?_⟩
 show (if (true ^^ decide ((((ws.map V.int).length : Nat) : Int) = (((ws.map V.int).length : Nat) : Int))) = true then _ else _)
 rw [decide_eq_true rfl]
 refine Zet ?_
 dsimp only [ZgW]
 refine ⟨l1, rfl, ⟨_, SqL.of e1⟩, ZfK (xs := ws.map V.int) (fun i σ H2 => ∃ o2 : Option V, σ = [some (.ref l1), some (.ref l2), o2] /\ H2 = H) ⟨none, rfl, rfl⟩ (fun i σ H2 _ ⟨_, _, e⟩ => by rw [e]; exact SqL.of e1) ?_ ?_⟩
 ·rintro i x σ H2 hx ⟨o2, rfl, rfl⟩
  rw [Zaz] at hx
  obtain ⟨z, hz, rfl⟩ := Zb8.mp hx
  refine ⟨_, _, _, _, true, rfl, fun _ r => r, .int _, rfl, _, rfl, Zet ?_⟩
  refine ⟨_, _, _, _, false, rfl, fun _ r => r, .int _, rfl, _, rfl, Zet ?_⟩
  exact ⟨_, rfl, rfl⟩
 ·rintro σ H2 ⟨o2, rfl, rfl⟩
  have fa : (ws.map V.int).all Zgd = true := by
   rw [ZaY]
   exact ZaZ.mpr fun _ _ => rfl
  refine ⟨l1, l2, _, _, rfl, rfl, SqL.of e1, SqL.of e2, fa, fa, ?_⟩
  rw [if_neg ZcY, Zkv]
  exact q _ (ZdH.refl _)
end
structure Pst (C : Addr) (H : Hp) (x dx pn pr pw ho : Addr) : Prop where
 o : H x = some (.ins C dx (fP pn pr pw))
 n : ∃ ys, H pn = some (.lst ys)
 r : ∃ ys, H pr = some (.lst ys)
 w : ∃ ys, H pw = some (.lst ys)
 h : ∃ ys, H ho = some (.lst ys)
 nr : pn ≠ pr
 nw : pn ≠ pw
 nh : pn ≠ ho
 rw' : pr ≠ pw
 rh : pr ≠ ho
 wh : pw ≠ ho
noncomputable abbrev pM (pn pr pw ho : Addr) : List Addr := [pn, pr, pw, ho]
theorem Pst.same {C : Addr} {H H' : Hp} {x dx pn pr pw ho : Addr} (p : Pst C H x dx pn pr pw ho) (s : ZdH H H') : Pst C H' x dx pn pr pw ho :=
 ⟨s _ _ p.o, p.n.imp fun _ h => s _ _ h, p.r.imp fun _ h => s _ _ h, p.w.imp fun _ h => s _ _ h, p.h.imp fun _ h => s _ _ h, p.nr, p.nw, p.nh, p.rw', p.rh, p.wh⟩
theorem Zf8 {H H' : Hp} {t : Addr} {names : List Str} {roots : List Nat} {L : List Nd} (m : ZnU H t names roots L) (s : ZdH H H') : ZnU H' t names roots L := by
 obtain ⟨n, r, w, u, d, xs, us, KA, e1, e2, e3, e4, i1, e5, i2, e6, dl, dk⟩ := m
 exact ⟨n, r, w, u, d, xs, us, KA, s _ _ e1, s _ _ e2, s _ _ e3, s _ _ e4, i1.mono (ZdH.tk s), s _ _ e5, i2.mono (ZdH.tk s), s _ _ e6, dl, fun i x nd h1 h2 => s _ _ (dk i x nd h1 h2)⟩
theorem Zn2 {L : List Nd} {k : Nat} {nd : Nd} (h : L[k]? = some nd) : duo (Zk3 L) k nd.ro = ZgA nd.κ nd.out := by
 unfold Nd.ro ZgA
 cases hk : nd.κ with
 | name w => show Zk3 L k w = _; rw [Zg1 h]
 | _ => rfl
theorem ZqB {H : Hp} {us : List V} {L : List Nd} (h : Ims H us (L.map fun nd => hoD (ZgA nd.κ nd.out))) : HoA H us (L.map Nd.ro) (Zk3 L) := fun k x ρ hx hρ => by
 rw [Zaz] at hρ
 obtain ⟨nd, hnd, rfl⟩ := Zb8.mp hρ
 obtain ⟨d, hd, hi⟩ := Zfk h hx
 rw [Zaz, hnd] at hd
 cases hd
 rw [Zn2 hnd]
 exact hi
theorem Zn3 {H : Hp} : ∀ {ys : List V} {ds : List Dt}, ys.length = ds.length -> (∀ (k : Nat) x d, ys[k]? = some x -> ds[k]? = some d -> Im H x d) -> Ims H ys ds
 | [], [], _, _ => .nil
 | y :: ys, d :: ds, h, f => .cons (f 0 y d rfl rfl) (Zn3 (by simpa using h) fun k x d' h1 h2 => f (k + 1) x d' h1 h2)
theorem Zo7 {H : Hp} {ys : List V} {L : List Nd} (hl : ys.length = (L.map Nd.ro).length) (h : HoA H ys (L.map Nd.ro) (Zk3 L)) : Ims H ys (L.map fun nd => hoD (ZgA nd.κ nd.out)) := by
 rw [Zar] at hl
 refine Zn3 (by rw [Zar]; exact hl) fun k x d hx hd => ?_
 rw [Zaz] at hd
 obtain ⟨nd, hnd, rfl⟩ := Zb8.mp hd
 have := h k x nd.ro hx (by rw [Zaz, hnd]; rfl)
 rw [Zn2 hnd] at this
 exact this
theorem Zo8 {nd : Nd} {x : Str} (h : nd.ro = .name x) : nd.κ = .name x := by
 unfold Nd.ro at h
 cases hk : nd.κ with
 | name w => rw [hk] at h; cases h; rfl
 | num w => rw [hk] at h; cases h
 | fn w => rw [hk] at h; cases h
 | tag w => rw [hk] at h; cases h
 | lt w => rw [hk] at h; cases h
 | get w => rw [hk] at h; cases h
 | rcd w => rw [hk] at h; cases h
 | case w => rw [hk] at h; cases h
 | row w => rw [hk] at h; cases h
 | op s m => rw [hk] at h; cases h
theorem Zn4 {names : List Str} {roots : List Nat} {L : List Nd} (m : MI names roots L []) (n : Nat) : Nmd (L.map Nd.ro) (Zk3 L) n := fun k x _ h => by
 rw [Zaz] at h
 obtain ⟨nd, hnd, e⟩ := Zb8.mp h
 rw [Zg1 hnd]
 exact Zng _ _ (m.nm k nd x hnd (Zo8 e))
theorem ZmA {names : List Str} {roots : List Nat} {L : List Nd} (m : MI names roots L []) (nn : ∀ n ∈ names, n ≠ "none") : ∀ (n k : Nat), k < n -> ∀ nd : Nd, L[k]? = some nd -> ∀ p ∈ nd.out, p.1 ≠ "none"
 | 0, k, h => absurd h (Zb1 _)
 | n + 1, k, hk => fun nd hnd p hp => by
  have kl := (Zaj.mp hnd).1
  have gn : ∀ i, i < names.length -> names.getD i "" ≠ "none" := fun i hi => by
   rw [Za3, Za0 hi]
   exact nn _ (Za4 hi)
  rcases m.reach k kl with ⟨i, hi⟩ | ⟨q, ndq, h1, h2, h3⟩
  ·obtain ⟨nd', g1, g2⟩ := m.root i k hi
   rw [hnd] at g1
   cases g1
   have il := (Zaj.mp hi).1
   have rl := m.rl
   rw [g2] at hp
   rcases Zah.mp hp with hp | hp
   ·unfold defs at hp
    obtain ⟨d, hd, rfl⟩ := ZaS.mp hp
    have := Zac.mp hd
    exact gn d (by omega)
   ·by_cases hf : nd.isF = true
    ·rw [if_pos hf, ZaU] at hp
     rw [hp]
     exact gn i (by omega)
    ·rw [if_neg hf] at hp
     cases hp
  ·obtain ⟨j, hj⟩ := Zbt.mp h3
   obtain ⟨h4, h, ndc, h5, h6, h7⟩ := m.kid q ndq j k h2 hj
   rw [hnd] at h6
   cases h6
   rw [h7] at hp
   rcases Zah.mp hp with hp | hp
   ·exact ZmA m nn n q (by omega) ndq h2 p hp
   ·unfold exL at hp
    have hh := (m.ok ndq (ZaA h2)).2 h (ZaA h5)
    obtain ⟨o, how⟩ := h
    cases o with
    | none => cases hp
    | some w =>
     have hp : p ∈ [((w, (how, if how = ("let" : Str) then (((q + 1 : Nat)) : Int) else (k : Int))) : Str × Hm)] := hp
     rw [ZaU] at hp
     rw [hp]
     exact fun z => hh (by rw [show w = "none" from z]; rfl)
theorem Zns {names : List Str} {roots : List Nat} {L : List Nd} (m : MI names roots L []) (nn : ∀ n ∈ names, n ≠ "none") {k : Nat} (hk : k < L.length) : Zk3 L k "none" = none := by
 rw [Zg1 (Za0 hk)]
 cases h : look L[k].out "none" with
 | none => rfl
 | some z => exact absurd rfl (ZmA m nn (k + 1) k (ZbY _) _ (Za0 hk) _ (Zkr h))
section
variable {P : Program} {w : World} {K : PySem.W.Frag} {mg : Str -> Option Value} {base : Heap}
def Zj6 : Sp := fun vs H Q _ => ∃ (a b : Addr) (xs ys : List V), vs = [.ref a, .ref b] /\ H a = some (.lst xs) /\ H b = some (.lst ys) /\ a ≠ b /\ ys.length <= 1000 /\ Q .non (upd H a (.lst ys))
theorem ZhS (T : Txt K mg) : ZfA P w K mg base CX0 1 T.a_put T.fd_put ["_law_kept", "_law_new"] Zj6 := by
 refine T.F_put.ok ZjU (fun vs H Q E h => ?_) (fun cdv A outer s H vs Q E hr h => ?_)
 ·obtain ⟨a, b, xs, ys, rfl, _⟩ := h
  rfl
 obtain ⟨a, b, xs, ys, rfl, ea, eb, hne, hl, q⟩ := h
 refine ⟨_, (Zdo (Zd6 (Zlz ZcR PySem.F.slot_list_clear PySem.F.type_list_clear ZmR (cv 0)))
  (Zdu (Zd6 (ZfW ZcR ZcU ZcV Zhr (cv 0) (Zdn (cv 1) Zdq))))), ?_⟩
 have sl : sizeLine = 16777216 := sizeLine_eq
 refine ⟨.inl ⟨rfl, _, SqL.of ea⟩, a, _, rfl, rfl, ea, .inl ⟨rfl, _, SqL.of Zdp⟩, a, b, [], ys, rfl, rfl, Zdp, by rw [Zdt hne.symm]; exact eb, by rw [ZaG]; omega, ?_⟩
 rw [ZgT, ZaR]
 exact q
end
theorem Zo9 {v : V} {i : Nat} {u : TS} {D : ZfS} {σ : St} {H : Hp} (h : u D (σ.set i (some v)) H) : Zjs (Zpe (tC v) (Zd1 i)) u D σ H := h
def Tld (H : Hp) (f : Addr) : Prop := ∃ (zs : List V) (ds : List Dt), H f = some (.lst zs) /\ Ims H zs ds /\ ZeK ds <= 1 /\ zs.length <= 1000
theorem Zkw {H : Hp} : ∀ l : List Int, Ims H (l.map V.int) (l.map kD)
 | [] => .nil
 | k :: ks => .cons (.flat rfl) (Zkw ks)
section
variable {P : Program} {w : World} {K : PySem.W.Frag} {mg : Str -> Option Value} {base : Heap}
def ZiI (C : Addr) : Sp := fun vs H Q _ => ∃ (x dx pn pr pw ho t : Addr) (names : List Str) (roots : List Nat) (L : List Nd), vs = [.ref x, .ref ho, .ref t] /\ Pst C H x dx pn pr pw ho /\ MI names roots L [] /\ names.Nodup /\ ZnU (Zfn H (pM pn pr pw ho)) t names roots L /\
 ∀ (rl : Addr) (fs : List Addr) (H' : Hp), ZdH (Zfn H (pM pn pr pw ho)) (Zfn H' (pM pn pr pw ho)) -> Pst C H' x dx pn pr pw ho -> rl ∉ pM pn pr pw ho -> H' rl = some (.lst (fs.map V.ref)) -> fs.length <= 2 -> (∀ f ∈ fs, Tld (Zfn H' (pM pn pr pw ho)) f) -> Q (.ref rl) H'
theorem ZiJ (T : Txt K mg) : ZfA P w K mg base CX0 20 T.a_asked T.fd_asked ["_law_program_here", "_law_homes", "_law_drawn"] (ZiI T.a_Program) := by
 have G_put := ZhS (P := P) (w := w) (base := base) T
 have G_weights := ZhO (P := P) (w := w) (base := base) T
 have G_homes_of := ZhH (P := P) (w := w) (base := base) T
 have G_weights_of := ZiH (P := P) (w := w) (base := base) T
 have G_alike := ZiD (P := P) (w := w) (base := base) T
 have G_numbers := ZhR (P := P) (w := w) (base := base) T
 refine T.F_asked.ok ZdX (fun vs H Q E h => ?_) (fun cdv A outer s H vs Q E hr h => ?_)
 ·obtain ⟨x, dx, pn, pr, pw, ho, t, names, roots, L, rfl, _⟩ := h
  rfl
 obtain ⟨x, dx, pn, pr, pw, ho, t, names, roots, L, rfl, ps, mi, nn, md, q⟩ := h
 refine ⟨_, (Zdo (ZiM (cv 2) (Zg3 rfl (ZdY (ZdQ (i := 3) ZdX.nd rfl (.inr rfl)) (ZdY (ZdQ (i := 4) ZdX.nd rfl (.inr rfl)) (ZdY (ZdQ (i := 5) ZdX.nd rfl (.inl rfl)) (ZdY (ZdQ (i := 6) ZdX.nd rfl (.inl rfl)) (ZdY (ZdQ (i := 7) ZdX.nd rfl (.inl rfl)) ZfF)))))))
  (Zdo (Zd6 (ZdO G_put (hr.mono (by decide)) rfl T.m_put T.k_put T.b_put .nil ZeG (Zdn (Zev T.cl_Program T.n_Program_names (cv 0)) (Zdn (cv 3) Zdq))))
  (Zdo (Zd6 (ZdO G_put (hr.mono (by decide)) rfl T.m_put T.k_put T.b_put .nil ZeG (Zdn (Zev T.cl_Program T.n_Program_roots (cv 0)) (Zdn (cv 4) Zdq))))
  (Zdo (Zd6 (ZdO G_put (hr.mono (by decide)) rfl T.m_put T.k_put T.b_put .nil ZeG (Zdn (Zev T.cl_Program T.n_Program_rows (cv 0)) (Zdn (cv 5) Zdq))))
  (Zdo (Zd6 (ZdO G_put (hr.mono (by decide)) rfl T.m_put T.k_put T.b_put .nil ZeG (Zdn (cv 1) (Zdn (cv 6) Zdq))))
  (Zdo (ZdE (i := 8) ZdX.nd rfl (.inl rfl) (ZdO G_homes_of (hr.mono (by decide)) rfl T.m_homes_of T.k_homes_of T.b_homes_of .nil Zqi (Zdn (cv 0) Zdq)))
  (Zdo (Zd0 (Zgj (ZfB (ZdO G_alike (hr.mono (by decide)) rfl T.m_alike T.k_alike T.b_alike .nil ZeG (Zdn (cv 8) (Zdn (cv 6) Zdq)))))
   (Zdu (ZdL Zgh))
   ZdI)
  (Zdo (ZdE (i := 9) ZdX.nd rfl (.inr rfl) (ZdO G_weights (hr.mono (by decide)) rfl T.m_weights T.k_weights T.b_weights .nil ZeG (Zdn (cv 5) (Zdn (cv 4) (Zdn (cv 6) (Zdn (cv 7) Zdq))))))
  (Zdo (Zhg (j := 10) rfl (ZlL (x := "_law_d") ["_law_weights_here", "_law_roots", "_law_names"] [("_law_weights_here", 9, s.heap.objs.size + 3), ("_law_roots", 4, s.heap.objs.size + 2), ("_law_names", 3, s.heap.objs.size + 1)] rfl rfl (by decide +kernel) (by decide +kernel) rfl (by decide +kernel) rfl rfl (by intro p hp; simp only [Zag, Za1, or_false] at hp; rcases hp with rfl | rfl | rfl <;> exact ⟨rfl, rfl, rfl, rfl⟩)) (Zeu rfl T.z_range (Zdn (ZdC Zdz rfl T.z_len Zd4 (Zdn (cv 3) Zdq)) Zdq)) (fun _ _ _ _ _ => (ZjI (ZdA Zhx (ZdG ZdD (cv 1) (ZdG ZdD (cv 2) (cv 0) (fun _ _ => rfl)) (fun _ _ => rfl)) Zds (ZdK _)))) (fun _ _ _ _ _ => (ZdG ZdD (cv 3) (cv 0) (fun _ _ => rfl))) ZdX.nd rfl (.inl rfl))
  (Zdo (ZdE (i := 11) ZdX.nd rfl (.inl rfl) Zgh)
  (Zdo (ZdE (i := 12) ZdX.nd rfl (.inl rfl) Zgh)
  (Zdo (ZkT G_weights_of (hr.mono (by decide)) rfl T.m_weights_of T.k_weights_of T.b_weights_of .nil (Zdn (cv 0) (Zdn (cv 1) Zdq)) (j := 11) (i := 13) ZdX.nd rfl rfl rfl rfl rfl T.m_TooHeavy ⟨rfl, rfl⟩ rfl (fun _ =>
   (Zdu (ZdE (i := 12) ZdX.nd rfl (.inl rfl) (cv 13)))))
  (Zdo (Zd0 (ZdA Zhx (ZdC Zdz rfl T.z_len Zd4 (Zdn (cv 10) Zdq)) Zds (ZdK _))
   (Zdo (Zd0 (PW.pt (Zgn (Zgi (Zj7 (cv 12))) (ZfQ (ZdA ZkN (ZjR (cv 12) rfl) (ZdG ZdD (cv 10) Zds (fun _ _ => rfl)) (ZdK _)))))
    (Zdu (ZdL Zgh))
    ZdI)
   (Zdu (ZdL (ZdN (Zdn (cv 8) Zdq)))))
   ZdI)
  (Zdo (Zd0 (PW.pt (Zgn (Zgi (Zih (cv 12))) (ZfQ (Zgj (ZfB (ZdO G_numbers (hr.mono (by decide)) rfl T.m_numbers T.k_numbers T.b_numbers .nil ZeG (Zdn (cv 11) (Zdn (cv 9) Zdq))))))))
   (Zdu (ZdL Zgh))
   ZdI)
  (Zdu (ZdL (ZdN (Zdn (cv 8) (Zdn (cv 11) Zdq))))))))))))))))))), ?_⟩
 have sl : sizeLine = 16777216 := sizeLine_eq
 obtain ⟨an, ar, aw, au, adk, xs, us, KA, et, en0, er, ew, ims, eu, imu, ed, dl, dk⟩ := md
 have Ll := mi.sz
 have nl := mi.nl
 have rl := mi.rl
 have lx := ims.length
 rw [Zar] at lx
 have lu := imu.length
 rw [Zar] at lu
 obtain ⟨nt, et'⟩ := Zea et
 obtain ⟨nan, en'⟩ := Zea en0
 obtain ⟨nar, er'⟩ := Zea er
 obtain ⟨naw, ew'⟩ := Zea ew
 obtain ⟨nau, eu'⟩ := Zea eu
 have neM : ∀ {b : Addr}, b ∉ pM pn pr pw ho -> b ≠ pn /\ b ≠ pr /\ b ≠ pw /\ b ≠ ho := fun {b} h => by
  simp only [pM, Zag, Za1, or_false, not_or] at h
  exact h
 refine ⟨t, _, rfl, SqT.of et', rfl, _, _, rfl, _, _, rfl, _, _, rfl, _, _, rfl, _, _, rfl, rfl, ?_⟩
 have hxn : ∀ {b : Addr} {ys : List V}, H b = some (.lst ys) -> x ≠ b := fun h => ZgC ps.o h (fun z => nomatch z)
 obtain ⟨y1, f1⟩ := ps.n
 obtain ⟨y2, f2⟩ := ps.r
 obtain ⟨y3, f3⟩ := ps.w
 obtain ⟨y4, f4⟩ := ps.h
 refine ⟨_, ⟨dx, _, ps.o, ZgN _ _ _⟩, pn, an, _, _, rfl, f1, en', (neM nan).1.symm, by rw [Zar]; omega, ?_⟩
 refine ⟨_, ⟨dx, _, by rw [Zdt (hxn f1)]; exact ps.o, ZfO _ _ _⟩, pr, ar, _, _, rfl, by rw [Zdt ps.nr.symm]; exact f2, by rw [Zdt (neM nar).1]; exact er', (neM nar).2.1.symm, by rw [Zar]; omega, ?_⟩
 refine ⟨_, ⟨dx, _, by rw [Zdt (hxn f2), Zdt (hxn f1)]; exact ps.o, Zf3 _ _ _⟩, pw, aw, _, _, rfl, by rw [Zdt ps.rw'.symm, Zdt ps.nw.symm]; exact f3, by rw [Zdt (neM naw).2.1, Zdt (neM naw).1]; exact ew', (neM naw).2.2.1.symm, by omega, ?_⟩
 refine ⟨ho, au, _, _, rfl, by rw [Zdt ps.wh.symm, Zdt ps.rh.symm, Zdt ps.nh.symm]; exact f4, by rw [Zdt (neM nau).2.2.1, Zdt (neM nau).2.1, Zdt (neM nau).1]; exact eu', (neM nau).2.2.2.symm, by omega, ?_⟩
 have m1 : pn ∈ pM pn pr pw ho := by simp
 have m2 : pr ∈ pM pn pr pw ho := by simp
 have m3 : pw ∈ pM pn pr pw ho := by simp
 have m4 : ho ∈ pM pn pr pw ho := by simp
 obtain ⟨H4, hH4⟩ : ∃ H4, upd (upd (upd (upd H pn (.lst (names.map V.str))) pr (.lst (roots.map nI))) pw (.lst xs)) ho (.lst us) = H4 := ⟨_, rfl⟩
 rw [hH4]
 have SM : ZdH (Zfn H (pM pn pr pw ho)) (Zfn H4 (pM pn pr pw ho)) := by rw [<- hH4]; exact (Zd5 m1).trans ((Zd5 m2).trans ((Zd5 m3).trans (Zd5 m4)))
 have gx : H4 x = some (.ins T.a_Program dx (fP pn pr pw)) := by rw [<- hH4, Zdt (hxn f4), Zdt (hxn f3), Zdt (hxn f2), Zdt (hxn f1)]; exact ps.o
 have gn : H4 pn = some (.lst (names.map V.str)) := by rw [<- hH4, Zdt ps.nh, Zdt ps.nw, Zdt ps.nr, Zdp]
 have gr : H4 pr = some (.lst (roots.map nI)) := by rw [<- hH4, Zdt ps.rh, Zdt ps.rw', Zdp]
 have gw : H4 pw = some (.lst xs) := by rw [<- hH4, Zdt ps.wh, Zdp]
 have gh : H4 ho = some (.lst us) := by rw [<- hH4, Zdp]
 have S4 := SM.trans Zeh
 have ps4 : Pst T.a_Program H4 x dx pn pr pw ho := ⟨gx, ⟨_, gn⟩, ⟨_, gr⟩, ⟨_, gw⟩, ⟨_, gh⟩, ps.nr, ps.nw, ps.nh, ps.rw', ps.rh, ps.wh⟩
 have ims4 := ims.mono (ZdH.tk S4)
 have imu4 := imu.mono (ZdH.tk S4)
 have en4 := S4 _ _ en0
 have er4 := S4 _ _ er
 have ew4 := S4 _ _ ew
 have eu4 := S4 _ _ eu
 have ed4 := S4 _ _ ed
 have inM : ∀ b ∈ pM pn pr pw ho, ∃ ys, H4 b = some (.lst ys) := fun b hb => by
  simp only [pM, Zag, Za1, or_false] at hb
  rcases hb with rfl | rfl | rfl | rfl
  ·exact ⟨_, gn⟩
  ·exact ⟨_, gr⟩
  ·exact ⟨_, gw⟩
  ·exact ⟨_, gh⟩
 have nin : ∀ {b : Addr}, H4 b = none -> b ∉ pM pn pr pw ho := fun {b} hb z => by obtain ⟨ys, h⟩ := inM b z; rw [hb] at h; cases h
 have pr4 : PrA T.a_Program H4 x pn pr pw dx xs names roots (L.map Nd.ro) := ⟨gx, gn, gr, gw, by rw [Zbr]; exact ims4⟩
 refine ⟨x, pn, pr, pw, dx, xs, names, roots, L.map Nd.ro, Zk3 L, rfl, pr4, mi.toMI0.good nn, fun _ lf ys H5 S5 hlf elf yl hoa => ?_, fun k z nmd hk hz => absurd (Zn4 mi (k + 1) k z (ZbY _) hk) (fun ⟨h, hh⟩ => by rw [hz] at hh; cases hh)⟩
 dsimp only [Zd1]
 refine ⟨lf, au, ys, us, L.map Nd.ro, Zk3 L, rfl, elf, S5 _ _ eu4, yl, by rw [Zar]; exact lu, hoa, ZqB (imu4.mono (ZdH.tk S5)), fun H6 S6 => ⟨_, rfl, Zet ?_⟩⟩
 have S46 := S5.trans S6
 refine ⟨aw, ar, au, adk, xs, us, KA, names, roots, L, rfl, mi, S46 _ _ ew4, lx, S46 _ _ er4, S46 _ _ eu4, imu4.mono (ZdH.tk S46), S46 _ _ ed4, dl, fun i b nd h1 h2 => S46 _ _ (S4 _ _ (dk i b nd h1 h2)), fun lw H7 S7 hlw elw => ?_⟩
 dsimp only [Zd1]
 have S47 := S46.trans S7
 refine ⟨an, _, rfl, .inl (SqL.of (S47 _ _ en4)), _, rfl, by rw [Zar]; omega, by rw [Zar]; omega, fun lh hlh => ?_⟩
 refine ZnM (xs := (Zaa names.length).map nI) (hvP roots L) (hvG names) hlh (by rw [Zar, Zbm]; omega) rfl (fun k H _ h => ?_) (fun k H v H' _ h y => ?_) (fun H _ => ?_) ?_ ?_ ?_
 ·rw [Zar, Zbm] at h
  rw [Zar]
  exact h
 ·obtain ⟨rfl, rfl⟩ := y
  rw [Zar, Zbm] at h
  refine ⟨rfl, ?_⟩
  rw [Zaz, Zbx h, Zdb]
  rfl
 ·show _ <= _
  rw [Zar, Zar, Zbm]
  exact ZbV _
 ·intro k v H8 R hv S hR
  rw [Zaz] at hv
  obtain ⟨d, hd, rfl⟩ := Zb8.mp hv
  obtain ⟨hk, rfl⟩ := Zaj.mp hd
  rw [Zbm] at hk
  rw [ZbO] at hR ⊢
  obtain ⟨r0, h1⟩ : ∃ r0, roots[k]? = some r0 := ⟨_, Za0 (by omega)⟩
  have h2 := mi.rootL _ (ZaA h1)
  refine ⟨_, (S47.trans S) _ _ er4, Zdx (v := nI r0) (Zdw (by rw [Zaz, h1]; rfl)) ⟨_, S _ _ elw, Zdx (v := .int (Wt roots L r0)) (Zdw (by rw [Zaz, Zaz, Zbx h2.1]; rfl)) ?_⟩⟩
  have e : hvP roots L (nI k) = decide (60 < Wt roots L r0) := by
   show decide (60 < Wt roots L (roots.getD ((k : Int)).toNat 0)) = _
   rw [Zda, Zg2 h1]
  rw [e] at hR
  exact hR
 ·intro k v H8 R hv hp S hR
  rw [Zaz] at hv
  obtain ⟨d, hd, rfl⟩ := Zb8.mp hv
  obtain ⟨hk, rfl⟩ := Zaj.mp hd
  rw [Zbm] at hk
  rw [ZbO] at hR ⊢
  obtain ⟨n0, h1⟩ : ∃ n0, names[k]? = some n0 := ⟨_, Za0 (by omega)⟩
  refine ⟨_, (S47.trans S) _ _ en4, Zdx (v := .str n0) (Zdw (by rw [Zaz, h1]; rfl)) ?_⟩
  have e : hvG names (nI k) = .str n0 := by
   show V.str (names.getD ((k : Int)).toNat "") = _
   rw [Zda, Za3, h1]
   rfl
  rw [e] at hR
  exact hR
 intro H8 S8 elh
 have elh : H8 lh = some (.lst (hvL names roots L)) := elh
 dsimp only [Zd1]
 have S48 := S47.trans S8
 have flw := S8 _ _ elw
 have flf := (S6.trans (S7.trans S8)) _ _ elf
 have nlf := nin hlf
 have imf : Ims H8 ys (L.map fun nd => hoD (ZgA nd.κ nd.out)) := (Zo7 yl hoa).mono (ZdH.tk (S6.trans (S7.trans S8)))
 have yl' : ys.length = L.length := by rw [yl, Zar]
 refine Zo9 (Zo9 (Zmz [some (.ref x), some (.ref ho), some (.ref t), some (.ref an), some (.ref ar), some (.ref aw), some (.ref au), some (.ref adk), some (.ref lf), some (.ref lw), some (.ref lh), some .non, some .non, none] (fun σ H12 => ∃ vf vc : V, σ = [some (.ref x), some (.ref ho), some (.ref t), some (.ref an), some (.ref ar), some (.ref aw), some (.ref au), some (.ref adk), some (.ref lf), some (.ref lw), some (.ref lh), some vf, some vc, none] /\ ZdH H8 H12 /\
  ((hvL names roots L = [] /\ vc = .non /\ ∃ lt, vf = .ref lt /\ H8 lt = none /\ H12 lt = some (.lst (((Zaa L.length).map (Wt roots L)).map V.int))) \/
    ∃ (ea dz : Addr) (y : Str) (rest : List V), hvL names roots L = .str y :: rest /\ vc = .ref ea /\ H12 ea = some (Zk2 ea T.a_TooHeavy dz) /\ H12 dz = some (ZjQ dz [("word", .str y)]))) rfl ?_ ?_))
 ·rintro σ H12 ⟨vf, vc, rfl, S12, cs⟩
  have S412 := S48.trans S12
  refine ⟨lh, _, rfl, .inl (SqL.of (S12 _ _ elh)), ?_⟩
  show if decide ((0 : Int) < (((hvL names roots L).length : Nat) : Int)) = true then _ else _
  have fin : ∀ (rl : Addr) (fs : List Addr) (H' : Hp), ZdH H12 H' -> H12 rl = none -> H' rl = some (.lst (fs.map V.ref)) -> fs.length <= 2 -> (∀ f ∈ fs, f ∉ pM pn pr pw ho /\ ∃ (zs : List V) (ds : List Dt), H' f = some (.lst zs) /\ Ims H' zs ds /\ ZeK ds <= 1 /\ zs.length <= 1000) -> Q (.ref rl) H' := fun rl fs H' S' hrl erl hf hfs => by
   have nrl := nin (S412.free hrl)
   have SS := S412.trans S'
   refine q rl fs H' (SM.trans (Ze8 SS)) (ps4.same SS) nrl erl hf fun f hm => ?_
   obtain ⟨h1, zs, ds, h2, h3, h4, h5⟩ := hfs f hm
   exact ⟨zs, ds, ZeF h1 h2, h3.mono (Zj4 fun b hb => by obtain ⟨ws, hw⟩ := inM b hb; exact ⟨ws, SS _ _ hw⟩), h4, h5⟩
  have dep1 : ZeK (L.map fun nd => hoD (ZgA nd.κ nd.out)) <= 1 := Zhv fun nd hnd => by cases ZgA nd.κ nd.out <;> simp [hoD, hmD, ZhV, ZeK]
  rcases cs with ⟨h0, rfl, lt, rfl, hlt, elt⟩ | ⟨ea, dz, y, rest, h0, rfl, eea, edz⟩
  ·rw [h0]
   refine Zet ⟨_, rfl, ?_⟩
   show if (!decide (V.non = V.non)) = true then _ else _
   rw [decide_eq_true rfl]
   refine Zet ⟨lt, lw, _, rfl, elt, S12 _ _ flw, fun H13 S13 => ⟨_, rfl, Zet ?_⟩⟩
   refine ⟨(by show 2 <= sizeLine; decide), fun rl hrl => ?_⟩
   have s14 := Zdr hrl (.lst [.ref lf, .ref lt])
   refine fin rl [lf, lt] _ (S13.trans s14) (S13.free hrl) Zdp (ZbV _) fun f hm => ?_
   rcases Zag.mp hm with rfl | hm
   ·exact ⟨nlf, ys, _, ((S12.trans S13).trans s14) _ _ flf, imf.mono (ZdH.tk ((S12.trans S13).trans s14)), dep1, by omega⟩
   ·rw [ZaU] at hm
    subst hm
    refine ⟨nin (S48.free hlt), _, _, (S13.trans s14) _ _ elt, Zkw _, ?_, by rw [Zar, Zar, Zbm]; omega⟩
    exact ZbS (Zhv (n := 0) fun p _ => by simp [kD, ZhV]) (ZbW _)
  ·have elh12 := S12 _ _ elh
   rw [h0] at elh12
   rw [h0, decide_eq_true (by rw [Zao]; omega)]
   have wd : Zap ("word" : Str) [(("word" : Str), V.str y)] = some (.str y) := ZkX
   refine Zfq ⟨_, rfl, ?_⟩
   rw [decide_eq_false (fun z => nomatch z)]
   refine Zet ⟨ea, T.a_TooHeavy, dz, _, .str y, rfl, eea, edz, T.xs_TooHeavy.xc, T.xf_TooHeavy_word, wd, _, elh12, Zdx (Zdw (j := 0) rfl) ?_⟩
   show if (true ^^ decide (y = y)) = true then _ else _
   rw [decide_eq_true rfl]
   refine Zet ⟨(by show 1 <= sizeLine; decide), fun rl hrl => ?_⟩
   have s14 := Zdr hrl (.lst [.ref lf])
   refine fin rl [lf] _ s14 hrl Zdp (by show 1 <= 2; decide) fun f hm => ?_
   rw [ZaU] at hm
   subst hm
   exact ⟨nlf, ys, _, (S12.trans s14) _ _ flf, imf.mono (ZdH.tk (S12.trans s14)), dep1, by omega⟩
 ·intro Dx hNx
  refine ⟨x, pn, pr, pw, dx, ho, xs, us, names, roots, L, rfl, mi, S48 _ _ gx, S48 _ _ gn, S48 _ _ gr, S48 _ _ gw, ims4.mono (ZdH.tk S48), S48 _ _ gh, imu4.mono (ZdH.tk S48), fun light lt H12 S12 hlt elt => ?_, fun i s y hs hy heavy light dz H12 S12 edz => ?_⟩
  ·rcases ZqA (L := L) rl with ⟨_, h0⟩ | ⟨i, s, y, rest, h1, _, h2, _⟩
   ·exact hNx _ _ ⟨_, _, rfl, S12, .inl ⟨h0, rfl, lt, rfl, hlt, elt⟩⟩
   ·have := light i s h1
    omega
  ·refine ⟨_, dz, rfl, rfl, T.e_TooHeavy_TooHeavy, fun ea hea => ?_⟩
   have s13 := Zdr hea (Zk2 ea T.a_TooHeavy dz)
   rcases ZqA (L := L) rl with ⟨h0, _⟩ | ⟨i', s', y', rest, h1, h1', h2, h3, h4⟩
   ·have := h0 i s hs
    omega
   ·have ii : i' = i := by
     by_cases z : i' < i
     ·have := light i' s' z h1
      omega
     ·by_cases z2 : i < i'
      ·have := h3 i s z2 hs
       omega
      ·omega
    subst ii
    rw [hy] at h1'
    cases h1'
    exact hNx _ _ ⟨_, _, rfl, S12.trans s13, .inr ⟨ea, dz, y, rest, h4, rfl, Zdp, s13 _ _ edz⟩⟩
end
theorem ZqC {J : It} {xs : List V} {i : Nat} {tt : TT} {te : TE} {Q : VK} {τ : St} {H1 : Hp} {D : Addr} (p : V -> Bool) (hD : H1 D = none) (hz : xs.length <= sizeLine) (hτ : τ.set i none = τ)
  (hgo : ∀ k H, ZdH H1 H -> k < xs.length -> J.go k H) (hy : ∀ k H v H', ZdH H1 H -> k < xs.length -> J.yld k H v H' -> H' = H /\ xs[k]? = some v) (hst : ∀ H, ZdH H1 H -> J.stop xs.length H)
  (htt : ∀ (k : Nat) v H R, xs[k]? = some v -> ZdH H1 H -> (∀ H', ZdH H H' -> R (p v) H') -> tt (τ.set i (some v)) H R)
  (hte : ∀ (k : Nat) v H R, xs[k]? = some v -> ZdH H1 H -> R v H -> te (τ.set i (some v)) H R)
  (hq : ∀ H', ZdH H1 H' -> H' D = some (.lst (xs.filter p)) -> Q (.ref D) H') : LcP J i tt te Q τ H1 D := by
 have sm : ∀ {H2 : Hp} (o : HO), ZdH H1 H2 -> ZdH H1 (upd H2 D o) := fun o s => ZdP s hD o
 refine ⟨fun k m σ' H2 => m = xs.length - k /\ k <= xs.length /\ (∃ o, σ' = τ.set i o) /\ ZdH H1 H2 /\ H2 D = some (.lst ((xs.take k).filter p)), ⟨xs.length, by simp, ZbW _, ⟨none, hτ.symm⟩, sm _ (ZdH.refl _), by rw [Zdp]; simp⟩, ?_⟩
 rintro k m σ' H2 ⟨rfl, hk, ⟨o, rfl⟩, S2, e2⟩
 by_cases hlt : k < xs.length
 ·refine .inr ⟨hgo k _ S2 hlt, fun v H3 y => ?_⟩
  obtain ⟨e, hv⟩ := hy k _ v H3 S2 hlt y
  subst e
  rw [Za5]
  have tk : (xs.take (k + 1)).filter p = (xs.take k).filter p ++ (if p v then [v] else []) := take_succ_filter p xs k v hv
  have ll : ((xs.take k).filter p).length <= k := by
   refine ZbS (Zbn _ _) ?_
   rw [Zaw]
   omega
  refine htt k v _ _ hv S2 fun H4 S4 => ?_
  have e4 := S4 _ _ e2
  cases hp : p v with
  | true =>
   rw [if_pos rfl]
   refine hte k v _ _ hv (S2.trans S4) ?_
   refine ⟨_, e4, by omega, xs.length - (k + 1), by omega, rfl, hlt, ⟨some v, rfl⟩, sm _ (S2.trans S4), ?_⟩
   rw [Zdp, tk, hp, if_pos rfl]
  | false =>
   rw [if_neg ZcY]
   refine ⟨xs.length - (k + 1), by omega, rfl, hlt, ⟨some v, rfl⟩, S2.trans S4, ?_⟩
   rw [tk, hp, if_neg ZcY, Zas]
   exact e4
 ·have e : k = xs.length := by omega
  subst e
  refine .inl ⟨hst _ S2, hq _ S2 ?_⟩
  rw [Zbf] at e2
  exact e2
noncomputable def Ro.nn : Ro -> Bool
 | .num _ => true
 | .name _ => true
 | _ => false
theorem ZqD (ρ : Ro) (h : ρ.ok) : inV (.str ρ.s) [.str "num", .str "name"] = ρ.nn := by
 rw [Zqe ρ h]
 cases ρ <;> rfl
noncomputable def plP (L : List Nd) : V -> Bool
 | .int k => match L[k.toNat]? with
  | some nd => nd.ro.nn
  | none => false
 | _ => false
theorem Zn5 {L : List Nd} {k : Nat} {nd : Nd} (h : L[k]? = some nd) : plP L (nI k) = nd.ro.nn := by
 show (match L[((k : Int)).toNat]? with | some nd => nd.ro.nn | none => false) = _
 rw [Zda, h]
theorem ZqE {ρ : Ro} (h : ρ.nn = true) : ρ.pl = [] /\ ρ.ex = [] /\ ρ.isF = false := by
 cases ρ with
 | num a => exact ⟨rfl, rfl, rfl⟩
 | name a => exact ⟨rfl, rfl, rfl⟩
 | _ => cases h
theorem Znt {names : List Str} {roots : List Nat} {ρs : List Ro} {out : Nat -> Str -> Option Hm} {k : Nat} {ρ : Ro} (g : Zqh names roots ρs out) (hk : ρs[k]? = some ρ) (hn : ρ.nn = true) : Zqh names roots (ρs.set k (.name "none")) out where
 nn := g.nn
 nl := g.nl
 rl := g.rl
 ok := fun z hz => by
  obtain ⟨i, hi⟩ := Zbt.mp hz
  rw [ZbK] at hi
  by_cases e : k = i
  ·rw [if_pos e] at hi
   split at hi
   ·cases hi; trivial
   ·cases hi
  ·rw [if_neg e] at hi
   exact g.ok z (ZaA hi)
 pn := by rw [ZaK]; exact g.pn
 rlt := fun i r h => by rw [ZaK]; exact g.rlt i r h
 root := fun i r z h hz => by
  rw [ZbK] at hz
  by_cases e : k = r
  ·rw [if_pos e] at hz
   split at hz
   ·cases hz
    have := g.root i r ρ h (by rw [<- e]; exact hk)
    rw [(ZqE hn).2.2] at this
    exact this
   ·cases hz
  ·rw [if_neg e] at hz
   exact g.root i r z h hz
 kid := fun i z j c e hz hj he => by
  rw [ZbK] at hz
  by_cases e' : k = i
  ·rw [if_pos e'] at hz
   split at hz
   ·cases hz; cases hj
   ·cases hz
  ·rw [if_neg e'] at hz
   exact g.kid i z j c e hz hj he
 reach := fun i h => by
  rw [ZaK] at h
  rcases g.reach i h with h | ⟨k', z, h1, h2, h3⟩
  ·exact .inl h
  ·refine .inr ⟨k', z, h1, ?_, h3⟩
   rw [ZbK]
   by_cases e' : k = k'
   ·rw [<- e', hk] at h2
    cases h2
    rw [(ZqE hn).1] at h3
    cases h3
   ·rw [if_neg e']
    exact h2
theorem ZmB {H : Hp} {v : V} {d : Dt} (hv : Im H v d) : ∀ {xs : List V} {ds : List Dt} (k : Nat), Ims H xs ds -> Ims H (xs.set k v) (ds.set k d)
 | _, _, _, .nil => .nil
 | _, _, 0, .cons _ hs => .cons hv hs
 | _, _, k + 1, .cons h hs => .cons h (ZmB hv k hs)
section
variable {P : Program} {w : World} {K : PySem.W.Frag} {mg : Str -> Option Value} {base : Heap}
def ZhT (C : Addr) : Sp := fun vs H Q _ => ∃ (x dx pn pr pw ho t : Addr) (mix : Int) (names : List Str) (roots : List Nat) (L : List Nd), vs = [.ref x, .ref t, .int mix] /\ Pst C H x dx pn pr pw ho /\ MI names roots L [] /\ names.Nodup /\ (∀ n ∈ names, n ≠ "none") /\ ZnU (Zfn H (pM pn pr pw ho)) t names roots L /\
 ∀ H', ZdH (Zfn H (pM pn pr pw ho)) (Zfn H' (pM pn pr pw ho)) -> Pst C H' x dx pn pr pw ho -> Q (.bl true) H'
theorem ZhU (T : Txt K mg) : ZfA P w K mg base CX0 20 T.a_refused T.fd_refused ["_law_program_here", "_law_drawn", "_law_mix"] (ZhT T.a_Program) := by
 have G_put := ZhS (P := P) (w := w) (base := base) T
 have G_homes_of := ZhH (P := P) (w := w) (base := base) T
 refine T.F_refused.ok Zew (fun vs H Q E h => ?_) (fun cdv A outer s H vs Q E hr h => ?_)
 ·obtain ⟨x, dx, pn, pr, pw, ho, t, mix, names, roots, L, rfl, _⟩ := h
  rfl
 obtain ⟨x, dx, pn, pr, pw, ho, t, mix, names, roots, L, rfl, ps0, mi, nn, nne, md0, q⟩ := h
 refine ⟨_, (Zdo (Zhg (j := 3) rfl (ZlL (x := "_law_place") ["_law_drawn"] [("_law_drawn", 1, s.heap.objs.size + 1)] rfl rfl (by decide +kernel) (by decide +kernel) rfl (by decide +kernel) rfl rfl (by intro p hp; simp only [Zag, Za1, or_false] at hp; rcases hp with rfl <;> exact ⟨rfl, rfl, rfl, rfl⟩)) (Zeu rfl T.z_range (Zdn (ZdC Zdz rfl T.z_len Zd4 (Zdn (ZdG ZdT (cv 1) Zds (fun _ _ => rfl)) Zdq)) Zdq)) (fun _ _ _ _ _ => (ZjI (ZdA (r := rIn K false) Zhq (ZdG ZdT (ZdG ZdD (ZdG ZdT (cv 1) Zds (fun _ _ => rfl)) (cv 0) (fun _ _ => rfl)) Zds (fun _ _ => rfl)) (ZdN (Zdn ZdJ (Zdn ZdJ Zdq))) rfl))) (fun _ _ _ _ _ => (cv 0)) Zew.nd rfl (.inl rfl))
  (Zdo (Zd0 (ZdA ZeH (ZdC Zdz rfl T.z_len Zd4 (Zdn (cv 3) Zdq)) Zds (ZdK _))
   (Zdu (ZdL ZgU))
   ZdI)
  (Zdo (ZdE (i := 4) Zew.nd rfl (.inl rfl) (ZdG ZdD (cv 3) (ZdF Zd8 (cv 2) (ZdC Zdz rfl T.z_len Zd4 (Zdn (cv 3) Zdq))) (fun _ _ => rfl)))
  (Zdo (Zd6 (ZdO G_put (hr.mono (by decide)) rfl T.m_put T.k_put T.b_put .nil ZeG (Zdn (Zev T.cl_Program T.n_Program_names (cv 0)) (Zdn (ZdG ZdT (cv 1) Zds (fun _ _ => rfl)) Zdq))))
  (Zdo (Zd6 (ZdO G_put (hr.mono (by decide)) rfl T.m_put T.k_put T.b_put .nil ZeG (Zdn (Zev T.cl_Program T.n_Program_roots (cv 0)) (Zdn (ZdG ZdT (cv 1) Zds (fun _ _ => rfl)) Zdq))))
  (Zdo (Zd6 (ZdO G_put (hr.mono (by decide)) rfl T.m_put T.k_put T.b_put .nil ZeG (Zdn (Zev T.cl_Program T.n_Program_rows (cv 0)) (Zdn (ZdG ZdT (cv 1) Zds (fun _ _ => rfl)) Zdq))))
  (Zdo (ZiM (Zey (Zdn ZdJ (Zdn ZdJ Zdq))) (Zk9 (Zev T.cl_Program T.n_Program_rows (cv 0)) (cv 4) Zii))
  (Zdo (ZdE (i := 5) Zew.nd rfl (.inl rfl) Zgh)
  (Zdo (Zl5 G_homes_of (hr.mono (by decide)) rfl T.m_homes_of T.k_homes_of T.b_homes_of .nil (Zdn (cv 0) Zdq) (i := 6) Zew.nd rfl rfl rfl T.m_FlowError ⟨rfl, rfl⟩ rfl (fun _ =>
   (Zdu (ZdE (i := 5) Zew.nd rfl (.inl rfl) (cv 6)))))
  (Zdu (ZdL (Znv (ZdC Zl6 rfl T.z_isinstance Zd2 (Zdn (cv 5) (Zdn (Zq9 rfl T.m_NoName) Zdq))) (Znv (Zgo ZeH (ZjR (cv 5) rfl) ZdJ (ZdK _)) (Znu (Zgo ZeH (ZjR (cv 5) rfl) (cv 4) (ZdK _)))))))))))))))), ?_⟩
 have sl : sizeLine = 16777216 := sizeLine_eq
 have Ll := mi.sz
 have nl := mi.nl
 have rl := mi.rl
 have md := md0
 obtain ⟨an, ar, aw, au, adk, xs, us, KA, et, en0, er, ew, ims, eu, imu, ed, dl, dk⟩ := md
 have lx := ims.length
 rw [Zar] at lx
 obtain ⟨nt, et'⟩ := Zea et
 obtain ⟨naw, ew'⟩ := Zea ew
 refine ⟨_, et', Zdx (Zdw (j := 2) rfl) ⟨aw, _, rfl, .inl (SqL.of ew'), _, rfl, by omega, by omega, fun lp hlp => ?_⟩⟩
 refine ZqC (xs := (Zaa L.length).map nI) (plP L) hlp (by rw [Zar, Zbm]; omega) rfl (fun k H _ h => ?_) (fun k H v H' _ h y => ?_) (fun H _ => ?_) ?_ ?_ ?_
 ·rw [Zar, Zbm] at h
  show k < _
  omega
 ·obtain ⟨rfl, rfl⟩ := y
  rw [Zar, Zbm] at h
  refine ⟨rfl, ?_⟩
  rw [Zaz, Zbx h, Zdb]
  rfl
 ·show _ <= _
  rw [Zar, Zbm]
  omega
 ·intro k v H6 R hv S hR
  rw [Zaz] at hv
  obtain ⟨d, hd, rfl⟩ := Zb8.mp hv
  obtain ⟨hk, rfl⟩ := Zaj.mp hd
  rw [Zbm] at hk
  rw [ZbO] at hR ⊢
  obtain ⟨nd, hnd⟩ : ∃ nd, L[k]? = some nd := ⟨_, Za0 hk⟩
  obtain ⟨tr, zs, hxt, etr, _, _⟩ := Ziy (show Ims (Zfn H (pM pn pr pw ho)) xs ((L.map Nd.ro).map Ro.d) by rw [Zbr]; exact ims) (show (L.map Nd.ro)[k]? = some nd.ro by rw [Zaz, hnd]; rfl)
  refine ⟨_, S _ _ et', Zdx (Zdw (j := 2) rfl) ⟨_, S _ _ ew', Zdx (Zdw hxt) ⟨_, (Zeh.trans S) _ _ etr, Zdx (Zdw (j := 0) rfl) ⟨(by show 2 <= sizeLine; decide), fun lz hlz => ⟨lz, _, rfl, .inl (SqL.of Zdp), rfl, rfl, ?_⟩⟩⟩⟩⟩
  show R (if false = true then _ else inV (.str nd.ro.s) [.str "num", .str "name"]) _
  have := hR _ (Zdr hlz (.lst [.str "num", .str "name"]))
  rw [Zn5 hnd] at this
  rw [if_neg ZcY, ZqD nd.ro (Zo3 mi hnd).1]
  exact this
 ·intro k v H6 R hv S hR
  exact hR
 intro H1 S1 e1
 dsimp only [Zd1]
 obtain ⟨pl, hpl⟩ : ∃ pl, pl = ((Zaa L.length).map nI).filter (plP L) := ⟨_, rfl⟩
 rw [<- hpl] at e1
 have lpl : pl.length <= L.length := by
  rw [hpl]
  refine ZbS (Zbn _ _) ?_
  rw [Zar, Zbm]
  exact ZbV _
 refine ⟨lp, _, rfl, .inl (SqL.of e1), ?_⟩
 show if (false ^^ decide ((pl.length : Int) = 0)) = true then _ else _
 rw [Zc4]
 have SM1 : ZdH (Zfn H (pM pn pr pw ho)) (Zfn H1 (pM pn pr pw ho)) := Ze8 S1
 have ps := ps0.same S1
 by_cases z0 : (pl.length : Int) = 0
 ·rw [decide_eq_true z0]
  exact Zfq (q H1 SM1 ps)
 rw [decide_eq_false z0]
 have hpos : (0 : Int) < (pl.length : Int) := by omega
 obtain ⟨c, hc, hcm⟩ := Zi5 pl (mix % (pl.length : Int)) (Zdc _ (by omega)) (Zdd _ hpos)
 rw [hpl] at hcm
 obtain ⟨hcm1, hcm2⟩ := Zab.mp hcm
 obtain ⟨k, hk, rfl⟩ := ZaS.mp hcm1
 have hk := Zac.mp hk
 obtain ⟨nd, hnd⟩ : ∃ nd, L[k]? = some nd := ⟨_, Za0 hk⟩
 rw [Zn5 hnd] at hcm2
 refine Zet ⟨lp, _, rfl, .inl (SqL.of e1), hpos, _, e1, Zdx hc ?_⟩
 dsimp only [Zd1]
 obtain ⟨nan, en'⟩ := Zea (SM1 _ _ en0)
 obtain ⟨nar, er'⟩ := Zea (SM1 _ _ er)
 obtain ⟨_, ew1⟩ := Zea (SM1 _ _ ew)
 have et1 := S1 _ _ et'
 have neM : ∀ {b : Addr}, b ∉ pM pn pr pw ho -> b ≠ pn /\ b ≠ pr /\ b ≠ pw /\ b ≠ ho := fun {b} h => by
  simp only [pM, Zag, Za1, or_false, not_or] at h
  exact h
 have hxn : ∀ {b : Addr} {ys : List V}, H1 b = some (.lst ys) -> x ≠ b := fun h => ZgC ps.o h (fun z => nomatch z)
 obtain ⟨y1, f1⟩ := ps.n
 obtain ⟨y2, f2⟩ := ps.r
 obtain ⟨y3, f3⟩ := ps.w
 obtain ⟨y4, f4⟩ := ps.h
 have tn := (neM nt).1
 have tr := (neM nt).2.1
 refine ⟨_, ⟨dx, _, ps.o, ZgN _ _ _⟩, _, et1, Zdx (Zdw (j := 0) rfl) ⟨pn, an, _, _, rfl, f1, en', (neM nan).1.symm, by rw [Zar]; omega, ?_⟩⟩
 refine ⟨_, ⟨dx, _, by rw [Zdt (hxn f1)]; exact ps.o, ZfO _ _ _⟩, _, by rw [Zdt tn]; exact et1, Zdx (Zdw (j := 1) rfl) ⟨pr, ar, _, _, rfl, by rw [Zdt ps.nr.symm]; exact f2, by rw [Zdt (neM nar).1]; exact er', (neM nar).2.1.symm, by rw [Zar]; omega, ?_⟩⟩
 refine ⟨_, ⟨dx, _, by rw [Zdt (hxn f2), Zdt (hxn f1)]; exact ps.o, Zf3 _ _ _⟩, _, by rw [Zdt tr, Zdt tn]; exact et1, Zdx (Zdw (j := 2) rfl) ⟨pw, aw, _, _, rfl, by rw [Zdt ps.rw'.symm, Zdt ps.nw.symm]; exact f3, by rw [Zdt (neM naw).2.1, Zdt (neM naw).1]; exact ew1, (neM naw).2.2.1.symm, by omega, ?_⟩⟩
 have m1 : pn ∈ pM pn pr pw ho := by simp
 have m2 : pr ∈ pM pn pr pw ho := by simp
 have m3 : pw ∈ pM pn pr pw ho := by simp
 obtain ⟨H4, hH4⟩ : ∃ H4, upd (upd (upd H1 pn (.lst (names.map V.str))) pr (.lst (roots.map nI))) pw (.lst xs) = H4 := ⟨_, rfl⟩
 rw [hH4]
 have SM4 : ZdH (Zfn H1 (pM pn pr pw ho)) (Zfn H4 (pM pn pr pw ho)) := by rw [<- hH4]; exact (Zd5 m1).trans ((Zd5 m2).trans (Zd5 m3))
 have gx : H4 x = some (.ins T.a_Program dx (fP pn pr pw)) := by rw [<- hH4, Zdt (hxn f3), Zdt (hxn f2), Zdt (hxn f1)]; exact ps.o
 have gn : H4 pn = some (.lst (names.map V.str)) := by rw [<- hH4, Zdt ps.nw, Zdt ps.nr, Zdp]
 have gr : H4 pr = some (.lst (roots.map nI)) := by rw [<- hH4, Zdt ps.rw', Zdp]
 have gw : H4 pw = some (.lst xs) := by rw [<- hH4, Zdp]
 have gh : H4 ho = some (.lst y4) := by rw [<- hH4, Zdt ps.wh.symm, Zdt ps.rh.symm, Zdt ps.nh.symm]; exact f4
 refine ⟨(by show 2 <= sizeLine; decide), fun tt htt => ?_⟩
 have s5 := Zdr htt (.tup [.str "name", .str "none"])
 have ett : (upd H4 tt (.tup [.str "name", .str "none"])) tt = some (.tup [.str "name", .str "none"]) := Zdp
 generalize upd H4 tt (.tup [.str "name", .str "none"]) = H5 at s5 ett ⊢
 refine ⟨_, ⟨dx, _, s5 _ _ gx, Zf3 _ _ _⟩, pw, _, _, k, rfl, rfl, s5 _ _ gw, Zmy (by omega), ?_⟩
 have xw : x ≠ pw := ZgC gx gw (fun z => nomatch z)
 dsimp only
 obtain ⟨H6, hH6⟩ : ∃ H6, upd H5 pw (.lst (xs.set k (.ref tt))) = H6 := ⟨_, rfl⟩
 rw [hH6]
 have SM6 : ZdH (Zfn H (pM pn pr pw ho)) (Zfn H6 (pM pn pr pw ho)) := by rw [<- hH6]; exact SM1.trans (SM4.trans ((Ze8 s5).trans (Zd5 m3)))
 have gx6 : H6 x = some (.ins T.a_Program dx (fP pn pr pw)) := by rw [<- hH6, Zdt xw]; exact s5 _ _ gx
 have gn6 : H6 pn = some (.lst (names.map V.str)) := by rw [<- hH6, Zdt ps.nw]; exact s5 _ _ gn
 have gr6 : H6 pr = some (.lst (roots.map nI)) := by rw [<- hH6, Zdt ps.rw']; exact s5 _ _ gr
 have gw6 : H6 pw = some (.lst (xs.set k (.ref tt))) := by rw [<- hH6, Zdp]
 have gh6 : H6 ho = some (.lst y4) := by rw [<- hH6, Zdt ps.wh.symm]; exact s5 _ _ gh
 have gt6 : H6 tt = some (.tup [.str "name", .str "none"]) := by rw [<- hH6, Zdt (ZgC ett (s5 _ _ gw) (fun z => nomatch z))]; exact ett
 have S6 := SM6.trans Zeh
 have ps6 : Pst T.a_Program H6 x dx pn pr pw ho := ⟨gx6, ⟨_, gn6⟩, ⟨_, gr6⟩, ⟨_, gw6⟩, ⟨_, gh6⟩, ps.nr, ps.nw, ps.nh, ps.rw', ps.rh, ps.wh⟩
 have imx : Ims H6 (xs.set k (.ref tt)) (((L.map Nd.ro).set k (.name "none")).map Ro.d) := by
  rw [ZbN, Zbr]
  exact ZmB (.tup gt6 (.cons (.flat rfl) (.cons (.flat rfl) .nil))) k (ims.mono (ZdH.tk S6))
 have hro : (L.map Nd.ro)[k]? = some nd.ro := by rw [Zaz, hnd]; rfl
 have hset : ((L.map Nd.ro).set k (.name "none"))[k]? = some (.name "none") := by rw [ZbK, if_pos rfl, if_pos (by rw [Zar]; exact hk)]
 have onone := Zns mi nne hk
 refine Zo9 (Zmz [some (.ref x), some (.ref t), some (.int mix), some (.ref lp), some (nI k), some .non, none] (fun σ H12 => ∃ ea dz : Addr, σ = [some (.ref x), some (.ref t), some (.int mix), some (.ref lp), some (nI k), some (.ref ea), none] /\ ZdH H6 H12 /\ H12 ea = some (Zk2 ea T.a_NoName dz) /\ H12 dz = some (nnD dz "none" (k : Int))) rfl ?_ ?_)
 ·rintro σ H12 ⟨ea, dz, rfl, S12, eea, edz⟩
  have wd : Zap ("word" : Str) [(("word" : Str), V.str "none"), (("place" : Str), V.int (k : Int))] = some (.str "none") := ZkX
  have wp : Zap ("place" : Str) [(("word" : Str), V.str "none"), (("place" : Str), V.int (k : Int))] = some (.int (k : Int)) := (Znd (by decide +kernel)).trans ZkX
  refine ⟨ea, T.a_NoName, dz, _, _, true, rfl, fun _ r => r, eea, T.xs_NoName.xc, T.i_NoName_NoName, _, rfl, Zfq ?_⟩
  refine ⟨ea, T.a_NoName, dz, _, .str "none", rfl, eea, edz, T.xs_NoName.xc, T.xf_NoName_word, wd, _, rfl, ?_⟩
  show if (false ^^ decide (("none" : Str) = "none")) = true then _ else _
  rw [decide_eq_true rfl]
  refine Zfq ⟨ea, T.a_NoName, dz, _, .int (k : Int), rfl, eea, edz, T.xs_NoName.xc, T.xf_NoName_place, wp, ?_⟩
  show Q (.bl (false ^^ decide ((k : Int) = (k : Int)))) H12
  rw [decide_eq_true rfl]
  exact q H12 (SM6.trans (Ze8 S12)) (ps6.same S12)
 ·intro Dx hNx
  refine ⟨x, pn, pr, pw, dx, _, names, roots, _, Zk3 L, rfl, ⟨gx6, gn6, gr6, gw6, imx⟩, Znt (mi.toMI0.good nn) hro hcm2, fun nmd => ?_, fun k' y nmd hk' hy dz H12 S12 edz => ?_⟩
  ·obtain ⟨h, hh⟩ := nmd k "none" (by rw [ZaK, Zar]; exact hk) hset
   rw [onone] at hh
   cases hh
  ·have ek : k = k' /\ y = "none" := by
    by_cases e : k = k'
    ·subst e
     rw [hset] at hk'
     cases hk'
     exact ⟨rfl, rfl⟩
    ·rw [ZbK, if_neg e] at hk'
     obtain ⟨h, hh⟩ := Zn4 mi (k' + 1) k' y (ZbY _) hk'
     rw [hy] at hh
     cases hh
   obtain ⟨rfl, rfl⟩ := ek
   refine ⟨_, dz, rfl, rfl, T.e_NoName_FlowError, fun ea hea => ?_⟩
   have s13 := Zdr hea (Zk2 ea T.a_NoName dz)
   exact hNx _ _ ⟨ea, dz, rfl, S12.trans s13, Zdp, s13 _ _ edz⟩
end
def ZqF (K : PySem.W.Frag) : List V -> Hp -> VK -> Prop := fun xs H Q => ∃ p ys, xs = [.ref p] /\ (SqL K H p ys \/ SqT K H p ys) /\ ∀ l, H l = none -> Q (.ref l) (upd H l (.lst ys))
def Hld (N : Hp) (p : Addr) : Prop := ∃ (f g : Addr) (zs : List V) (ds : List Dt), N p = some (.lst [.ref f, .ref g]) /\ N f = some (.lst zs) /\ N g = some (.lst zs) /\ Ims N zs ds /\ ZeK ds <= 1
theorem Hld.same {N N' : Hp} {p : Addr} (h : Hld N p) (s : ZdH N N') : Hld N' p := by
 obtain ⟨f, g, zs, ds, h1, h2, h3, h4, h5⟩ := h
 exact ⟨f, g, zs, ds, s _ _ h1, s _ _ h2, s _ _ h3, h4.mono (ZdH.tk s), h5⟩
theorem Zpa {D : Addr} {M : List Addr} {H H' : Hp} (f : FrD D H H') : ZdH (Zfn H (D :: M)) (Zfn H' (D :: M)) := fun b u e => by
 obtain ⟨h1, h2⟩ := Zea e
 exact ZeF h1 (f b u h2 fun z => h1 (z ▸ Zae))
theorem Zpb {D : Addr} {M : List Addr} {H : Hp} : ZdH (Zfn H (D :: M)) (Zfn H M) := fun b u e => by
 obtain ⟨h1, h2⟩ := Zea e
 exact ZeF (fun z => h1 (Zaf _ z)) h2
theorem Zpc {D : Addr} {M : List Addr} {H H' : Hp} (hD : H D = none) (s : ZdH H H') : ZdH (Zfn H M) (Zfn H' (D :: M)) := fun b u e => by
 obtain ⟨h1, h2⟩ := Zea e
 refine ZeF (fun z => ?_) (s _ _ h2)
 rcases Zag.mp z with z | z
 ·rw [z, hD] at h2; cases h2
 ·exact h1 z
structure LI (C : Addr) (H : Hp) (x dx pn pr pw ho t1 t2 ld hd : Addr) (n1 : List Str) (r1 : List Nat) (La : List Nd) (n2 : List Str) (r2 : List Nat) (Lb : List Nd) (ps : List Addr) : Prop where
 p : Pst C H x dx pn pr pw ho
 m1 : ZnU (Zfn H (pM pn pr pw ho)) t1 n1 r1 La
 m2 : ZnU (Zfn H (pM pn pr pw ho)) t2 n2 r2 Lb
 l : Zfn H (pM pn pr pw ho) ld = some (.lst [.ref t1, .ref t2, .ref t1])
 h : Zfn H (pM pn pr pw ho) hd = some (.lst (ps.map V.ref))
 q : ∀ p ∈ ps, Hld (Zfn H (pM pn pr pw ho)) p
section
variable {C : Addr} {H H' : Hp} {x dx pn pr pw ho t1 t2 ld hd : Addr} {n1 : List Str} {r1 : List Nat} {La : List Nd} {n2 : List Str} {r2 : List Nat} {Lb : List Nd} {ps : List Addr}
theorem LI.step (i : LI C H x dx pn pr pw ho t1 t2 ld hd n1 r1 La n2 r2 Lb ps) (s : ZdH (Zfn H (pM pn pr pw ho)) (Zfn H' (pM pn pr pw ho))) (p : Pst C H' x dx pn pr pw ho) : LI C H' x dx pn pr pw ho t1 t2 ld hd n1 r1 La n2 r2 Lb ps :=
 ⟨p, Zf8 i.m1 s, Zf8 i.m2 s, s _ _ i.l, s _ _ i.h, fun b hb => (i.q b hb).same s⟩
theorem LI.same (i : LI C H x dx pn pr pw ho t1 t2 ld hd n1 r1 La n2 r2 Lb ps) (s : ZdH H H') : LI C H' x dx pn pr pw ho t1 t2 ld hd n1 r1 La n2 r2 Lb ps := i.step (Ze8 s) (i.p.same s)
theorem Pst.nin (i : Pst C H x dx pn pr pw ho) {b : Addr} (hb : H b = none) : b ∉ pM pn pr pw ho := fun z => by
 simp only [pM, Zag, Za1, or_false] at z
 rcases z with rfl | rfl | rfl | rfl
 ·obtain ⟨_, h⟩ := i.n; rw [hb] at h; cases h
 ·obtain ⟨_, h⟩ := i.r; rw [hb] at h; cases h
 ·obtain ⟨_, h⟩ := i.w; rw [hb] at h; cases h
 ·obtain ⟨_, h⟩ := i.h; rw [hb] at h; cases h
end
section
variable {P : Program} {w : World} {K : PySem.W.Frag} {mg : Str -> Option Value} {base : Heap}
theorem Zpd (T : Txt K mg) {a : Addr} {fd : FuncData} (F : Fun K "law" "law" Zip a fd) : ZfA P w K mg base CX0 40 a fd ["_law_script"] (Zkk K) := by
 have G_words := Ziu (P := P) (w := w) (base := base) T
 have G_program := ZhM (P := P) (w := w) (base := base) T
 have G_Program___init__ := Zgy (P := P) (w := w) (base := base) T
 have G_asked := ZiJ (P := P) (w := w) (base := base) T
 have G_refused := ZhU (P := P) (w := w) (base := base) T
 refine F.ok Zfr (fun vs H Q E h => ?_) (fun cdv A outer s H vs Q E hr h => ?_)
 ·obtain ⟨a, ns, rfl, _⟩ := h
  rfl
 obtain ⟨ad, ns, rfl, hsq, hlen, q⟩ := h
 refine ⟨_, (Zdo (ZdE (i := 1) Zfr.nd rfl (.inl rfl) (ZdF Zd8 (ZdC (Zi4 rfl) rfl T.z_sum ZlD (Zdn (ZeV Zhp (cv 0) Zfv (Zfb Zds)) Zdq)) (ZdF Zh9 Zds Zds)))
  (Zdo (ZdE (i := 2) Zfr.nd rfl (.inl rfl) (ZdO G_words (hr.mono (by decide)) rfl T.m_words T.k_words T.b_words .nil ZeG (Zdn (ZdC (Zi4 rfl) rfl T.z_sum ZlD (Zdn (ZeV Zhp (cv 0) Zfv (Zfb Zds)) Zdq)) Zdq)))
  (Zdo (ZdE (i := 3) Zfr.nd rfl (.inl rfl) (ZdF ZeC (ZdC Zdz rfl T.z_len Zd4 (Zdn (cv 0) Zdq)) Zds))
  (Zdo (ZdE (i := 4) Zfr.nd rfl (.inl rfl) (ZdO G_program (hr.mono (by decide)) rfl T.m_program T.k_program T.b_program .nil ZeG (Zdn (cv 2) (Zdn (cv 1) (Zdn (ZeV Zhp (cv 0) (Zfb Zds) (Zfb (cv 3))) Zdq)))))
  (Zdo (ZdE (i := 5) Zfr.nd rfl (.inl rfl) (ZdO G_program (hr.mono (by decide)) rfl T.m_program T.k_program T.b_program .nil ZeG (Zdn (cv 2) (Zdn (ZdF ZeC (cv 1) Zds) (Zdn (ZeV Zhp (cv 0) (Zfb (ZdC (Zli rfl) rfl T.z_max ZpQ (Zdn Zds (Zdn (cv 3) Zdq)))) Zfv) Zdq)))))
  (Zdo (ZdE (i := 6) Zfr.nd rfl (.inl rfl) (Zod T.mk_Program G_Program___init__ (hr.mono (by decide)) rfl T.m_Program T.b_Program___init__ .nil ZeG (Zdn (ZdN Zdq) (Zdn (ZdN Zdq) (Zdn (ZdN Zdq) Zdq)))))
  (Zdo (ZdE (i := 7) Zfr.nd rfl (.inl rfl) (ZdN Zdq))
  (Zdo (ZdE (i := 8) Zfr.nd rfl (.inl rfl) (ZdN Zdq))
  (Zdo (ZdE (i := 9) Zfr.nd rfl (.inl rfl) (cv 1))
  (Zdo (Zfa PassesOwn.never rfl (Zfo (ZdN (Zdn (cv 4) (Zdn (cv 5) (Zdn (cv 4) Zdq))))) (ZdQ (i := 10) Zfr.nd rfl (.inl rfl))
   (Zdo (Zd0 (ZdA Zhx (ZdC Zdz rfl T.z_len Zd4 (Zdn (cv 8) Zdq)) Zds (ZdK _))
    (Zdo (ZdE (i := 9) Zfr.nd rfl (.inl rfl) (ZdF Zd8 (ZdF Zgl (ZdF Zez (cv 9) Zds) Zds) Zds))
    (Zdu (Zd0 (Zgj (ZfB (ZdO G_refused (hr.mono (by decide)) rfl T.m_refused T.k_refused T.b_refused .nil ZeG (Zdn (cv 6) (Zdn (ZdG ZdD (ZdN (Zdn (cv 4) (Zdn (cv 5) Zdq))) (ZdF Zd8 (ZdF ZeC (cv 9) Zds) Zds) (fun _ _ => rfl)) (Zdn (ZdF ZeC (cv 9) Zds) Zdq))))))
     (Zdu (ZdL ZgU))
     ZdI)))
    ZdI)
   (Zdo (ZdE (i := 11) Zfr.nd rfl (.inl rfl) (ZdO G_asked (hr.mono (by decide)) rfl T.m_asked T.k_asked T.b_asked .nil ZeG (Zdn (cv 6) (Zdn (cv 7) (Zdn (cv 10) Zdq)))))
   (Zdo (Zd0 (Zgi (Zj7 (cv 11)))
    (Zdu (ZdL ZgU))
    ZdI)
   (Zdu (ZdE (i := 8) Zfr.nd rfl (.inl rfl) (ZdF Zi0 (cv 8) (ZgY rfl (Zpg (x := "_law_row_here") rfl (by decide +kernel) (by decide +kernel) rfl rfl) (Zfo (cv 11)) (fun _ _ _ _ _ => Ze4) (fun _ _ _ _ _ => (ZdN (Zdn (cv 0) (Zdn (Zfl (r := ZqF K) ZiY rfl T.z_list Zil (Zdn (cv 0) Zdq)) Zdq))))))))))))
  (Zdo (Zfa PassesOwn.never rfl (Zfo (cv 8)) (ZnH rfl (ZdY (ZdQ (i := 12) Zfr.nd rfl (.inl rfl)) (ZdY (ZdQ (i := 13) Zfr.nd rfl (.inl rfl)) ZfF)))
   (Zdu (Zd0 (ZdA (ZnF hr) (cv 12) (cv 13) (ZdK _))
    (Zdu (ZdL ZgU))
    ZdI)))
  (Zdu (ZdL ZgU))))))))))))), ?_⟩
 have sl : sizeLine = 16777216 := sizeLine_eq
 obtain ⟨ks0, ek0, _⟩ := ZiB ns none (some 1)
 refine ⟨_, rfl, ad, _, rfl, hsq, fun c1 hc1 => ⟨c1, ks0, rfl, SqL.of (by rw [Zdp, ek0]), fun n0 => ⟨⟨by decide, by decide, by decide⟩, (by show (0 : Int) < 10 ^ (9 : Int).toNat; decide +kernel), ?_⟩⟩⟩
 have S1 := Zdr hc1 (.lst (Zh5 (ns.map V.int) none (some 1)))
 dsimp only [Zd1]
 generalize upd H c1 (.lst (Zh5 (ns.map V.int) none (some 1))) = H1 at S1 ⊢
 have sd0 : 0 <= n0 % 10 ^ (9 : Int).toNat := Zdc _ (by decide +kernel)
 have sd1 : n0 % 10 ^ (9 : Int).toNat < 1000000000 := Zdd _ (by decide +kernel)
 generalize n0 % 10 ^ (9 : Int).toNat = seed at sd0 sd1 ⊢
 refine ⟨_, rfl, ad, _, rfl, S1.seq hsq, fun c2 hc2 => ⟨c2, ks0, rfl, SqL.of (by rw [Zdp, ek0]), fun n1 => ⟨n1, rfl, fun W ws H2 S2 _ wd => ?_⟩⟩⟩
 have S12 := S1.trans ((Zdr hc2 (.lst (Zh5 (ns.map V.int) none (some 1)))).trans S2)
 dsimp only [Zd1]
 refine ⟨ad, _, rfl, .inl (S12.seq hsq), ⟨by decide, by decide⟩, ?_⟩
 dsimp only
 obtain ⟨half, hhalf⟩ : ∃ z, z = (((ns.map V.int).length : Nat) : Int) / 2 := ⟨_, rfl⟩
 rw [<- hhalf]
 obtain ⟨ks1, ek1, lk1⟩ := ZiB ns (some 1) (some half)
 dsimp only [Zd1]
 refine ⟨1, rfl, half, rfl, ad, _, rfl, S12.seq hsq, fun c3 hc3 => ?_⟩
 have s3 := Zdr hc3 (.lst (Zh5 (ns.map V.int) (some 1) (some half)))
 have e3 : (upd H2 c3 (.lst (Zh5 (ns.map V.int) (some 1) (some half)))) c3 = some (.lst (ks1.map V.int)) := by rw [Zdp, ek1]
 generalize upd H2 c3 (.lst (Zh5 (ns.map V.int) (some 1) (some half))) = H3 at s3 e3 ⊢
 refine ⟨W, c3, ws, seed, ks1, rfl, ⟨s3 _ _ wd.1, wd.2⟩, sd0, sd1, e3, by omega, fun t1 n1 r1 La H4 S4 ht1 mi1 nn1 nne1 md1 => ?_⟩
 dsimp only [Zd1]
 have S24 := s3.trans S4
 obtain ⟨ks2, ek2, lk2⟩ := ZiB ns (some (if half > 1 then half else 1)) none
 refine ⟨⟨by decide, by decide⟩, 1, half, rfl, _, rfl, ad, _, rfl, (S12.trans S24).seq hsq, fun c4 hc4 => ?_⟩
 have s5 := Zdr hc4 (.lst (Zh5 (ns.map V.int) (some (if half > 1 then half else 1)) none))
 have e5 : (upd H4 c4 (.lst (Zh5 (ns.map V.int) (some (if half > 1 then half else 1)) none))) c4 = some (.lst (ks2.map V.int)) := by rw [Zdp, ek2]
 generalize upd H4 c4 (.lst (Zh5 (ns.map V.int) (some (if half > 1 then half else 1)) none)) = H5 at s5 e5 ⊢
 refine ⟨W, c4, ws, seed / 5, ks2, rfl, ⟨(S24.trans s5) _ _ wd.1, wd.2⟩, by omega, by omega, e5, by omega, fun t2 n2 r2 Lb H6 S6 ht2 mi2 nn2 nne2 md2 => ?_⟩
 dsimp only [Zd1]
 have md1 := Zf8 md1 (s5.trans S6)
 refine ⟨(by show 0 <= sizeLine; decide), fun pn h1 => ⟨(by show 0 <= sizeLine; decide), fun pr h2 => ⟨(by show 0 <= sizeLine; decide), fun pw h3 => ?_⟩⟩⟩
 have s7 := Zdr h1 (.lst [])
 have g7 : (upd H6 pn (.lst [])) pn = some (.lst []) := Zdp
 generalize upd H6 pn (.lst []) = H7 at s7 g7 h2 h3 ⊢
 have s8 := Zdr h2 (.lst [])
 have g8 : (upd H7 pr (.lst [])) pr = some (.lst []) := Zdp
 generalize upd H7 pr (.lst []) = H8 at s8 g8 h3 ⊢
 have s9 := Zdr h3 (.lst [])
 have g9 : (upd H8 pw (.lst [])) pw = some (.lst []) := Zdp
 generalize upd H8 pw (.lst []) = H9 at s9 g9 ⊢
 intro x dx hx hdx hne
 refine ⟨x, dx, pn, pr, pw, rfl, Zdp, rfl, ?_⟩
 rw [ZgT]
 have s10 : ZdH H9 (upd (upd H9 dx (.own x)) x (.ins T.a_Program dx (fP pn pr pw))) := fun b u e => by
  rw [Zdt (Zdv e hx), Zdt (Zdv e hdx)]
  exact e
 have g10 : (upd (upd H9 dx (.own x)) x (.ins T.a_Program dx (fP pn pr pw))) x = some (.ins T.a_Program dx (fP pn pr pw)) := Zdp
 dsimp only [Zd1]
 generalize upd (upd H9 dx (.own x)) x (.ins T.a_Program dx (fP pn pr pw)) = H10 at s10 g10 ⊢
 refine ⟨(by show 0 <= sizeLine; decide), fun ho h4 => ?_⟩
 have s11 := Zdr h4 (.lst [])
 have g11 : (upd H10 ho (.lst [])) ho = some (.lst []) := Zdp
 dsimp only [Zd1]
 generalize upd H10 ho (.lst []) = H11 at s11 g11 ⊢
 refine ⟨(by show 0 <= sizeLine; decide), fun hd0 h5 => ?_⟩
 have s12 := Zdr h5 (.lst [])
 have g12 : (upd H11 hd0 (.lst [])) hd0 = some (.lst []) := Zdp
 dsimp only [Zd1]
 generalize upd H11 hd0 (.lst []) = H12 at s12 g12 ⊢
 refine ⟨(by show 3 <= sizeLine; decide), fun ld h6 => ?_⟩
 have s13 := Zdr h6 (.lst [.ref t1, .ref t2, .ref t1])
 have g13 : (upd H12 ld (.lst [.ref t1, .ref t2, .ref t1])) ld = some (.lst [.ref t1, .ref t2, .ref t1]) := Zdp
 generalize upd H12 ld (.lst [.ref t1, .ref t2, .ref t1]) = H13 at s13 g13 ⊢
 have S911 := s10.trans s11
 have fresh : ∀ b ∈ pM pn pr pw ho, H6 b = none := fun b hb => by
  simp only [pM, Zag, Za1, or_false] at hb
  rcases hb with rfl | rfl | rfl | rfl
  ·exact h1
  ·exact s7.free h2
  ·exact (s7.trans s8).free h3
  ·exact ((s7.trans s8).trans (s9.trans s10)).free h4
 have S613 := ((s7.trans s8).trans s9).trans (S911.trans (s12.trans s13))
 have SM : ZdH H6 (Zfn H13 (pM pn pr pw ho)) := fun b u e => ZeF (fun z => by rw [fresh b z] at e; cases e) (S613 _ _ e)
 have ps13 : Pst T.a_Program H13 x dx pn pr pw ho := by
  refine ⟨(s11.trans (s12.trans s13)) _ _ g10, ⟨_, ((s8.trans s9).trans (S911.trans (s12.trans s13))) _ _ g7⟩, ⟨_, (s9.trans (S911.trans (s12.trans s13))) _ _ g8⟩, ⟨_, (S911.trans (s12.trans s13)) _ _ g9⟩, ⟨_, (s12.trans s13) _ _ g11⟩, Zdv g7 h2, Zdv (s8 _ _ g7) h3, Zdv ((s8.trans (s9.trans s10)) _ _ g7) h4, Zdv g8 h3, Zdv ((s9.trans s10) _ _ g8) h4, Zdv (s10 _ _ g9) h4⟩
 have inM : ∀ b ∈ pM pn pr pw ho, ∃ o, H11 b = some o := fun b hb => by
  simp only [pM, Zag, Za1, or_false] at hb
  rcases hb with rfl | rfl | rfl | rfl
  ·exact ⟨_, ((s8.trans s9).trans S911) _ _ g7⟩
  ·exact ⟨_, (s9.trans S911) _ _ g8⟩
  ·exact ⟨_, S911 _ _ g9⟩
  ·exact ⟨_, g11⟩
 have nhd : hd0 ∉ pM pn pr pw ho := fun z => by obtain ⟨o, ho'⟩ := inM _ z; rw [h5] at ho'; cases ho'
 have nld : ld ∉ pM pn pr pw ho := fun z => by obtain ⟨o, ho'⟩ := inM _ z; rw [s12.free h6] at ho'; cases ho'
 have li : LI T.a_Program H13 x dx pn pr pw ho t1 t2 ld hd0 n1 r1 La n2 r2 Lb [] := ⟨ps13, Zf8 md1 SM, Zf8 md2 SM, ZeF nld g13, ZeF nhd (s13 _ _ g12), fun p hp => nomatch hp⟩
 have pk : ∀ {H : Hp} {hd : Addr} {ps : List Addr} {v : V}, LI T.a_Program H x dx pn pr pw ho t1 t2 ld hd n1 r1 La n2 r2 Lb ps -> v = .ref t1 \/ v = .ref t2 -> ∃ (tz : Addr) (nm : List Str) (rt : List Nat) (Lz : List Nd), v = .ref tz /\ MI nm rt Lz [] /\ nm.Nodup /\ (∀ n ∈ nm, n ≠ "none") /\ ZnU (Zfn H (pM pn pr pw ho)) tz nm rt Lz := fun {H hd ps v} l hv => by
  rcases hv with rfl | rfl
  ·exact ⟨t1, n1, r1, La, rfl, mi1, nn1, nne1, l.m1⟩
  ·exact ⟨t2, n2, r2, Lb, rfl, mi2, nn2, nne2, l.m2⟩
 refine ⟨ld, rfl, ⟨_, SqL.of g13⟩, ZfK (xs := [.ref t1, .ref t2, .ref t1]) (fun i σ H => ∃ (hd : Addr) (ps : List Addr) (mix : Int) (o10 o11 : Option V), σ = [some (.ref ad), some (.int seed), some (.ref W), some (.int half), some (.ref t1), some (.ref t2), some (.ref x), some (.ref ho), some (.ref hd), some (.int mix), o10, o11, none, none] /\ LI T.a_Program H x dx pn pr pw ho t1 t2 ld hd n1 r1 La n2 r2 Lb ps /\ ps.length <= 2 * i)
  ⟨hd0, [], seed, none, none, rfl, li, ZbW _⟩ (fun i σ H _ ⟨_, _, _, _, _, _, l, _⟩ => SqL.of (Zeh _ _ l.l)) ?_ ?_⟩
 ·rintro i v σ H14 hv ⟨hd, ps, mix, o10, o11, rfl, li14, lps⟩
  dsimp only [Zd1]
  have hv' : v = .ref t1 \/ v = .ref t2 := by
   have := ZaA hv
   simp only [Zag, Za1, or_false] at this
   rcases this with h | h | h
   ·exact .inl h
   ·exact .inr h
   ·exact .inl h
  have i3 : i < 3 := (Zaj.mp hv).1
  refine Zf7 (fun σ H' => ∃ mix' : Int, σ = [some (.ref ad), some (.int seed), some (.ref W), some (.int half), some (.ref t1), some (.ref t2), some (.ref x), some (.ref ho), some (.ref hd), some (.int mix'), some v, o11, none, none] /\ LI T.a_Program H' x dx pn pr pw ho t1 t2 ld hd n1 r1 La n2 r2 Lb ps) (decide (0 < ps.length)) (fun R h => ⟨hd, _, rfl, .inl (SqL.of (Zeh _ _ li14.h)), ?_⟩) (fun hb N k => ?_) (fun hb N k => k _ _ ⟨mix, rfl, li14⟩) ?_
  ·show R (decide ((0 : Int) < (((ps.map V.ref).length : Nat) : Int))) H14
   rw [Zar, show decide ((0 : Int) < (ps.length : Int)) = decide (0 < ps.length) from decide_eq_decide.mpr (by omega)]
   exact h
  ·refine ⟨.inr ⟨by decide, by decide⟩, (by show (0 : Int) < 2147483647; decide), ?_⟩
   dsimp only [Zd1]
   generalize (mix + 3) * 16807 % 2147483647 = mix'
   obtain ⟨c, hc, hcm⟩ := Zi5 [V.ref t1, V.ref t2] (mix' / 9 % 2) (Zdc _ (by decide)) (Zdd _ (by decide))
   have hcv : c = .ref t1 \/ c = .ref t2 := by
    simp only [Zag, Za1, or_false] at hcm
    exact hcm
   refine ⟨(by show 2 <= sizeLine; decide), fun lz hlz => ?_⟩
   have liz := li14.same (Zdr hlz (.lst [.ref t1, .ref t2]))
   obtain ⟨tz, nm, rt, Lz, rfl, miz, nnz, nnez, mdz⟩ := pk liz hcv
   refine ⟨⟨by decide, by decide⟩, (by show (0 : Int) < 2; decide), _, Zdp, Zdx hc ⟨⟨by decide, by decide⟩, x, dx, pn, pr, pw, ho, tz, _, nm, rt, Lz, rfl, liz.p, miz, nnz, nnez, mdz, fun H16 SM16 ps16 => ⟨_, rfl, Zet (k _ _ ⟨mix', rfl, liz.step SM16 ps16⟩)⟩⟩⟩
  ·rintro σ H15 ⟨mix', rfl, li15⟩
   obtain ⟨tz, nm, rt, Lz, rfl, miz, nnz, _, mdz⟩ := pk li15 hv'
   refine ⟨x, dx, pn, pr, pw, ho, tz, nm, rt, Lz, rfl, li15.p, miz, nnz, mdz, fun rl fs H16 SM16 ps16 nrl erl lfs tld => ?_⟩
   have li16 := li15.step SM16 ps16
   dsimp only [Zd1]
   refine ⟨_, rfl, ?_⟩
   rw [decide_eq_false (fun z => nomatch z)]
   refine Zet ⟨rl, rfl, ⟨_, SqL.of erl⟩, fun D hD => ?_⟩
   have nD := ps16.nin hD
   refine Zmk fs.length (by omega) (fun zs H => ∃ qs : List Addr, zs = qs.map V.ref /\ ∀ p ∈ qs, Hld (Zfn H (D :: pM pn pr pw ho)) p) (fun zs H H' h f => ?_) hD rfl (fun k H S h => Zi6 erl S (by rw [Zar]; exact h)) (fun H S => ?_) ⟨[], rfl, fun p hp => nomatch hp⟩ ?_ ?_
   ·obtain ⟨qs, h1, h2⟩ := h
    exact ⟨qs, h1, fun p hp => (h2 p hp).same (Zpa f)⟩
   ·have := Zi7 (K := K) erl S
    rw [Zar] at this
    exact this
   ·intro k H17 u H18 zs Z S17 hk y hR hzl eD hZ
    obtain ⟨rfl, hy⟩ := y
    have hu := hy _ (SqL.of (S17 _ _ erl))
    rw [Zaz, Za0 hk] at hu
    cases hu
    obtain ⟨qs, rfl, hqs⟩ := hR
    obtain ⟨ws', ds', h1, h2, h3, h4⟩ := tld _ (Za4 hk)
    have MI17 := Zpc (M := pM pn pr pw ho) hD S17
    have h1' := MI17 _ _ h1
    have ps17 := ps16.same S17
    refine ⟨fs[k], ws', rfl, .inl (SqL.of (Zeh _ _ h1')), fun g hg => ?_⟩
    have t1' := Zdr hg (.lst ws')
    refine ⟨(by show 2 <= sizeLine; decide), fun p hp => hZ _ _ (t1'.trans (Zdr hp _)) ?_⟩
    have t2' := Zdr hp (.lst [.ref fs[k], .ref g])
    have ng : g ∉ D :: pM pn pr pw ho := fun z => by
     rcases Zag.mp z with z | z
     ·rw [z, eD] at hg; cases hg
     ·exact ps17.nin hg z
    have np : p ∉ D :: pM pn pr pw ho := fun z => by
     rcases Zag.mp z with z | z
     ·rw [z, t1' _ _ eD] at hp; cases hp
     ·exact (ps17.same t1').nin hp z
    have MM := Ze8 (M := D :: pM pn pr pw ho) (t1'.trans t2')
    refine ⟨qs ++ [p], by rw [ZaV]; rfl, fun p' hp' => ?_⟩
    rcases Zah.mp hp' with hp' | hp'
    ·exact (hqs p' hp').same MM
    ·rw [ZaU] at hp'
     subst hp'
     exact ⟨fs[k], g, ws', ds', ZeF np Zdp, MM _ _ h1', ZeF ng (t2' _ _ Zdp), h2.mono (ZdH.tk (MI17.trans MM)), h3⟩
   ·intro H17 zs S17 hR hzl eD
    obtain ⟨qs, rfl, hqs⟩ := hR
    rw [Zar] at hzl
    have li17 := li16.same S17
    refine ⟨hd, D, _, _, rfl, rfl, Zeh _ _ li17.h, eD, by rw [Zar, Zar]; omega, fun p hp => ?_⟩
    have s18 := Zdr hp (.lst (ps.map V.ref ++ qs.map V.ref))
    have li18 := li17.same s18
    refine ⟨p, ps ++ qs, mix', _, _, rfl, ⟨li18.p, li18.m1, li18.m2, li18.l, ZeF (li17.p.nin hp) (by rw [Zdp, ZaV]), fun p' hp' => ?_⟩, by rw [ZaB]; omega⟩
    rcases Zah.mp hp' with hp' | hp'
    ·exact li18.q p' hp'
    ·exact ((hqs p' hp').same Zpb).same (Ze8 s18)
 ·rintro σ H14 ⟨hd, ps, mix, o10, o11, rfl, li14, lps⟩
  refine ⟨hd, rfl, ⟨_, SqL.of (Zeh _ _ li14.h)⟩, ZfK (xs := ps.map V.ref) (fun i σ H => ∃ (o12 o13 : Option V), σ = [some (.ref ad), some (.int seed), some (.ref W), some (.int half), some (.ref t1), some (.ref t2), some (.ref x), some (.ref ho), some (.ref hd), some (.int mix), o10, o11, o12, o13] /\ H = H14) ⟨none, none, rfl, rfl⟩ (fun i σ H _ ⟨_, _, _, e⟩ => by rw [e]; exact SqL.of (Zeh _ _ li14.h)) ?_ ?_⟩
  ·rintro i v σ H15 hv ⟨o12, o13, rfl, rfl⟩
   rw [Zaz] at hv
   obtain ⟨p, hp, rfl⟩ := Zb8.mp hv
   obtain ⟨f, g, zs, ds, e1, e2, e3, im, dp⟩ := li14.q p (ZaA hp)
   refine ⟨p, _, rfl, SqL.of (Zeh _ _ e1), rfl, _, _, rfl, _, _, rfl, rfl, ?_⟩
   have im' := im.mono (ZdH.tk Zeh)
   obtain ⟨b1, b2, b3⟩ := ZnX (K := K) (Zeh _ _ e2) im'
   obtain ⟨b4, _, _⟩ := ZnX (K := K) (Zeh _ _ e3) im'
   refine ⟨f, g, _, _, rfl, rfl, b1, b4, b3, (by show ZeK ds + 1 <= 100; omega), ?_⟩
   rw [Zqx b2]
   dsimp only [onB]
   exact Zet ⟨_, _, rfl, rfl⟩
  ·rintro σ H15 ⟨o12, o13, rfl, rfl⟩
   exact q _
end
end K14.Internal
noncomputable def PySem.W.Fast.tw72257176610291047 : Nat := 0
noncomputable def PySem.W.Fast.tw11863442517000991328 : Nat := 0
noncomputable def PySem.W.Fast.tw2729655746881169183 : Nat := 0
noncomputable def PySem.W.Fast.tw16063377514383594141 : Nat := 0
noncomputable def PySem.W.Fast.tw3471700982002242381 : Nat := 0
noncomputable def PySem.W.Fast.tw7069192718326394320 : Nat := 0
noncomputable def PySem.W.Fast.tw13184772559149258878 : Nat := 0
noncomputable def PySem.W.Fast.tw11211529358069047413 : Nat := 0
noncomputable def PySem.W.Fast.tw6855050143931044551 : Nat := 0
noncomputable def PySem.W.Fast.tw14860758355770449932 : Nat := 0
noncomputable def PySem.W.Fast.tw4808225786641638447 : Nat := 0
noncomputable def PySem.W.Fast.tw5558383626464870524 : Nat := 0
noncomputable def PySem.W.Fast.tw5413619108603990672 : Nat := 0
namespace K14.Internal
open PySem L2.Internal
theorem all_mk {l : PySem.W.OpenLaw} {w : World} {K : PySem.W.Frag} {h : Heap} {mg : Str -> Option Value} {fa fL : Addr} (X : K.In h) (G : h.Ns mainGlobals mg) (hfa : mg "law" = some (.ref fa))
  {u1 : Tok} {f2 : Addr} {od2 an2 : Option Addr} {sl2 : Array (Option Value)} {oc2 kV2 dc2 pm2 cd2 ct2 : Value} {f3 : Addr} {od3 an3 : Option Addr} {sl3 : Array (Option Value)} {oc3 kV3 dc3 pm3 cd3 ct3 : Value} {f4 : Addr} {od4 an4 : Option Addr} {sl4 : Array (Option Value)} {oc4 kV4 dc4 pm4 cd4 ct4 : Value} {f5 : Addr} {od5 an5 : Option Addr} {sl5 : Array (Option Value)} {oc5 kV5 dc5 pm5 cd5 ct5 : Value} {f6 : Addr} {od6 an6 : Option Addr} {sl6 : Array (Option Value)} {oc6 kV6 dc6 pm6 cd6 ct6 : Value} {f7 : Addr} {od7 an7 : Option Addr} {sl7 : Array (Option Value)} {oc7 kV7 dc7 pm7 cd7 ct7 : Value} {f8 : Addr} {od8 an8 : Option Addr} {sl8 : Array (Option Value)} {oc8 kV8 dc8 pm8 cd8 ct8 : Value} {f9 : Addr} {od9 an9 : Option Addr} {sl9 : Array (Option Value)} {oc9 kV9 dc9 pm9 cd9 ct9 : Value} {f10 : Addr} {od10 an10 : Option Addr} {sl10 : Array (Option Value)} {oc10 kV10 dc10 pm10 cd10 ct10 : Value} {f11 : Addr} {od11 an11 : Option Addr} {sl11 : Array (Option Value)} {oc11 kV11 dc11 pm11 cd11 ct11 : Value} {f12 : Addr} {od12 an12 : Option Addr} {sl12 : Array (Option Value)} {oc12 kV12 dc12 pm12 cd12 ct12 : Value} {f13 : Addr} {od13 an13 : Option Addr} {sl13 : Array (Option Value)} {oc13 kV13 dc13 pm13 cd13 ct13 : Value} {f14 : Addr} {od14 an14 : Option Addr} {sl14 : Array (Option Value)} {oc14 kV14 dc14 pm14 cd14 ct14 : Value} {f15 : Addr} {od15 an15 : Option Addr} {sl15 : Array (Option Value)} {oc15 kV15 dc15 pm15 cd15 ct15 : Value} {f16 : Addr} {od16 an16 : Option Addr} {sl16 : Array (Option Value)} {oc16 kV16 dc16 pm16 cd16 ct16 : Value} {f17 : Addr} {od17 an17 : Option Addr} {sl17 : Array (Option Value)} {oc17 kV17 dc17 pm17 cd17 ct17 : Value} {f18 : Addr} {od18 an18 : Option Addr} {sl18 : Array (Option Value)} {oc18 kV18 dc18 pm18 cd18 ct18 : Value} {f19 : Addr} {od19 an19 : Option Addr} {sl19 : Array (Option Value)} {oc19 kV19 dc19 pm19 cd19 ct19 : Value} {f20 : Addr} {od20 an20 : Option Addr} {sl20 : Array (Option Value)} {oc20 kV20 dc20 pm20 cd20 ct20 : Value} {f21 : Addr} {od21 an21 : Option Addr} {sl21 : Array (Option Value)} {oc21 kV21 dc21 pm21 cd21 ct21 : Value} {f22 : Addr} {od22 an22 : Option Addr} {sl22 : Array (Option Value)} {oc22 kV22 dc22 pm22 cd22 ct22 : Value} {f23 : Addr} {od23 an23 : Option Addr} {sl23 : Array (Option Value)} {oc23 kV23 dc23 pm23 cd23 ct23 : Value} {f24 : Addr} {od24 an24 : Option Addr} {sl24 : Array (Option Value)} {oc24 kV24 dc24 pm24 cd24 ct24 : Value} {f25 : Addr} {od25 an25 : Option Addr} {sl25 : Array (Option Value)} {oc25 kV25 dc25 pm25 cd25 ct25 : Value} {f26 : Addr} {od26 an26 : Option Addr} {sl26 : Array (Option Value)} {oc26 kV26 dc26 pm26 cd26 ct26 : Value} {f27 : Addr} {od27 an27 : Option Addr} {sl27 : Array (Option Value)} {oc27 kV27 dc27 pm27 cd27 ct27 : Value} {C28 : Addr} {C29 : Addr} {C30 : Addr} {f31 : Addr} {od31 an31 : Option Addr} {sl31 : Array (Option Value)} {oc31 kV31 dc31 pm31 cd31 ct31 : Value} {xN30 : Addr} {xn30 xq30 : Str} {xb30 xm30 xu30 : List Value} {xs30 : List Str} {xa30 : Bool} {xo30 : Option Bool} {xd30 : Option Addr} {xk30_0 xk30_1 xk30_2 xk30_3 xk30_5 : Option Value} {C32 : Addr} {f33 : Addr} {od33 an33 : Option Addr} {sl33 : Array (Option Value)} {oc33 kV33 dc33 pm33 cd33 ct33 : Value} {xN32 : Addr} {xn32 xq32 : Str} {xb32 xm32 xu32 : List Value} {xs32 : List Str} {xa32 : Bool} {xo32 : Option Bool} {xd32 : Option Addr} {xk32_0 xk32_1 xk32_2 xk32_3 xk32_5 : Option Value} {C34 : Addr} {f35 : Addr} {od35 an35 : Option Addr} {sl35 : Array (Option Value)} {oc35 kV35 dc35 pm35 cd35 ct35 : Value}
  {odL anL : Option Addr} {slL : Array (Option Value)} {ocL kVL dcL pmL cdL ctL : Value}
  (g1 : ZcF K mainGlobals "MOST_WEIGHT" = some (some (.int 60 u1)))
  (a2 : ZcF K mainGlobals "parts_of" = some (some (.ref f2)))
  (l2 : K.lookup f2 = some ⟨oc2, od2, .func (Zcz "parts_of" "parts_of" (ZdV Zfd) (ZdS Zfd) (Zdy Zfd) .none kV2 dc2 pm2 an2 cd2 ct2), sl2⟩)
  (c2 : ZcA K cd2 "parts_of" = true)
  (k2 : Zcw K (.ref f2) = true)
  (a3 : ZcF K mainGlobals "places_in" = some (some (.ref f3)))
  (l3 : K.lookup f3 = some ⟨oc3, od3, .func (Zcz "places_in" "places_in" (ZdV ZeW) (ZdS ZeW) (Zdy ZeW) .none kV3 dc3 pm3 an3 cd3 ct3), sl3⟩)
  (c3 : ZcA K cd3 "places_in" = true)
  (k3 : Zcw K (.ref f3) = true)
  (a4 : ZcF K mainGlobals "flat" = some (some (.ref f4)))
  (l4 : K.lookup f4 = some ⟨oc4, od4, .func (Zcz "flat" "flat" (ZdV ZhA) (ZdS ZhA) (Zdy ZhA) .none kV4 dc4 pm4 an4 cd4 ct4), sl4⟩)
  (c4 : ZcA K cd4 "flat" = true)
  (k4 : Zcw K (.ref f4) = true)
  (a5 : ZcF K mainGlobals "stands_in" = some (some (.ref f5)))
  (l5 : K.lookup f5 = some ⟨oc5, od5, .func (Zcz "stands_in" "stands_in" (ZdV ZeX) (ZdS ZeX) (Zdy ZeX) .none kV5 dc5 pm5 an5 cd5 ct5), sl5⟩)
  (c5 : ZcA K cd5 "stands_in" = true)
  (k5 : Zcw K (.ref f5) = true)
  (a6 : ZcF K mainGlobals "weights_of" = some (some (.ref f6)))
  (l6 : K.lookup f6 = some ⟨oc6, od6, .func (Zcz "weights_of" "weights_of" (ZdV ZeL) (ZdS ZeL) (Zdy ZeL) .none kV6 dc6 pm6 an6 cd6 ct6), sl6⟩)
  (c6 : ZcA K cd6 "weights_of" = true)
  (k6 : Zcw K (.ref f6) = true)
  (a7 : ZcF K mainGlobals "inside_out" = some (some (.ref f7)))
  (l7 : K.lookup f7 = some ⟨oc7, od7, .func (Zcz "inside_out" "inside_out" (ZdV ZeM) (ZdS ZeM) (Zdy ZeM) .none kV7 dc7 pm7 an7 cd7 ct7), sl7⟩)
  (c7 : ZcA K cd7 "inside_out" = true)
  (k7 : Zcw K (.ref f7) = true)
  (a8 : ZcF K mainGlobals "weight_of" = some (some (.ref f8)))
  (l8 : K.lookup f8 = some ⟨oc8, od8, .func (Zcz "weight_of" "weight_of" (ZdV ZeY) (ZdS ZeY) (Zdy ZeY) .none kV8 dc8 pm8 an8 cd8 ct8), sl8⟩)
  (c8 : ZcA K cd8 "weight_of" = true)
  (k8 : Zcw K (.ref f8) = true)
  (a9 : ZcF K mainGlobals "homes_of" = some (some (.ref f9)))
  (l9 : K.lookup f9 = some ⟨oc9, od9, .func (Zcz "homes_of" "homes_of" (ZdV Zfe) (ZdS Zfe) (Zdy Zfe) .none kV9 dc9 pm9 an9 cd9 ct9), sl9⟩)
  (c9 : ZcA K cd9 "homes_of" = true)
  (k9 : Zcw K (.ref f9) = true)
  (a10 : ZcF K mainGlobals "refuse_twice" = some (some (.ref f10)))
  (l10 : K.lookup f10 = some ⟨oc10, od10, .func (Zcz "refuse_twice" "refuse_twice" (ZdV Zel) (ZdS Zel) (Zdy Zel) .none kV10 dc10 pm10 an10 cd10 ct10), sl10⟩)
  (c10 : ZcA K cd10 "refuse_twice" = true)
  (k10 : Zcw K (.ref f10) = true)
  (a11 : ZcF K mainGlobals "words_once" = some (some (.ref f11)))
  (l11 : K.lookup f11 = some ⟨oc11, od11, .func (Zcz "words_once" "words_once" (ZdV ZeN) (ZdS ZeN) (Zdy ZeN) .none kV11 dc11 pm11 an11 cd11 ct11), sl11⟩)
  (c11 : ZcA K cd11 "words_once" = true)
  (k11 : Zcw K (.ref f11) = true)
  (a12 : ZcF K mainGlobals "home_of" = some (some (.ref f12)))
  (l12 : K.lookup f12 = some ⟨oc12, od12, .func (Zcz "home_of" "home_of" (ZdV Zfx) (ZdS Zfx) (Zdy Zfx) .none kV12 dc12 pm12 an12 cd12 ct12), sl12⟩)
  (c12 : ZcA K cd12 "home_of" = true)
  (k12 : Zcw K (.ref f12) = true)
  (a13 : ZcF K mainGlobals "root_scopes" = some (some (.ref f13)))
  (l13 : K.lookup f13 = some ⟨oc13, od13, .func (Zcz "root_scopes" "root_scopes" (ZdV ZeD) (ZdS ZeD) (Zdy ZeD) .none kV13 dc13 pm13 an13 cd13 ct13), sl13⟩)
  (c13 : ZcA K cd13 "root_scopes" = true)
  (k13 : Zcw K (.ref f13) = true)
  (a14 : ZcF K mainGlobals "inner_scopes" = some (some (.ref f14)))
  (l14 : K.lookup f14 = some ⟨oc14, od14, .func (Zcz "inner_scopes" "inner_scopes" (ZdV Zem) (ZdS Zem) (Zdy Zem) .none kV14 dc14 pm14 an14 cd14 ct14), sl14⟩)
  (c14 : ZcA K cd14 "inner_scopes" = true)
  (k14 : Zcw K (.ref f14) = true)
  (a15 : ZcF K mainGlobals "widened" = some (some (.ref f15)))
  (l15 : K.lookup f15 = some ⟨oc15, od15, .func (Zcz "widened" "widened" (ZdV Zfy) (ZdS Zfy) (Zdy Zfy) .none kV15 dc15 pm15 an15 cd15 ct15), sl15⟩)
  (c15 : ZcA K cd15 "widened" = true)
  (k15 : Zcw K (.ref f15) = true)
  (a16 : ZcF K mainGlobals "_law_stem" = some (some (.ref f16)))
  (l16 : K.lookup f16 = some ⟨oc16, od16, .func (Zcz "_law_stem" "_law_stem" (ZdV ZeZ) (ZdS ZeZ) (Zdy ZeZ) .none kV16 dc16 pm16 an16 cd16 ct16), sl16⟩)
  (c16 : ZcA K cd16 "_law_stem" = true)
  (k16 : Zcw K (.ref f16) = true)
  (a17 : ZcF K mainGlobals "_law_words" = some (some (.ref f17)))
  (l17 : K.lookup f17 = some ⟨oc17, od17, .func (Zcz "_law_words" "_law_words" (ZdV ZeO) (ZdS ZeO) (Zdy ZeO) .none kV17 dc17 pm17 an17 cd17 ct17), sl17⟩)
  (c17 : ZcA K cd17 "_law_words" = true)
  (k17 : Zcw K (.ref f17) = true)
  (a18 : ZcF K mainGlobals "_law_row" = some (some (.ref f18)))
  (l18 : K.lookup f18 = some ⟨oc18, od18, .func (Zcz "_law_row" "_law_row" (ZdV Zff) (ZdS Zff) (Zdy Zff) .none kV18 dc18 pm18 an18 cd18 ct18), sl18⟩)
  (c18 : ZcA K cd18 "_law_row" = true)
  (k18 : Zcw K (.ref f18) = true)
  (a19 : ZcF K mainGlobals "_law_stands" = some (some (.ref f19)))
  (l19 : K.lookup f19 = some ⟨oc19, od19, .func (Zcz "_law_stands" "_law_stands" (ZdV ZeE) (ZdS ZeE) (Zdy ZeE) .none kV19 dc19 pm19 an19 cd19 ct19), sl19⟩)
  (c19 : ZcA K cd19 "_law_stands" = true)
  (k19 : Zcw K (.ref f19) = true)
  (a20 : ZcF K mainGlobals "_law_home" = some (some (.ref f20)))
  (l20 : K.lookup f20 = some ⟨oc20, od20, .func (Zcz "_law_home" "_law_home" (ZdV Ze0) (ZdS Ze0) (Zdy Ze0) .none kV20 dc20 pm20 an20 cd20 ct20), sl20⟩)
  (c20 : ZcA K cd20 "_law_home" = true)
  (k20 : Zcw K (.ref f20) = true)
  (a21 : ZcF K mainGlobals "_law_program" = some (some (.ref f21)))
  (l21 : K.lookup f21 = some ⟨oc21, od21, .func (Zcz "_law_program" "_law_program" (ZdV Zen) (ZdS Zen) (Zdy Zen) .none kV21 dc21 pm21 an21 cd21 ct21), sl21⟩)
  (c21 : ZcA K cd21 "_law_program" = true)
  (k21 : Zcw K (.ref f21) = true)
  (a22 : ZcF K mainGlobals "_law_weights" = some (some (.ref f22)))
  (l22 : K.lookup f22 = some ⟨oc22, od22, .func (Zcz "_law_weights" "_law_weights" (ZdV Zeo) (ZdS Zeo) (Zdy Zeo) .none kV22 dc22 pm22 an22 cd22 ct22), sl22⟩)
  (c22 : ZcA K cd22 "_law_weights" = true)
  (k22 : Zcw K (.ref f22) = true)
  (a23 : ZcF K mainGlobals "_law_alike" = some (some (.ref f23)))
  (l23 : K.lookup f23 = some ⟨oc23, od23, .func (Zcz "_law_alike" "_law_alike" (ZdV ZeP) (ZdS ZeP) (Zdy ZeP) .none kV23 dc23 pm23 an23 cd23 ct23), sl23⟩)
  (c23 : ZcA K cd23 "_law_alike" = true)
  (k23 : Zcw K (.ref f23) = true)
  (a24 : ZcF K mainGlobals "_law_put" = some (some (.ref f24)))
  (l24 : K.lookup f24 = some ⟨oc24, od24, .func (Zcz "_law_put" "_law_put" (ZdV Zfg) (ZdS Zfg) (Zdy Zfg) .none kV24 dc24 pm24 an24 cd24 ct24), sl24⟩)
  (c24 : ZcA K cd24 "_law_put" = true)
  (k24 : Zcw K (.ref f24) = true)
  (a25 : ZcF K mainGlobals "_law_numbers" = some (some (.ref f25)))
  (l25 : K.lookup f25 = some ⟨oc25, od25, .func (Zcz "_law_numbers" "_law_numbers" (ZdV Zep) (ZdS Zep) (Zdy Zep) .none kV25 dc25 pm25 an25 cd25 ct25), sl25⟩)
  (c25 : ZcA K cd25 "_law_numbers" = true)
  (k25 : Zcw K (.ref f25) = true)
  (a26 : ZcF K mainGlobals "_law_asked" = some (some (.ref f26)))
  (l26 : K.lookup f26 = some ⟨oc26, od26, .func (Zcz "_law_asked" "_law_asked" (ZdV ZeQ) (ZdS ZeQ) (Zdy ZeQ) .none kV26 dc26 pm26 an26 cd26 ct26), sl26⟩)
  (c26 : ZcA K cd26 "_law_asked" = true)
  (k26 : Zcw K (.ref f26) = true)
  (a27 : ZcF K mainGlobals "_law_refused" = some (some (.ref f27)))
  (l27 : K.lookup f27 = some ⟨oc27, od27, .func (Zcz "_law_refused" "_law_refused" (ZdV Zeq) (ZdS Zeq) (Zdy Zeq) .none kV27 dc27 pm27 an27 cd27 ct27), sl27⟩)
  (c27 : ZcA K cd27 "_law_refused" = true)
  (k27 : Zcw K (.ref f27) = true)
  (a28 : ZcF K mainGlobals "FlowError" = some (some (.ref C28)))
  (x28 : PySem.W.excIn K C28 [.type "ValueError", .type "Exception", .type "BaseException", .type "object"] "ValueError.__new__" = true)
  (a29 : ZcF K mainGlobals "Twice" = some (some (.ref C29)))
  (a30 : ZcF K mainGlobals "NoName" = some (some (.ref C30)))
  (xl30 : K.lookup C30 = some ⟨.type "type", xd30, .cls ⟨xn30, xb30, .ref C30 :: xm30, xN30, xq30, true, xs30, xu30, xa30, xo30, false⟩, #[xk30_0, xk30_1, xk30_2, xk30_3, some (.builtin "ValueError.__new__"), xk30_5]⟩)
  (xi30 : ZcF K xN30 "__init__" = some (some (.ref f31)))
  (l31 : K.lookup f31 = some ⟨oc31, od31, .func (Zcz "__init__" "NoName.__init__" (ZdV Zd7) (ZdS Zd7) (Zdy Zd7) .none kV31 dc31 pm31 an31 cd31 ct31), sl31⟩)
  (c31 : ZcA K cd31 "NoName.__init__" = true)
  (k31 : Zcw K (.ref f31) = true)
  (xz30 : ZcG K xN30 = true)
  (xt30 : ZcH K ZmU xm30 = true)
  (xp30 : oc31 = .type "function")
  (xj30 : Zci K (.ref C30) "__setattr__" = some (some (.builtin "object.__setattr__")))
  (xya30 : Zci K (.ref C30) "__getattribute__" = some (some (.builtin "BaseException.__getattribute__")))
  (xyb30 : Zci K (.ref C30) "__getattr__" = some none)
  (xyc30 : Zci K (.ref C30) "__class__" = some (some (.builtin "object.__class__")))
  (xyd30 : ZcB K (.ref C30) (.type "BaseException") = some true)
  (xye30 : ZcB K (.ref C30) (.type "object") = some true)
  (xyf30 : Zch K C30 = true)
  (xf30_word : Zci K (.ref C30) "word" = some none)
  (xf30_place : Zci K (.ref C30) "place" = some none)
  (a32 : ZcF K mainGlobals "TooHeavy" = some (some (.ref C32)))
  (xl32 : K.lookup C32 = some ⟨.type "type", xd32, .cls ⟨xn32, xb32, .ref C32 :: xm32, xN32, xq32, true, xs32, xu32, xa32, xo32, false⟩, #[xk32_0, xk32_1, xk32_2, xk32_3, some (.builtin "ValueError.__new__"), xk32_5]⟩)
  (xi32 : ZcF K xN32 "__init__" = some (some (.ref f33)))
  (l33 : K.lookup f33 = some ⟨oc33, od33, .func (Zcz "__init__" "TooHeavy.__init__" (ZdV ZdZ) (ZdS ZdZ) (Zdy ZdZ) .none kV33 dc33 pm33 an33 cd33 ct33), sl33⟩)
  (c33 : ZcA K cd33 "TooHeavy.__init__" = true)
  (k33 : Zcw K (.ref f33) = true)
  (xz32 : ZcG K xN32 = true)
  (xt32 : ZcH K ZmU xm32 = true)
  (xp32 : oc33 = .type "function")
  (xj32 : Zci K (.ref C32) "__setattr__" = some (some (.builtin "object.__setattr__")))
  (xya32 : Zci K (.ref C32) "__getattribute__" = some (some (.builtin "BaseException.__getattribute__")))
  (xyb32 : Zci K (.ref C32) "__getattr__" = some none)
  (xyc32 : Zci K (.ref C32) "__class__" = some (some (.builtin "object.__class__")))
  (xyd32 : ZcB K (.ref C32) (.type "BaseException") = some true)
  (xye32 : ZcB K (.ref C32) (.type "object") = some true)
  (xyf32 : Zch K C32 = true)
  (xf32_word : Zci K (.ref C32) "word" = some none)
  (a34 : ZcF K mainGlobals "Program" = some (some (.ref C34)))
  (pg34 : Zcg K C34 Str.empty = true)
  (hd34 : Zch K C34 = true)
  (po34 : Zck K C34 = true)
  (sa34 : Zci K (.ref C34) "__setattr__" = some (some (.builtin "object.__setattr__")))
  (t1_34 : Zci K (.ref C34) "__class__" = some (some (.builtin "object.__class__")))
  (t2_34 : Zcr K (.builtin "object.__class__") "__get__" = some (some (.builtin "getset_descriptor.__get__")))
  (t3_34 : PySem.W.takesIn K (.builtin "object.__class__") = some true)
  (t4_34 : PySem.W.mroIn K C34 (.type "object") = some true)
  (n34_names : Zci K (.ref C34) "names" = some none)
  (n34_roots : Zci K (.ref C34) "roots" = some none)
  (n34_rows : Zci K (.ref C34) "rows" = some none)
  (i35 : Zci K (.ref C34) "__init__" = some (some (.ref f35)))
  (j35 : PySem.W.isFn K (.ref f35) = true)
  (l35 : K.lookup f35 = some ⟨oc35, od35, .func (Zcz "__init__" "Program.__init__" (ZdV Zd3) (ZdS Zd3) (Zdy Zd3) .none kV35 dc35 pm35 an35 cd35 ct35), sl35⟩)
  (c35 : ZcA K cd35 "Program.__init__" = true)
  (k35 : Zcw K (.ref f35) = true)
  (mk34 : Zco K C34 = true)
  (kc34 : Zcw K (.ref C34) = true)
  (e_TooHeavy_TooHeavy : ZcI K (.ref C32) (.ref C32) = some true)
  (e_NoName_FlowError : ZcI K (.ref C30) (.ref C28) = some true)
  (i_NoName_NoName : Zcs K (.ref C30) (.ref C30) = some true)
  (z_ValueError : ZcF K mainGlobals "ValueError" = some none)
  (z_bool : ZcF K mainGlobals "bool" = some none)
  (z_dict : ZcF K mainGlobals "dict" = some none)
  (z_enumerate : ZcF K mainGlobals "enumerate" = some none)
  (z_int : ZcF K mainGlobals "int" = some none)
  (z_isinstance : ZcF K mainGlobals "isinstance" = some none)
  (z_len : ZcF K mainGlobals "len" = some none)
  (z_list : ZcF K mainGlobals "list" = some none)
  (z_max : ZcF K mainGlobals "max" = some none)
  (z_range : ZcF K mainGlobals "range" = some none)
  (z_reversed : ZcF K mainGlobals "reversed" = some none)
  (z_str : ZcF K mainGlobals "str" = some none)
  (z_sum : ZcF K mainGlobals "sum" = some none)
  (z_tuple : ZcF K mainGlobals "tuple" = some none)
  (z_zip : ZcF K mainGlobals "zip" = some none)
  (aL : ZcF K mainGlobals "law" = some (some (.ref fL))) (lL : K.lookup fL = some ⟨ocL, odL, .func (Zcz "law" "law" (ZdV Zip) (ZdS Zip) (Zdy Zip) .none kVL dcL pmL anL cdL ctL), slL⟩) (cL : ZcA K cdL "law" = true) (kL : Zcw K (.ref fL) = true) :
  ∃ fd : FuncData, (∀ (s : Shared) (v : Value), BindsTo s fd ⟨[v], []⟩ [("_law_script", v)]) /\ ∀ base : Heap, K.In base -> base.Ns mainGlobals mg -> ZfA l.prog w K mg base CX0 40 fa fd ["_law_script"] (Zkk K) := by
 have e := hfa.symm.trans (ZcJ X G aL)
 cases e
 have T : Txt K mg := ⟨u1, ZcJ X G g1,
  f2, _, ZdM (st := Zfd) l2 c2 k2, (ZdM (st := Zfd) l2 c2 k2).binds (ps := ["row"]) (fun _ _ _ _ _ _ => lS (fun _ => l0 rfl)), ZcJ X G a2, k2,
  f3, _, ZdM (st := ZeW) l3 c3 k3, (ZdM (st := ZeW) l3 c3 k3).binds (ps := ["row"]) (fun _ _ _ _ _ _ => lS (fun _ => l0 rfl)), ZcJ X G a3, k3,
  f4, _, ZdM (st := ZhA) l4 c4 k4, (ZdM (st := ZhA) l4 c4 k4).binds (ps := ["parts"]) (fun _ _ _ _ _ _ => lS (fun _ => l0 rfl)), ZcJ X G a4, k4,
  f5, _, ZdM (st := ZeX) l5 c5 k5, (ZdM (st := ZeX) l5 c5 k5).binds (ps := ["program", "place", "number"]) (fun _ _ _ _ _ _ => lS (fun _ => lS (fun _ => lS (fun _ => l0 rfl)))), ZcJ X G a5, k5,
  f6, _, ZdM (st := ZeL) l6 c6 k6, (ZdM (st := ZeL) l6 c6 k6).binds (ps := ["program", "homes"]) (fun _ _ _ _ _ _ => lS (fun _ => lS (fun _ => l0 rfl))), ZcJ X G a6, k6,
  f7, _, ZdM (st := ZeM) l7 c7 k7, (ZdM (st := ZeM) l7 c7 k7).binds (ps := ["rows", "root"]) (fun _ _ _ _ _ _ => lS (fun _ => lS (fun _ => l0 rfl))), ZcJ X G a7, k7,
  f8, _, ZdM (st := ZeY) l8 c8 k8, (ZdM (st := ZeY) l8 c8 k8).binds (ps := ["program", "homes", "place", "weights"]) (fun _ _ _ _ _ _ => lS (fun _ => lS (fun _ => lS (fun _ => lS (fun _ => l0 rfl))))), ZcJ X G a8, k8,
  f9, _, ZdM (st := Zfe) l9 c9 k9, (ZdM (st := Zfe) l9 c9 k9).binds (ps := ["program"]) (fun _ _ _ _ _ _ => lS (fun _ => l0 rfl)), ZcJ X G a9, k9,
  f10, _, ZdM (st := Zel) l10 c10 k10, (ZdM (st := Zel) l10 c10 k10).binds (ps := ["words"]) (fun _ _ _ _ _ _ => lS (fun _ => l0 rfl)), ZcJ X G a10, k10,
  f11, _, ZdM (st := ZeN) l11 c11 k11, (ZdM (st := ZeN) l11 c11 k11).binds (ps := ["row"]) (fun _ _ _ _ _ _ => lS (fun _ => l0 rfl)), ZcJ X G a11, k11,
  f12, _, ZdM (st := Zfx) l12 c12 k12, (ZdM (st := Zfx) l12 c12 k12).binds (ps := ["row", "place", "scope"]) (fun _ _ _ _ _ _ => lS (fun _ => lS (fun _ => lS (fun _ => l0 rfl)))), ZcJ X G a12, k12,
  f13, _, ZdM (st := ZeD) l13 c13 k13, (ZdM (st := ZeD) l13 c13 k13).binds (ps := ["program"]) (fun _ _ _ _ _ _ => lS (fun _ => l0 rfl)), ZcJ X G a13, k13,
  f14, _, ZdM (st := Zem) l14 c14 k14, (ZdM (st := Zem) l14 c14 k14).binds (ps := ["row", "scope"]) (fun _ _ _ _ _ _ => lS (fun _ => lS (fun _ => l0 rfl))), ZcJ X G a14, k14,
  f15, _, ZdM (st := Zfy) l15 c15 k15, (ZdM (st := Zfy) l15 c15 k15).binds (ps := ["scope", "name", "home"]) (fun _ _ _ _ _ _ => lS (fun _ => lS (fun _ => lS (fun _ => l0 rfl)))), ZcJ X G a15, k15,
  f16, _, ZdM (st := ZeZ) l16 c16 k16, (ZdM (st := ZeZ) l16 c16 k16).binds (ps := ["_law_cell", "_law_size"]) (fun _ _ _ _ _ _ => lS (fun _ => lS (fun _ => l0 rfl))), ZcJ X G a16, k16,
  f17, _, ZdM (st := ZeO) l17 c17 k17, (ZdM (st := ZeO) l17 c17 k17).binds (ps := ["_law_cell"]) (fun _ _ _ _ _ _ => lS (fun _ => l0 rfl)), ZcJ X G a17, k17,
  f18, _, ZdM (st := Zff) l18 c18 k18, (ZdM (st := Zff) l18 c18 k18).binds (ps := ["_law_op", "_law_more", "_law_kids"]) (fun _ _ _ _ _ _ => lS (fun _ => lS (fun _ => lS (fun _ => l0 rfl)))), ZcJ X G a18, k18,
  f19, _, ZdM (st := ZeE) l19 c19 k19, (ZdM (st := ZeE) l19 c19 k19).binds (ps := ["_law_words_here", "_law_cell", "_law_held", "_law_room"]) (fun _ _ _ _ _ _ => lS (fun _ => lS (fun _ => lS (fun _ => lS (fun _ => l0 rfl))))), ZcJ X G a19, k19,
  f20, _, ZdM (st := Ze0) l20 c20 k20, (ZdM (st := Ze0) l20 c20 k20).binds (ps := ["_law_held", "_law_stands_here"]) (fun _ _ _ _ _ _ => lS (fun _ => lS (fun _ => l0 rfl))), ZcJ X G a20, k20,
  f21, _, ZdM (st := Zen) l21 c21 k21, (ZdM (st := Zen) l21 c21 k21).binds (ps := ["_law_words_here", "_law_seed", "_law_cells"]) (fun _ _ _ _ _ _ => lS (fun _ => lS (fun _ => lS (fun _ => l0 rfl)))), ZcJ X G a21, k21,
  f22, _, ZdM (st := Zeo) l22 c22 k22, (ZdM (st := Zeo) l22 c22 k22).binds (ps := ["_law_rows", "_law_roots", "_law_due", "_law_kids"]) (fun _ _ _ _ _ _ => lS (fun _ => lS (fun _ => lS (fun _ => lS (fun _ => l0 rfl))))), ZcJ X G a22, k22,
  f23, _, ZdM (st := ZeP) l23 c23 k23, (ZdM (st := ZeP) l23 c23 k23).binds (ps := ["_law_found", "_law_due"]) (fun _ _ _ _ _ _ => lS (fun _ => lS (fun _ => l0 rfl))), ZcJ X G a23, k23,
  f24, _, ZdM (st := Zfg) l24 c24 k24, (ZdM (st := Zfg) l24 c24 k24).binds (ps := ["_law_kept", "_law_new"]) (fun _ _ _ _ _ _ => lS (fun _ => lS (fun _ => l0 rfl))), ZcJ X G a24, k24,
  f25, _, ZdM (st := Zep) l25 c25 k25, (ZdM (st := Zep) l25 c25 k25).binds (ps := ["_law_found", "_law_due"]) (fun _ _ _ _ _ _ => lS (fun _ => lS (fun _ => l0 rfl))), ZcJ X G a25, k25,
  f26, _, ZdM (st := ZeQ) l26 c26 k26, (ZdM (st := ZeQ) l26 c26 k26).binds (ps := ["_law_program_here", "_law_homes", "_law_drawn"]) (fun _ _ _ _ _ _ => lS (fun _ => lS (fun _ => lS (fun _ => l0 rfl)))), ZcJ X G a26, k26,
  f27, _, ZdM (st := Zeq) l27 c27 k27, (ZdM (st := Zeq) l27 c27 k27).binds (ps := ["_law_program_here", "_law_drawn", "_law_mix"]) (fun _ _ _ _ _ _ => lS (fun _ => lS (fun _ => lS (fun _ => l0 rfl)))), ZcJ X G a27, k27,
  C28, ZcJ X G a28, x28,
  C29, ZcJ X G a29,
  C30, ZcJ X G a30, f31, _, ZdM (st := Zd7) l31 c31 k31, (ZdM (st := Zd7) l31 c31 k31).binds (ps := ["self", "word", "place"]) (fun _ _ _ _ _ _ => lS (fun _ => lS (fun _ => lS (fun _ => l0 rfl)))), ZnK xl30 xz30 xi30 xt30 l31 xp30, ZnJ xl30 xt30 ⟨xya30, xyb30, xyc30, xyd30, xye30, xyf30⟩ xj30, xf30_word, xf30_place,
  C32, ZcJ X G a32, f33, _, ZdM (st := ZdZ) l33 c33 k33, (ZdM (st := ZdZ) l33 c33 k33).binds (ps := ["self", "word"]) (fun _ _ _ _ _ _ => lS (fun _ => lS (fun _ => l0 rfl))), ZnK xl32 xz32 xi32 xt32 l33 xp32, ZnJ xl32 xt32 ⟨xya32, xyb32, xyc32, xyd32, xye32, xyf32⟩ xj32, xf32_word,
  C34, ZcJ X G a34, ⟨pg34, hd34, po34, sa34⟩, fun _ _ _ _ e => .ins e ⟨pg34, hd34, po34, sa34⟩ t1_34 t2_34 t3_34 t4_34, n34_names, n34_roots, n34_rows, f35, _, ZdM (st := Zd3) l35 c35 k35, (ZdM (st := Zd3) l35 c35 k35).binds (ps := ["self", "names", "roots", "rows"]) (fun _ _ _ _ _ _ => lS (fun _ => lS (fun _ => lS (fun _ => lS (fun _ => l0 rfl))))), ⟨mk34, i35, j35, kc34⟩,
  e_TooHeavy_TooHeavy,
  e_NoName_FlowError,
  i_NoName_NoName,
  ZcK X G z_ValueError,
  ZcK X G z_bool,
  ZcK X G z_dict,
  ZcK X G z_enumerate,
  ZcK X G z_int,
  ZcK X G z_isinstance,
  ZcK X G z_len,
  ZcK X G z_list,
  ZcK X G z_max,
  ZcK X G z_range,
  ZcK X G z_reversed,
  ZcK X G z_str,
  ZcK X G z_sum,
  ZcK X G z_tuple,
  ZcK X G z_zip⟩
 exact ⟨Zcz "law" "law" (ZdV Zip) (ZdS Zip) (Zdy Zip) .none kVL dcL pmL anL cdL ctL, fun s v => .of_eq rfl, fun base _ _ => Zpd T (ZdM (st := Zip) lL cL kL)⟩
theorem walk {l : PySem.W.OpenLaw} {q : Program} {loose : List Str} {XP : (Str -> Option Value) -> Heap -> Prop} {YP : World -> Heap -> Prop} {d : DefRec} {K : Params -> PySem.W.Frag} (hn : l.most = some 63) (hdf : d.params.defaults = [])
  (hY : ∀ (w : World) (h : Heap), YP w h -> (K w.params).In h)
  (F : ∀ (w : World) (mg : Str -> Option Value) (fa : Addr) (h : Heap), (K w.params).In h -> h.Ns mainGlobals mg -> mg d.name = some (.ref fa) ->
   ∃ fd : FuncData, (∀ (s : Shared) (u : Value), BindsTo s fd ⟨[u], []⟩ [("_law_script", u)]) /\ ∀ base : Heap, (K w.params).In base -> base.Ns mainGlobals mg -> ZfA l.prog w (K w.params) mg base CX0 40 fa fd ["_law_script"] (Zkk (K w.params))) :
  PySem.W.WalkO q loose XP YP l.row.toRowW d [] (fun f vs => PySem.call f vs) :=
 L2.Internal.walk_of (n := 63) (k := 40) (x := "_law_script") (CX := fun _ => CX0) (sp := fun w => Zkk (K w.params)) hn (by decide) hdf ⟨rfl, by decide, by decide⟩ hY F (fun _ _ a ns hl _ hS => ⟨a, ns, rfl, hS, hl, fun _ => rfl⟩) fun _ _ _ _ _ z => z
end K14.Internal
open PySem PySem.W PyProof.Rows
set_option maxRecDepth 100000 in
set_option maxHeartbeats 0 in
theorem PySem.Challenge.cw_flowkinds_k14_asked_again_holds : PySem.Challenge.rw_flowkinds_k14_asked_again.Holds := by
 w_on; o_law; k_head; (case hw => w_witness2)
 k_fill
 refine K14.Internal.walk (l := PySem.Challenge.rw_flowkinds_k14_asked_again) rfl rfl (fun w h Y => PySem.W.kIn_of Y) ?F
 case F =>
  intro w mg fa h KX G hmg
  refine' K14.Internal.all_mk KX G hmg ?g1 ?a2 ?l2 ?c2 ?k2 ?a3 ?l3 ?c3 ?k3 ?a4 ?l4 ?c4 ?k4 ?a5 ?l5 ?c5 ?k5 ?a6 ?l6 ?c6 ?k6 ?a7 ?l7 ?c7 ?k7 ?a8 ?l8 ?c8 ?k8 ?a9 ?l9 ?c9 ?k9 ?a10 ?l10 ?c10 ?k10 ?a11 ?l11 ?c11 ?k11 ?a12 ?l12 ?c12 ?k12 ?a13 ?l13 ?c13 ?k13 ?a14 ?l14 ?c14 ?k14 ?a15 ?l15 ?c15 ?k15 ?a16 ?l16 ?c16 ?k16 ?a17 ?l17 ?c17 ?k17 ?a18 ?l18 ?c18 ?k18 ?a19 ?l19 ?c19 ?k19 ?a20 ?l20 ?c20 ?k20 ?a21 ?l21 ?c21 ?k21 ?a22 ?l22 ?c22 ?k22 ?a23 ?l23 ?c23 ?k23 ?a24 ?l24 ?c24 ?k24 ?a25 ?l25 ?c25 ?k25 ?a26 ?l26 ?c26 ?k26 ?a27 ?l27 ?c27 ?k27 ?a28 ?x28 ?a29 ?a30 ?xl30 ?xi30 ?l31 ?c31 ?k31 ?xz30 ?xt30 ?xp30 ?xj30 ?xya30 ?xyb30 ?xyc30 ?xyd30 ?xye30 ?xyf30 ?xf30_word ?xf30_place ?a32 ?xl32 ?xi32 ?l33 ?c33 ?k33 ?xz32 ?xt32 ?xp32 ?xj32 ?xya32 ?xyb32 ?xyc32 ?xyd32 ?xye32 ?xyf32 ?xf32_word ?a34 ?pg34 ?hd34 ?po34 ?sa34 ?t1_34 ?t2_34 ?t3_34 ?t4_34 ?n34_names ?n34_roots ?n34_rows ?i35 ?j35 ?l35 ?c35 ?k35 ?mk34 ?kc34 ?e_TooHeavy_TooHeavy ?e_NoName_FlowError ?i_NoName_NoName ?z_ValueError ?z_bool ?z_dict ?z_enumerate ?z_int ?z_isinstance ?z_len ?z_list ?z_max ?z_range ?z_reversed ?z_str ?z_sum ?z_tuple ?z_zip ?aL ?lL ?cL ?kL
  (case g1 => k_is)
  (case a2 => k_is)
  (case l2 => k_is)
  (case c2 => k_is)
  (case k2 => k_is)
  (case a3 => k_is)
  (case l3 => k_is)
  (case c3 => k_is)
  (case k3 => k_is)
  (case a4 => k_is)
  (case l4 => k_is)
  (case c4 => k_is)
  (case k4 => k_is)
  (case a5 => k_is)
  (case l5 => k_is)
  (case c5 => k_is)
  (case k5 => k_is)
  (case a6 => k_is)
  (case l6 => k_is)
  (case c6 => k_is)
  (case k6 => k_is)
  (case a7 => k_is)
  (case l7 => k_is)
  (case c7 => k_is)
  (case k7 => k_is)
  (case a8 => k_is)
  (case l8 => k_is)
  (case c8 => k_is)
  (case k8 => k_is)
  (case a9 => k_is)
  (case l9 => k_is)
  (case c9 => k_is)
  (case k9 => k_is)
  (case a10 => k_is)
  (case l10 => k_is)
  (case c10 => k_is)
  (case k10 => k_is)
  (case a11 => k_is)
  (case l11 => k_is)
  (case c11 => k_is)
  (case k11 => k_is)
  (case a12 => k_is)
  (case l12 => k_is)
  (case c12 => k_is)
  (case k12 => k_is)
  (case a13 => k_is)
  (case l13 => k_is)
  (case c13 => k_is)
  (case k13 => k_is)
  (case a14 => k_is)
  (case l14 => k_is)
  (case c14 => k_is)
  (case k14 => k_is)
  (case a15 => k_is)
  (case l15 => k_is)
  (case c15 => k_is)
  (case k15 => k_is)
  (case a16 => k_is)
  (case l16 => k_is)
  (case c16 => k_is)
  (case k16 => k_is)
  (case a17 => k_is)
  (case l17 => k_is)
  (case c17 => k_is)
  (case k17 => k_is)
  (case a18 => k_is)
  (case l18 => k_is)
  (case c18 => k_is)
  (case k18 => k_is)
  (case a19 => k_is)
  (case l19 => k_is)
  (case c19 => k_is)
  (case k19 => k_is)
  (case a20 => k_is)
  (case l20 => k_is)
  (case c20 => k_is)
  (case k20 => k_is)
  (case a21 => k_is)
  (case l21 => k_is)
  (case c21 => k_is)
  (case k21 => k_is)
  (case a22 => k_is)
  (case l22 => k_is)
  (case c22 => k_is)
  (case k22 => k_is)
  (case a23 => k_is)
  (case l23 => k_is)
  (case c23 => k_is)
  (case k23 => k_is)
  (case a24 => k_is)
  (case l24 => k_is)
  (case c24 => k_is)
  (case k24 => k_is)
  (case a25 => k_is)
  (case l25 => k_is)
  (case c25 => k_is)
  (case k25 => k_is)
  (case a26 => k_is)
  (case l26 => k_is)
  (case c26 => k_is)
  (case k26 => k_is)
  (case a27 => k_is)
  (case l27 => k_is)
  (case c27 => k_is)
  (case k27 => k_is)
  (case a28 => k_is)
  (case x28 => k_exc)
  (case a29 => k_is)
  (case a30 => k_is)
  (case xl30 => k_is)
  (case xi30 => k_is)
  (case l31 => k_is)
  (case c31 => k_is)
  (case k31 => k_is)
  (case xz30 => first | k_is | kernel_rfl | rfl)
  (case xt30 => first | k_is | kernel_rfl | rfl)
  (case xp30 => rfl)
  (case xj30 => k_is)
  (case xya30 => k_is)
  (case xyb30 => k_is)
  (case xyc30 => k_is)
  (case xyd30 => k_is)
  (case xye30 => k_is)
  (case xyf30 => k_is)
  (case xf30_word => k_is)
  (case xf30_place => k_is)
  (case a32 => k_is)
  (case xl32 => k_is)
  (case xi32 => k_is)
  (case l33 => k_is)
  (case c33 => k_is)
  (case k33 => k_is)
  (case xz32 => first | k_is | kernel_rfl | rfl)
  (case xt32 => first | k_is | kernel_rfl | rfl)
  (case xp32 => rfl)
  (case xj32 => k_is)
  (case xya32 => k_is)
  (case xyb32 => k_is)
  (case xyc32 => k_is)
  (case xyd32 => k_is)
  (case xye32 => k_is)
  (case xyf32 => k_is)
  (case xf32_word => k_is)
  (case a34 => k_is)
  (case pg34 => k_is)
  (case hd34 => k_is)
  (case po34 => k_is)
  (case sa34 => k_is)
  (case t1_34 => k_is)
  (case t2_34 => k_is)
  (case t3_34 => k_is)
  (case t4_34 => k_is)
  (case n34_names => k_is)
  (case n34_roots => k_is)
  (case n34_rows => k_is)
  (case i35 => k_is)
  (case j35 => k_is)
  (case l35 => k_is)
  (case c35 => k_is)
  (case k35 => k_is)
  (case mk34 => k_is)
  (case kc34 => k_is)
  (case e_TooHeavy_TooHeavy => kts_exm)
  (case e_NoName_FlowError => kts_exm)
  (case i_NoName_NoName => kit_is)
  (case z_ValueError => k_is)
  (case z_bool => k_is)
  (case z_dict => k_is)
  (case z_enumerate => k_is)
  (case z_int => k_is)
  (case z_isinstance => k_is)
  (case z_len => k_is)
  (case z_list => k_is)
  (case z_max => k_is)
  (case z_range => k_is)
  (case z_reversed => k_is)
  (case z_str => k_is)
  (case z_sum => k_is)
  (case z_tuple => k_is)
  (case z_zip => k_is)
  (case aL => k_is)
  (case lL => k_is)
  (case cL => k_is)
  (case kL => k_is)
