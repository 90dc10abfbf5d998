import PyProof.Rows.All
import Wide.All
import OpenK.AllK
import Wide.FinOn
import Lean
import PyProof.EqAt
import PyProof.EqKinds
import PyProof.TupleCall
import PyProof.NeKinds
import PySem.Challenge.RW_flowkinds_k04_programs_read
set_option Elab.async false
set_option linter.all false
set_option maxRecDepth 100000
set_option maxHeartbeats 4000000
set_option genInjectivity false
set_option genSizeOf false
set_option bootstrap.genMatcherCode false
set_option compiler.extract_closed false
open List renaming all_cons → ZaH, all_eq_true → Zbd, all_map → ZaT, append_assoc → ZaK, append_inj → Zbp, append_nil → Zar, cons_append → Zbg, cons_ne_nil → Zbe, dropLast_concat_getLast → Zbc, drop_eq_getElem_cons → Za2, drop_of_length_le → Zbf, drop_zero → Za3, eq_nil_of_length_eq_zero → Zbk, filterMap_cons → Zac, find?_cons → ZaC, flatten_cons → ZaJ, getD_eq_getElem?_getD → ZaO, getElem?_append_left → Zax, getElem?_append_right → Zaw, getElem?_cons_succ → Za0, getElem?_eq_getElem → ZaW, getElem?_eq_none → Za6, getElem?_eq_some_iff → Zai, getElem?_map → Zay, getElem?_set_ne → Zak, getElem?_set_self → Zaj, getElem?_toArray → Za5, getElem_mem → Za1, head?_drop → Zbn, headD_eq_head?_getD → Zbm, length_append → ZaA, length_cons → Zan, length_drop → ZaE, length_eq_zero_iff → Zbb, length_map → Zaq, length_nil → Zba, length_replicate → ZaB, length_set → ZaG, length_singleton → ZaL, length_take → Zav, length_zip → Zbl, lookup → Zao, lookup_cons → ZaN, map_append → ZaQ, map_cons → Zap, map_map → ZaY, map_nil → ZaF, mem_append → Zag, mem_append_left → Zah, mem_append_right → Zam, mem_cons → Zaf, mem_cons_of_mem → Zae, mem_cons_self → Zad, mem_filter → Zab, mem_filterMap → Zal, mem_iff_getElem? → Za9, mem_map → ZaX, mem_map_of_mem → Zbq, mem_of_find?_eq_some → Zbo, mem_of_getElem? → Zaz, mem_singleton → ZaU, nil_append → ZaM, nodup_cons → Zas, not_mem_nil → ZaZ, of_mem_zip → Zat, range → Zaa, range_succ_eq_map → ZaS, replicate → Zau, replicate_succ → ZaI, replicate_succ' → Zbs, set_append_right → Zbj, set_set → ZaP, singleton_append → Zbh, size_toArray → ZaD, sum_cons → Za8, take_add_one → Za7, take_append_drop → Zbr, take_length → ZaR, take_of_length_le → Za4, zip → ZaV, zip_cons_cons → Zbi
open Nat renaming add_assoc → ZbK, add_zero → ZbL, le_max_left → ZbC, le_max_right → ZbD, le_of_lt → Zbx, le_refl → Zbz, le_trans → Zbw, lt_irrefl → Zbu, lt_of_lt_of_le → Zbt, lt_succ_self → ZbB, ne_of_gt → Zby, ne_of_lt → Zbv, not_lt_zero → ZbE, sub_self → ZbJ, toDigits → ZbF, toDigits_append_toDigits → ZbH, toDigits_of_lt_base → ZbG, zero_add → ZbI, zero_le → ZbA
open Option renaming map_eq_some_iff → ZbN, some → ZbM
open PySem.W renaming callWith_K → Zcb, cellsFrom_some → Zcd, codeIn → Zcf, codeRec_of → Zcg, emptyDict → Zb2, excIn → Zch, findIn → ZbW, fnOf → Zce, hasDictIn → ZbV, hideAll → ZbQ, hideAll_get → ZbR, instObj → ZbO, isFn → ZbY, keepIn → Zb4, kia_one → Zb8, kitOne → Zb7, kitx_dict → Zca, kitx_list → Zb9, lookIn → ZbT, makesIn → Zb1, methodCall_KW → Zcc, methodObj → ZbP, mg_none_of → Zck, mg_of → Zcj, mroIn → Zb6, nsIn → Zci, of_hideAll → ZbS, plainGet → ZbU, plainGet_of → ZbX, plainOver → ZbZ, specialIn → Zb3, takerIn → Zb0, takesIn → Zb5
open PySem.F renaming args_tuple_add_2 → Zcn, entry_tuple_add → Zcm, excBase_ValueError → Zco, plainAttrs_list → Zcr, plainAttrs_str → Zcq, slot_list_append → Zcs, slot_list_index → Zcp, slot_str_join → Zcu, slot_tuple_add → Zcl, type_list_append → Zct, type_str_join → Zcv
open Bool renaming and_eq_true → Zcy, and_false → Zcz, eq_iff_iff → Zcx, false_ne_true → Zcw, false_xor → ZcA, true_and → ZcB
open Array renaming getElem?_toList → ZcE, length_toList → ZcC, toList → ZcD, toList_append → ZcF
open Int renaming emod_lt_of_pos → ZcJ, emod_nonneg → ZcI, eq_ofNat_of_zero_le → ZcH, toNat_natCast → ZcG
open PySem.Heap renaming get?_push_of_some → ZcM, get?_push_size → ZcL, get?_update_other → ZcO, lt_size → ZcK, size_push → ZcN
open PyProof.Rows renaming callWith_type1 → ZcP, slot_tuple_getitem → ZcQ
namespace L2.Internal
theorem auR (h : True = True := by rfl) : True := trivial
theorem auD (h : True := by decide) : True := trivial
theorem auI (h : True -> True = True := by intro _; rfl) : True := trivial
theorem auL (h : True = True \/ True := by first | exact .inl rfl | exact .inr rfl | assumption) : True := trivial
open PySem PySem.Spec PyProof.Rows
noncomputable abbrev Key := Sum Int Str
noncomputable def Zk6 : Key -> Value -> Bool
 | .inl k, v => Value.isInt k v
 | .inr x, v => Value.isStrOf x v
noncomputable def keyH (w : World) : Key -> Int
 | .inl k => hashInt k
 | .inr x => hashStr w x
theorem ZdX : ∀ {k : Key} {v : Value}, Zk6 k v = true -> (∃ i t, k = Sum.inl i /\ v = Value.int i t) \/ (∃ x t, k = Sum.inr x /\ v = Value.str x t)
 | .inl i, v, h => by
  obtain ⟨t, e⟩ := Value.isInt_shape (k := i) (v := v) h
  exact .inl ⟨i, t, rfl, e⟩
 | .inr x, v, h => by
  obtain ⟨t, e⟩ := Value.isStrOf_shape (x := x) (v := v) h
  exact .inr ⟨x, t, rfl, e⟩
theorem ZlC (i : Int) (t : Tok) : Zk6 (.inl i) (.int i t) = true := by simp [Zk6, Value.isInt]
theorem Zhf (x : Str) (t : Tok) : Zk6 (.inr x) (.str x t) = true := by simp [Zk6, Value.isStrOf]
theorem Zpm (a b : Int) : decide ((Sum.inl a : Key) = Sum.inl b) = (a == b) := by
 by_cases e : a = b
 ·subst e; simp
 ·have h : ¬ (Sum.inl a : Key) = Sum.inl b := fun q => e (Sum.inl.inj q)
  rw [decide_eq_false h]
  exact (beq_eq_false_iff_ne.mpr e).symm
theorem Zpn (a b : Str) : decide ((Sum.inr a : Key) = Sum.inr b) = decide (a = b) := by
 by_cases e : a = b
 ·subst e; simp
 ·have h : ¬ (Sum.inr a : Key) = Sum.inr b := fun q => e (Sum.inr.inj q)
  rw [decide_eq_false h, decide_eq_false e]
theorem Zpo (a : Int) (b : Str) : decide ((Sum.inl a : Key) = Sum.inr b) = false := decide_eq_false (fun q => nomatch q)
theorem Zpp (a : Str) (b : Int) : decide ((Sum.inr a : Key) = Sum.inl b) = false := decide_eq_false (fun q => nomatch q)
noncomputable def ZfE (prog : Program) (w : World) : PySem.KeyKind prog w Key where
 is := Zk6
 hash := keyH w
 inj := fun v a b ha hb => by
  rcases ZdX ha with ⟨i, t, rfl, rfl⟩ | ⟨x, t, rfl, rfl⟩
  ·rcases ZdX hb with ⟨j, u, rfl, e⟩ | ⟨y, u, rfl, e⟩
   ·injection e with e1 _; rw [e1]
   ·exact nomatch e
  ·rcases ZdX hb with ⟨j, u, rfl, e⟩ | ⟨y, u, rfl, e⟩
   ·exact nomatch e
   ·injection e with e1 _; rw [e1]
 byValue := fun k v h => by
  rcases ZdX h with ⟨i, t, rfl, rfl⟩ | ⟨x, t, rfl, rfl⟩ <;> rfl
 pyHash := fun hv h => by
  rcases ZdX hv with ⟨i, t, rfl, rfl⟩ | ⟨x, t, rfl, rfl⟩
  ·exact wpAny_pyHash_int h
  ·exact wpAny_pyHash_str h
 eqBool := fun hu hv h => by
  rcases ZdX hu with ⟨i, t, rfl, rfl⟩ | ⟨x, t, rfl, rfl⟩
  ·rcases ZdX hv with ⟨j, u, rfl, rfl⟩ | ⟨y, u, rfl, rfl⟩
   ·rw [Zpm] at h; exact wpAny_eqBool_int h
   ·rw [Zpo] at h; exact SeqAt.EqAt.int_str i t y u _ _ _ _ h
  ·rcases ZdX hv with ⟨j, u, rfl, rfl⟩ | ⟨y, u, rfl, rfl⟩
   ·rw [Zpp] at h; exact SeqAt.EqAt.str_int x t j u _ _ _ _ h
   ·rw [Zpn] at h; exact wpAny_eqBool_str h
 «strs» := fun k x t v h => by
  rcases ZdX h with ⟨i, u, rfl, e⟩ | ⟨y, u, rfl, e⟩
  ·exact nomatch e
  ·injection e with e1 _
   subst e1
   cases v <;> rfl
theorem ZjI (prog : Program) (w : World) (i : Int) (t : Tok) : (ZfE prog w).is (.inl i) (.int i t) = true := ZlC i t
theorem ZjJ (prog : Program) (w : World) (x : Str) (t : Tok) : (ZfE prog w).is (.inr x) (.str x t) = true := Zhf x t
end L2.Internal
namespace L2.Internal
open PySem PySem.Spec PyProof.Rows
set_option genInjectivity true in
inductive V where
 | non | bl (b : Bool) | int (i : Int) | str (x : Str) | byt (b : Array UInt8) | flt (b : UInt64) | ref (a : Addr) | ty (n : String)
 deriving DecidableEq
noncomputable def Zel : V -> Value -> Prop
 | .non, u => u = Value.none
 | .bl b, u => u = Value.bool b
 | .int i, u => ∃ t, u = Value.int i t
 | .str x, u => ∃ t, u = Value.str x t
 | .byt b, u => ∃ t, u = Value.bytes b t
 | .flt b, u => ∃ t, u = Value.float b t
 | .ref a, u => u = Value.ref a
 | .ty n, u => u = Value.type n
noncomputable abbrev ZdT : List V -> List Value -> Prop := Paired Zel
theorem ZdT.length {xs : List V} {us : List Value} (r : ZdT xs us) : xs.length = us.length := Paired.length r
theorem ZdT.get : ∀ {xs : List V} {us : List Value} {i : Nat} {x : V}, ZdT xs us -> xs[i]? = some x -> ∃ u, us[i]? = some u /\ Zel x u
 | _, _, _, _, .nil, e => by simp at e
 | _, _, 0, _, .cons r _, e => by simp at e; subst e; exact ⟨_, rfl, r⟩
 | _, _, i + 1, x, .cons _ t, e => by
  obtain ⟨u, h1, h2⟩ := ZdT.get (i := i) (x := x) t (by simpa using e)
  exact ⟨u, by simpa using h1, h2⟩
theorem ZdT.set {x : V} {u : Value} (r : Zel x u) : ∀ {xs : List V} {us : List Value} (i : Nat), ZdT xs us -> ZdT (xs.set i x) (us.set i u)
 | _, _, _, .nil => .nil
 | _, _, 0, .cons _ t => .cons r t
 | _, _, i + 1, .cons q t => .cons q (ZdT.set r i t)
theorem ZdT.append : ∀ {xs ys : List V} {us ws : List Value}, ZdT xs us -> ZdT ys ws -> ZdT (xs ++ ys) (us ++ ws)
 | _, _, _, _, .nil, s => s
 | _, _, _, _, .cons r t, s => .cons r (ZdT.append t s)
theorem ZdT.take : ∀ {xs : List V} {us : List Value} (n : Nat), ZdT xs us -> ZdT (xs.take n) (us.take n)
 | _, _, 0, _ => .nil
 | _, _, _ + 1, .nil => .nil
 | _, _, n + 1, .cons r t => .cons r (ZdT.take n t)
theorem ZdT.drop : ∀ {xs : List V} {us : List Value} (n : Nat), ZdT xs us -> ZdT (xs.drop n) (us.drop n)
 | _, _, 0, r => r
 | _, _, _ + 1, .nil => .nil
 | _, _, n + 1, .cons _ t => ZdT.drop n t
noncomputable def Zkn : Option V -> Option Value -> Prop
 | some v, some u => Zel v u
 | none, none => True
 | _, _ => False
noncomputable def KV {κ : Type} : List (κ × V) -> List (κ × Value) -> Prop := Paired fun (p : κ × V) (q : κ × Value) => p.1 = q.1 /\ Zel p.2 q.2
noncomputable def kV : Key -> V
 | .inl i => .int i
 | .inr x => .str x
inductive HO where
 | lst (xs : List V)
 | tup (xs : List V)
 | dK (kvs : List (Key × V)) | dT (kvs : List (List Key × V))
 | set (S : Int -> Bool) (n : Nat)
 | ins (C dx : Addr) (fs : List (Str × V))
 | own (x : Addr)
 | xd (fs : List (Str × V))
 | met (f x : Addr)
 | rng (lo hi : Int)
 | frz (o : Obj) (u : HO)
 | tbl (ps : Array Value)
 | ext (φ : Heap -> Prop)
noncomputable abbrev Hp := Addr -> Option HO
noncomputable def Zlz (h : Heap) (a : Addr) (items : Array Value) : Prop := ∃ o, h.get? a = some o /\ o.cls = .type "tuple" /\ ∃ n, o.data = .seq items n /\ o.dict = none
theorem Zlz.tup {h : Heap} {a : Addr} {items : Array Value} : Zlz h a items -> IsTup h a items
 | ⟨o, h1, h2, n, h3, _⟩ => ⟨o, h1, h2, n, h3⟩
theorem Zlz.lt {h : Heap} {a : Addr} {items : Array Value} (p : Zlz h a items) : a < h.objs.size := by
 obtain ⟨o, e, _⟩ := p
 exact ZcK e
theorem Zlz.new (h : Heap) (items : Array Value) : Zlz (h.push { cls := .type "tuple", data := .seq items }) h.objs.size items := ⟨_, ZcL _ rfl, rfl, _, rfl, rfl⟩
noncomputable def upd (H : Hp) (a : Addr) (o : HO) : Hp := fun b => if b = a then some o else H b
theorem ZcS {H : Hp} {a : Addr} {o : HO} : upd H a o a = some o := by unfold upd; rw [if_pos rfl]
theorem Zc1 {H : Hp} {a b : Addr} {o : HO} (h : b ≠ a) : upd H a o b = H b := by unfold upd; rw [if_neg h]
theorem Zoj {H : Hp} {a : Addr} {o u : HO} : upd (upd H a o) a u = upd H a u := by
 funext b; unfold upd; split <;> rfl
theorem ZfF {H : Hp} {a b : Addr} {o u : HO} (h : H a = some o) (h' : H b = some u) (d : o ≠ u) : a ≠ b := by
 intro e; subst e; rw [h] at h'; exact d (ZbM.inj h')
theorem ZcY {H : Hp} {a b : Addr} {o : HO} (h : H a = some o) (h' : H b = none) : a ≠ b := by
 intro e; subst e; rw [h] at h'; cases h'
section
variable (P : Program) (w : World)
noncomputable def ZeV (H : Hp) (h : Heap) (a : Addr) : HO -> Prop
 | .lst xs => xs.length <= sizeLine /\ ∃ (its : List Value) (n : Nat), ZdT xs its /\ h.get? a = some { cls := .type "list", data := .seq its.toArray n }
 | .tup xs => xs.length <= sizeLine /\ ∃ its : List Value, ZdT xs its /\ Zlz h a its.toArray
 | .dK kvs => kvs.length <= sizeLine /\ (a == sysModules) = false /\ ∃ vs, KV kvs vs /\ h.DictOf (ZfE P w) a vs
 | .dT kvs => kvs.length <= sizeLine /\ (a == sysModules) = false /\ ∃ xs : List (List Key × Addr × Value),
   Paired (fun (p : List Key × V) (q : List Key × Addr × Value) => p.1 = q.1 /\ H q.2.1 = some (.tup (p.1.map kV)) /\ Zel p.2 q.2.2) kvs xs /\
   ∃ o es ep, h.get? a = some o /\ o.ExactDict /\ o.data = .dict es ep /\ es.toList = xs.map (entryOfKey (tupleKind (ZfE P w))) /\ (xs.map (·.1)).Nodup
 | .set S n => h.SetOf (intKind P w) a S n
 | .ins C dx fs => H dx = some (.own a) /\ fs.length <= 1000 /\ dx ≠ a /\ h.get? a = some (ZbO C dx) /\
   ∃ mA, h.Ns1 dx mA /\ (∀ f, Zkn (fs.lookup f) (mA f)) /\ PySem.Within mA (fs.map (·.1))
 | .own _ => ∃ o, h.get? a = some o
 | .xd fs => ∃ mA, h.Ns1 a mA /\ ∀ f, Zkn (fs.lookup f) (mA f)
 | .rng lo hi => ∃ t u v, h.get? a = some { cls := .type "range", data := .fields #[.int lo t, .int hi u, .int 1 v] }
 | .frz o u => h.get? a = some o /\ ZeV H h a u
 | .tbl ps => h.get? a = some { cls := .none, data := .fields ps }
 | .met f x => h.get? a = some (ZbP (.ref f) (.ref x))
 | .ext φ => φ h /\ (∃ o, h.get? a = some o) /\ ∀ h1 h2 : Heap, φ h1 -> (∀ o, h1.get? a = some o -> h2.get? a = some o) -> φ h2
noncomputable def HOk (H : Hp) (h : Heap) : Prop := ∀ a o, H a = some o -> ZeV P w H h a o
end
section
variable {P : Program} {w : World} {H H' : Hp} {h h' : Heap} {a : Addr} {o : HO}
theorem ZeV.lt (x : ZeV P w H h a o) : a < h.objs.size := by
 cases o with
 | lst xs => obtain ⟨_, _, _, _, e⟩ := x; exact ZcK e
 | tup xs => obtain ⟨_, _, _, p⟩ := x; exact p.lt
 | dK kvs => obtain ⟨_, _, _, _, o, _, _, e, _⟩ := x; exact ZcK e
 | dT kvs => obtain ⟨_, _, _, _, o, _, _, e, _⟩ := x; exact ZcK e
 | set S n => obtain ⟨o, _, _, _, e, _⟩ := x; exact ZcK e
 | ins C dx fs => obtain ⟨_, _, _, e, _⟩ := x; exact ZcK e
 | own y => obtain ⟨_, e⟩ := x; exact ZcK e
 | xd fs => obtain ⟨_, ⟨_, _, _, e, _⟩, _⟩ := x; exact ZcK e
 | rng lo hi => obtain ⟨_, _, _, e⟩ := x; exact ZcK e
 | frz ob u => obtain ⟨e, _⟩ := x; exact ZcK e
 | tbl ps => exact ZcK (show h.get? a = some _ from x)
 | met f y => exact ZcK (show h.get? a = some _ from x)
 | ext φ => obtain ⟨_, ⟨_, e⟩, _⟩ := x; exact ZcK e
theorem Paired.mapP {α β : Type} {F G : α -> β -> Prop} : ∀ {l₁ : List α} {l₂ : List β}, Paired F l₁ l₂ -> (∀ a b, F a b -> G a b) -> Paired G l₁ l₂
 | _, _, .nil, _ => .nil
 | _, _, .cons r t, f => .cons (f _ _ r) (Paired.mapP t f)
theorem ZeV.stay (x : ZeV P w H h a o) (k : ∀ b u, (b = a \/ H b = some (.own a)) -> h.get? b = some u -> h'.get? b = some u)
  (ho : ∀ b, H b = some (.own a) -> H' b = some (.own a)) (ht : ∀ b xs, H b = some (.tup xs) -> H' b = some (.tup xs)) : ZeV P w H' h' a o := by
 induction o with
 | lst xs => obtain ⟨z, its, n, r, e⟩ := x; exact ⟨z, its, n, r, k _ _ (.inl rfl) e⟩
 | tup xs => obtain ⟨z, its, r, ob, e, c⟩ := x; exact ⟨z, its, r, ob, k _ _ (.inl rfl) e, c⟩
 | dK kvs => obtain ⟨z, y, vs, r, ob, es, ep, e, c⟩ := x; exact ⟨z, y, vs, r, ob, es, ep, k _ _ (.inl rfl) e, c⟩
 | dT kvs =>
  obtain ⟨z, y, xs, r, ob, es, ep, e, c⟩ := x
  exact ⟨z, y, xs, Paired.mapP r fun p q z => ⟨z.1, ht _ _ z.2.1, z.2.2⟩, ob, es, ep, k _ _ (.inl rfl) e, c⟩
 | set S n => obtain ⟨ob, es, ep, t, e, c⟩ := x; exact ⟨ob, es, ep, t, k _ _ (.inl rfl) e, c⟩
 | ins C dx fs =>
  obtain ⟨d, z, ne, e, mA, ⟨od, es, ep, e2, c⟩, r⟩ := x
  exact ⟨ho _ d, z, ne, k _ _ (.inl rfl) e, mA, ⟨od, es, ep, k _ _ (.inr d) e2, c⟩, r⟩
 | own y => obtain ⟨ob, e⟩ := x; exact ⟨ob, k _ _ (.inl rfl) e⟩
 | xd fs => obtain ⟨mA, ⟨od, es, ep, e, c⟩, r⟩ := x; exact ⟨mA, ⟨od, es, ep, k _ _ (.inl rfl) e, c⟩, r⟩
 | rng lo hi => obtain ⟨t, u, v, e⟩ := x; exact ⟨t, u, v, k _ _ (.inl rfl) e⟩
 | frz ob u ih => obtain ⟨e, q⟩ := x; exact ⟨k _ _ (.inl rfl) e, ih q⟩
 | tbl ps =>
  have e : h.get? a = some { cls := .none, data := .fields ps } := x
  show h'.get? a = some { cls := .none, data := .fields ps }
  exact k a _ (.inl rfl) e
 | met f y =>
  have e : h.get? a = some (ZbP (.ref f) (.ref y)) := x
  show h'.get? a = some (ZbP (.ref f) (.ref y))
  exact k a _ (.inl rfl) e
 | ext φ => obtain ⟨p, ⟨o, e⟩, st⟩ := x; exact ⟨st _ _ p fun o q => k _ _ (.inl rfl) q, ⟨o, k _ _ (.inl rfl) e⟩, st⟩
theorem HOk.lt (x : HOk P w H h) (e : H a = some o) : a < h.objs.size := (x a o e).lt
theorem HOk.fresh (x : HOk P w H h) (e : h.objs.size <= a) : H a = none := by
 cases q : H a with
 | none => rfl
 | some u => exact absurd (Zbt (x.lt q) e) (Zbu _)
theorem HOk.kept (x : HOk P w H h) (k : ∀ b u, h.get? b = some u -> h'.get? b = some u) : HOk P w H h' := fun a o e =>
 (x a o e).stay (fun b u _ q => k b u q) (fun _ q => q) fun _ _ q => q
theorem HOk.laid (x : HOk P w H h) (k : ∀ b u, h.get? b = some u -> h'.get? b = some u) (hp : h.objs.size <= a) (new : ZeV P w (upd H a o) h' a o) : HOk P w (upd H a o) h' := fun b u e => by
 have hn := x.fresh hp
 by_cases hb : b = a
 ·subst hb; rw [ZcS] at e; cases e; exact new
 ·rw [Zc1 hb] at e
  exact (x b u e).stay (fun c v _ q => k c v q) (fun c q => by rw [Zc1 (ZcY q hn)]; exact q) fun c xs q => by rw [Zc1 (ZcY q hn)]; exact q
end
noncomputable def Rd (H : Hp) (a : Addr) (u : HO) : Prop := H a = some u \/ ∃ o, H a = some (.frz o u)
theorem Rd.ok {P : Program} {w : World} {H : Hp} {h : Heap} {a : Addr} {u : HO} (r : Rd H a u) (x : HOk P w H h) : ZeV P w H h a u := by
 rcases r with r | ⟨o, r⟩
 ·exact x a u r
 ·obtain ⟨_, q⟩ := x a _ r
  exact q
noncomputable def Mut : Option HO -> Prop
 | some (.lst _) => True
 | some (.dK _) => True
 | some (.dT _) => True
 | some (.set _ _) => True
 | some (.ins _ _ _) => True
 | some (.ext _) => True
 | _ => False
section
variable {P : Program} {w : World} {H : Hp} {h h' : Heap} {x e : Addr} {o' : HO}
theorem HOk.write (ok : HOk P w H h) (mu : Mut (H x)) (he : e = x \/ H e = some (.own x)) (k : ∀ b u, b ≠ e -> h.get? b = some u -> h'.get? b = some u) (heo : ∃ u, h'.get? e = some u)
  (new : ZeV P w (upd H x o') h' x o') : HOk P w (upd H x o') h' := fun b u q => by
 have nown : ∀ c y, H c = some (.own y) -> c ≠ x := fun c y r z => by subst z; rw [r] at mu; exact mu
 have ntup : ∀ c xs, H c = some (.tup xs) -> c ≠ x := fun c xs r z => by subst z; rw [r] at mu; exact mu
 by_cases hb : b = x
 ·subst hb; rw [ZcS] at q; cases q; exact new
 ·rw [Zc1 hb] at q
  by_cases hbe : b = e
  ·have q' : H b = some (.own x) := by
    rcases he with z | z
    ·exact absurd (hbe.trans z) hb
    ·rw [hbe]; exact z
   rw [q] at q'; cases q'
   obtain ⟨v, hv⟩ := heo
   exact ⟨v, by rw [hbe]; exact hv⟩
  ·refine (ok b u q).stay (fun c v hc r => k c v ?_ r) (fun c r => by rw [Zc1 (nown c b r)]; exact r) fun c xs r => by rw [Zc1 (ntup c xs r)]; exact r
   rcases hc with rfl | hc
   ·exact hbe
   ·rintro rfl
    rcases he with z | z
    ·exact nown c b hc z
    ·rw [hc] at z; cases z; exact hb rfl
end
structure Un (fs ex : List Addr) (H H' : Hp) (h h' : Heap) : Prop where
 keep : ∀ b o, h.get? b = some o -> H b = none -> b ∉ fs -> b ∉ ex -> h'.get? b = some o
 slot : ∀ b o, h.get? b = some o -> H b = none -> b ∈ fs -> b ∉ ex -> ∃ sl, h'.get? b = some { o with slots := sl }
 free : ∀ b o, h.get? b = some o -> H b = none -> b ∉ ex -> H' b = none
 there : ∀ b o, h.get? b = some o -> b ∉ ex -> ∃ o', h'.get? b = some o'
 tups : ∀ b xs, H b = some (.tup xs) -> H' b = some (.tup xs)
 frzs : ∀ b o u, H b = some (.frz o u) -> H' b = some (.frz o u)
 tbls : ∀ b ps, H b = some (.tbl ps) -> ∃ more, H' b = some (.tbl (ps ++ more))
section
variable {fs fs' ex ex' : List Addr} {H H1 H2 : Hp} {h h1 h2 h' : Heap} {a x e : Addr} {o : HO}
theorem Un.any (u : Un fs ex H H1 h h1) {b : Addr} {ob : Obj} (q : h.get? b = some ob) (n : H b = none) (hx : b ∉ ex) : ∃ sl, h1.get? b = some { ob with slots := sl } := by
 by_cases hb : b ∈ fs
 ·exact u.slot b ob q n hb hx
 ·exact ⟨ob.slots, u.keep b ob q n hb hx⟩
theorem Un.trans (a : Un fs ex H H1 h h1) (b : Un fs ex H1 H2 h1 h2) : Un fs ex H H2 h h2 where
 keep := fun c ob q n hc hx => b.keep c ob (a.keep c ob q n hc hx) (a.free c ob q n hx) hc hx
 slot := fun c ob q n hc hx => by
  obtain ⟨sl, e1⟩ := a.slot c ob q n hc hx
  obtain ⟨sl', e2⟩ := b.slot c _ e1 (a.free c ob q n hx) hc hx
  exact ⟨sl', e2⟩
 free := fun c ob q n hx => by
  obtain ⟨o', e1⟩ := a.there c ob q hx
  exact b.free c o' e1 (a.free c ob q n hx) hx
 there := fun c ob q hx => by
  obtain ⟨o', e1⟩ := a.there c ob q hx
  exact b.there c o' e1 hx
 tups := fun c xs q => b.tups c xs (a.tups c xs q)
 frzs := fun c ob xs q => b.frzs c ob xs (a.frzs c ob xs q)
 tbls := fun c ps q => by
  obtain ⟨m1, e1⟩ := a.tbls c ps q
  obtain ⟨m2, e2⟩ := b.tbls c _ e1
  exact ⟨m1 ++ m2, by rw [e2, Array.append_assoc]⟩
theorem Un.kept (k : ∀ b u, h.get? b = some u -> h'.get? b = some u) : Un fs ex H H h h' :=
 ⟨fun b ob q _ _ _ => k b ob q, fun b ob q _ _ _ => ⟨ob.slots, k b ob q⟩, fun _ _ _ n _ => n, fun b ob q _ => ⟨ob, k b ob q⟩, fun _ _ q => q, fun _ _ _ q => q, fun _ ps q => ⟨#[], by rw [q]; simp⟩⟩
theorem Un.refl : Un fs ex H H h h := Un.kept fun _ _ q => q
theorem Un.laid (k : ∀ b u, h.get? b = some u -> h'.get? b = some u) (hp : h.objs.size <= a) (hn : H a = none) : Un fs ex H (upd H a o) h h' where
 keep := fun b u q _ _ _ => k b u q
 slot := fun b u q _ _ _ => ⟨u.slots, k b u q⟩
 free := fun b u q n _ => by rw [Zc1 (Zbv (Zbt (ZcK q) hp))]; exact n
 there := fun b u q _ => ⟨u, k b u q⟩
 tups := fun b xs q => by rw [Zc1 (ZcY q hn)]; exact q
 frzs := fun b u xs q => by rw [Zc1 (ZcY q hn)]; exact q
 tbls := fun b ps q => ⟨#[], by rw [Zc1 (ZcY q hn), q]; simp⟩
theorem Un.write (mu : Mut (H x)) (he : e = x \/ H e = some (.own x)) (k : ∀ b u, b ≠ e -> h.get? b = some u -> h'.get? b = some u) (heo : ∃ u, h'.get? e = some u) : Un fs ex H (upd H x o) h h' := by
 have hx : ∀ b, H b = none -> b ≠ x := fun b n z => by subst z; rw [n] at mu; exact mu
 have hb : ∀ b, H b = none -> b ≠ e := fun b n z => by
  subst z
  rcases he with r | r
  ·exact hx b n r
  ·rw [n] at r; cases r
 have hm : ∀ b u, H b = some u -> ¬ Mut (some u) -> b ≠ x := fun b u q nm z => by subst z; rw [q] at mu; exact nm mu
 refine ⟨fun b u q n _ _ => k b u (hb b n) q, fun b u q n _ _ => ⟨u.slots, k b u (hb b n) q⟩, fun b u q n _ => by rw [Zc1 (hx b n)]; exact n, fun b u q _ => ?_,
  fun b xs q => by rw [Zc1 (hm b _ q fun z => z)]; exact q, fun b u xs q => by rw [Zc1 (hm b _ q fun z => z)]; exact q, fun b ps q => ⟨#[], by rw [Zc1 (hm b _ q fun z => z), q]; simp⟩⟩
 by_cases hbe : b = e
 ·subst hbe; exact heo
 ·exact ⟨u, k b u hbe q⟩
end
noncomputable def trk (h : Heap) (H : Hp) : List Addr := (Zaa h.objs.size).filter fun a => (H a).isSome
noncomputable def ZmQ (h : Heap) (H : Hp) : Heap := ZbQ h (trk h H)
theorem ZlD (h : Heap) (H : Hp) : (ZmQ h H).objs.size = h.objs.size := PySem.W.hideAll_size _ _
theorem ZmR {h : Heap} {H : Hp} {b : Addr} {o : Obj} (e : h.get? b = some o) (n : H b = none) : (ZmQ h H).get? b = some o :=
 ZbR _ e fun hm => by
  have q : (H b).isSome = true := (Zab.mp hm).2
  rw [n] at q; simp at q
theorem Zok {h : Heap} {H : Hp} {b : Addr} {o : Obj} (e : (ZmQ h H).get? b = some o) : h.get? b = some o /\ H b = none := by
 have e' : h.get? b = some o := ZbS (trk h H) e
 refine ⟨e', ?_⟩
 cases q : H b with
 | none => rfl
 | some x =>
  have hm : b ∈ trk h H := Zab.mpr ⟨List.mem_range.mpr (ZcK e'), by simp [q]⟩
  have z : (ZmQ h H).get? b = none := PySem.W.hideAll_none (trk h H) hm
  rw [z] at e; cases e
end L2.Internal
namespace L2.Internal
open PySem PySem.Spec PyProof.Rows
structure Mod (K : PySem.W.Frag) (mg : Str -> Option Value) (base : Heap) : Prop where
 kin : K.In base
 glob : base.Ns mainGlobals mg
 blt : ∃ mb, base.Ns builtinsNs mb /\ ∀ x : Str, x ≠ "__name__" -> mb x = bootBuiltins x
 nolimit : base.NoLimit
structure Cx where
 prog : Program
 w : World
 K : PySem.W.Frag
 mg : Str -> Option Value
 base : Heap
 A : Around
 N : List Str
 s₀ : Shared
 H₀ : Hp
 env : Env
 outer : List Env
 stack : List Env
 ex : List Addr
 fn : Str -> Bool
 calm : Bool
 pn : List (Addr × Obj)
 xe : Value -> Shared -> Prop
noncomputable def frs (l : List Env) : List Addr := l.filterMap (·.frame)
noncomputable abbrev Cx.fs (X : Cx) : List Addr := frs X.outer
noncomputable def Vis (sc : Scope) (x : Str) : Prop := sc.names.lookup x = some .local \/ sc.names.lookup x = some .cell \/ sc.names.lookup x = some .free
noncomputable def Loc (sc : Scope) (x : Str) : Prop := sc.names.lookup x = some .local \/ sc.names.lookup x = some .cell
noncomputable def Look (env : Env) (h : Heap) (m : Str -> Option Value) (x : Str) (u : Value) : Prop :=
 (env.kindOf x = some .local /\ m x = some u) \/ ((env.kindOf x = some .cell \/ env.kindOf x = some .free) /\ ∃ c, env.cells.lookup x = some c /\ h.IsCell c (some u))
structure Cx.Ok (X : Cx) : Prop where
 mod : Mod X.K X.mg X.base
 kind : X.env.scope.kind = .function
 glob : X.env.globals = mainGlobals
 blt : X.env.builtins = builtinsNs
 above : X.s₀.heap.objs.size <= X.env.locals
 inj : ∀ x y c, X.env.cells.lookup x = some c -> X.env.cells.lookup y = some c -> x = y
 has : ∀ x, (X.env.kindOf x = some .cell \/ X.env.kindOf x = some .free) -> ∃ c, X.env.cells.lookup x = some c
 cab : ∀ x c, X.fn x = true -> X.env.cells.lookup x = some c -> X.s₀.heap.objs.size <= c
 hd : X.calm = true -> X.A.handled = none
 frames : X.A.frames = some X.stack
 stk : X.stack = X.outer \/ (X.stack = X.env :: X.outer /\ X.env.frame = some X.env.locals)
 exf : ∀ b ∈ X.ex, b ≠ X.env.locals /\ ∀ x c, X.env.cells.lookup x = some c -> c ≠ b
 bs : ∀ b o, X.base.get? b = some o -> X.s₀.heap.get? b = some o /\ X.H₀ b = none
 bsz : X.base.objs.size <= X.s₀.heap.objs.size
 noex : ∀ b o, X.base.get? b = some o -> b ∉ X.ex
 exfs : ∀ b ∈ X.ex, b ∉ X.fs
 funs : X.s₀.heap.FunFrames X.base X.outer
 frf : ∀ b ∈ X.fs, X.H₀ b = none
structure Inv (X : Cx) (pins : List (Addr × Obj)) (σ : List (Option V)) (H : Hp) (s : Shared) : Prop where
 ok : X.Ok
 os : s.os = X.s₀.os
 bare : AllBare s.gens
 base : Un X.fs X.ex X.H₀ H X.s₀.heap s.heap
 loc : ∃ m, s.heap.Ns X.env.locals m /\ ∀ (i : Nat) (x : Str) (v : V), X.N[i]? = some x -> σ[i]? = some (some v) -> Vis X.env.scope x -> ∃ u, Zel v u /\ Look X.env s.heap m x u
 cell : ∀ x c, X.env.cells.lookup x = some c -> ∃ v, s.heap.IsCell c v
 free : H X.env.locals = none
 freeC : ∀ x c, X.env.cells.lookup x = some c -> H c = none
 pin : ∀ p ∈ X.pn ++ pins, s.heap.get? p.1 = some p.2 /\ H p.1 = none /\ p.1 ≠ X.env.locals /\ p.1 ∉ X.fs /\ ∀ v, p.2.data ≠ .cell v
 hok : HOk X.prog X.w H s.heap
 len : σ.length = X.N.length
section
variable {X : Cx} {pins : List (Addr × Obj)} {σ : List (Option V)} {H H' : Hp} {s : Shared} {h' : Heap}
theorem Cx.Ok.nofr (ok : X.Ok) {b : Addr} {o : Obj} (e : X.base.get? b = some o) : b ∉ X.fs := fun hb => by
 have := (ok.funs.mem hb).1
 rw [e] at this; cases this
theorem Inv.bs (I : Inv X pins σ H s) : ∀ b o, X.base.get? b = some o -> s.heap.get? b = some o /\ H b = none := fun b o e =>
 ⟨I.base.keep b o (I.ok.bs b o e).1 (I.ok.bs b o e).2 (I.ok.nofr e) (I.ok.noex b o e), I.base.free b o (I.ok.bs b o e).1 (I.ok.bs b o e).2 (I.ok.noex b o e)⟩
theorem Inv.bk (I : Inv X pins σ H s) : ∀ b o, X.base.get? b = some o -> s.heap.get? b = some o := fun b o e => (I.bs b o e).1
theorem Inv.mod (I : Inv X pins σ H s) : Mod X.K X.mg X.base := I.ok.mod
theorem Inv.kIn (I : Inv X pins σ H s) : X.K.In s.heap := I.ok.mod.kin.keeps I.bk
theorem Inv.lt (I : Inv X pins σ H s) : X.env.locals < s.heap.objs.size := let ⟨_, hn, _⟩ := I.loc; hn.lt
theorem Inv.sz (I : Inv X pins σ H s) : X.s₀.heap.objs.size <= s.heap.objs.size := Zbw I.ok.above (Zbx I.lt)
theorem Inv.nofs (I : Inv X pins σ H s) {a : Addr} (h : s.heap.objs.size <= a) : a ∉ X.fs := fun hb => by
 obtain ⟨_, o, ho, _⟩ := I.ok.funs.mem hb
 exact absurd (Zbt (ZcK ho) (Zbw I.sz h)) (Zbu _)
theorem Inv.cne (I : Inv X pins σ H s) : ∀ x c, X.env.cells.lookup x = some c -> c ≠ X.env.locals := fun x c e z => by
 obtain ⟨v, o, ho, hd⟩ := I.cell x c e
 obtain ⟨m, ⟨o', es, ep, ho', hd', _⟩, _⟩ := I.loc
 rw [z, ho'] at ho; cases ho; rw [hd'] at hd; cases hd
theorem Inv.funs (I : Inv X pins σ H s) : s.heap.FunFrames X.base X.outer := by
 have all : ∀ (l : List Env), (∀ b ∈ frs l, b ∈ X.fs) -> X.s₀.heap.FunFrames X.base l -> s.heap.FunFrames X.base l := by
  intro l
  induction l with
  | nil => intro _ _; trivial
  | cons env r ih =>
   intro hs hl
   obtain ⟨hk, ⟨L, o, hf, hn, ho, hd⟩, hr⟩ := hl
   have hL : L ∈ X.fs := hs L (by unfold frs; rw [Zac, hf]; exact Zad)
   obtain ⟨sl, e⟩ := I.base.slot L o ho (I.ok.frf L hL) hL fun z => I.ok.exfs L z hL
   exact ⟨hk, ⟨L, _, hf, hn, e, hd⟩, ih (fun b hb => hs b (by unfold frs; rw [Zac, hf]; exact Zae _ hb)) hr⟩
 exact all X.outer (fun _ hb => hb) I.ok.funs
theorem Inv.stack (I : Inv X pins σ H s) : s.heap.FunFrames X.base X.stack := by
 rcases I.ok.stk with e | ⟨e, hf⟩
 ·rw [e]; exact I.funs
 ·rw [e]
  obtain ⟨m, hn, _⟩ := I.loc
  refine .cons (by rw [I.ok.kind]; decide) hf hn ?_ I.funs
  exact Heap.get?_none_of_le (Zbw I.ok.bsz I.ok.above)
theorem Inv.stkSub (I : Inv X pins σ H s) : ∀ b ∈ frs X.stack, b ∈ X.env.locals :: X.fs := fun b hb => by
 rcases I.ok.stk with e | ⟨e, hf⟩
 ·rw [e] at hb; exact Zae _ hb
 ·rw [e] at hb
  unfold frs at hb
  rw [Zac, hf] at hb
  exact hb
theorem Inv.stkFree (I : Inv X pins σ H s) : ∀ b ∈ frs X.stack, H b = none := fun b hb => by
 rcases Zaf.mp (I.stkSub b hb) with e | hb
 ·rw [e]; exact I.free
 ·obtain ⟨_, o, ho, _⟩ := I.ok.funs.mem hb
  exact I.base.free b o ho (I.ok.frf b hb) fun z => I.ok.exfs b z hb
theorem Inv.step {g' : Array GenState} {t' : Nat} {d' : Drawn} {ch : List Addr} (I : Inv X pins σ H s)
  (hch : ∀ b ∈ ch, (b ∈ X.ex \/ X.s₀.heap.objs.size <= b) /\ b ≠ X.env.locals /\ (∀ x c, X.env.cells.lookup x = some c -> c ≠ b) /\ ∀ p ∈ X.pn ++ pins, p.1 ≠ b)
  (keep : ∀ b o, b ≠ X.env.locals -> b ∉ X.fs -> b ∉ ch -> s.heap.get? b = some o -> H b = none -> h'.get? b = some o)
  (slot : ∀ b o, b ≠ X.env.locals -> b ∈ X.fs -> b ∉ ch -> s.heap.get? b = some o -> H b = none -> ∃ sl, h'.get? b = some { o with slots := sl }) (free : ∀ b o, b ∉ ch -> s.heap.get? b = some o -> H b = none -> H' b = none)
  (there : ∀ b o, b ∉ ch -> s.heap.get? b = some o -> ∃ o', h'.get? b = some o')
  (tups : ∀ b xs, H b = some (.tup xs) -> H' b = some (.tup xs)) (frzs : ∀ b o u, H b = some (.frz o u) -> H' b = some (.frz o u)) (tbls : ∀ b ps, H b = some (.tbl ps) -> ∃ more, H' b = some (.tbl (ps ++ more)))
  (ns : ∀ m, s.heap.Ns X.env.locals m -> h'.Ns X.env.locals m) (hok : HOk X.prog X.w H' h') (hg : AllBare g') :
  Inv X pins σ H' { s with heap := h', gens := g', drawn := d', toks := t' } := by
 have neL : ∀ b o, X.s₀.heap.get? b = some o -> b ≠ X.env.locals := fun b o e => Zbv (Zbt (ZcK e) I.ok.above)
 have neC : ∀ b o, X.s₀.heap.get? b = some o -> b ∉ X.ex -> b ∉ ch := fun b o e hx hb => by
  rcases (hch b hb).1 with z | z
  ·exact hx z
  ·exact absurd (Zbt (ZcK e) z) (Zbu _)
 have cellK : ∀ x c, X.env.cells.lookup x = some c -> ∀ v, s.heap.IsCell c v -> h'.IsCell c v := fun x c e v ⟨o, ho, hd⟩ => by
  have nch : c ∉ ch := fun z => (hch c z).2.2.1 x c e rfl
  by_cases hc : c ∈ X.fs
  ·obtain ⟨sl, q⟩ := slot c o (I.cne x c e) hc nch ho (I.freeC x c e)
   exact ⟨_, q, hd⟩
  ·exact ⟨o, keep c o (I.cne x c e) hc nch ho (I.freeC x c e), hd⟩
 refine ⟨I.ok, I.os, hg, ⟨fun b o e n hb hx => ?_, fun b o e n hb hx => ?_, fun b o e n hx => ?_, fun b o e hx => ?_, fun b xs e => tups b xs (I.base.tups b xs e), fun b o xs e => frzs b o xs (I.base.frzs b o xs e), fun b ps e => ?_⟩, ?_, fun x c e => ?_, ?_, fun x c e => ?_, fun p hp => ?_, hok, I.len⟩
 ·exact keep b o (neL b o e) hb (neC b o e hx) (I.base.keep b o e n hb hx) (I.base.free b o e n hx)
 ·obtain ⟨sl, e1⟩ := I.base.slot b o e n hb hx
  obtain ⟨sl', e2⟩ := slot b _ (neL b o e) hb (neC b o e hx) e1 (I.base.free b o e n hx)
  exact ⟨sl', e2⟩
 ·obtain ⟨o', e1⟩ := I.base.there b o e hx
  exact free b o' (neC b o e hx) e1 (I.base.free b o e n hx)
 ·obtain ⟨o', e1⟩ := I.base.there b o e hx
  exact there b o' (neC b o e hx) e1
 ·obtain ⟨m1, e1⟩ := I.base.tbls b ps e
  obtain ⟨m2, e2⟩ := tbls b _ e1
  exact ⟨m1 ++ m2, by rw [e2, Array.append_assoc]⟩
 ·obtain ⟨m, hn, hl⟩ := I.loc
  refine ⟨m, ns m hn, fun i x v e1 e2 e3 => ?_⟩
  obtain ⟨u, r, l⟩ := hl i x v e1 e2 e3
  refine ⟨u, r, ?_⟩
  rcases l with l | ⟨k, c, e, z⟩
  ·exact .inl l
  ·exact .inr ⟨k, c, e, cellK x c e _ z⟩
 ·obtain ⟨v, z⟩ := I.cell x c e
  exact ⟨v, cellK x c e v z⟩
 ·obtain ⟨m, ⟨o, _, _, ho, _⟩, _⟩ := I.loc
  exact free _ o (fun z => (hch _ z).2.1 rfl) ho I.free
 ·obtain ⟨v, o, ho, hd⟩ := I.cell x c e
  exact free c o (fun z => (hch c z).2.2.1 x c e rfl) ho (I.freeC x c e)
 ·obtain ⟨e, n, ne, nf, d⟩ := I.pin p hp
  have nch : p.1 ∉ ch := fun z => (hch p.1 z).2.2.2 p hp rfl
  exact ⟨keep p.1 p.2 ne nf nch e n, free p.1 p.2 nch e n, ne, nf, d⟩
theorem Inv.un {t' : Nat} (I : Inv X pins σ H s) (u : Un X.fs [] H H' s.heap h') (hok : HOk X.prog X.w H' h') : Inv X pins σ H' { s with heap := h', toks := t' } := by
 obtain ⟨m, ⟨o, es, ep, ho, r⟩, _⟩ := id I.loc
 obtain ⟨sl, hL⟩ := u.any ho I.free (by simp)
 exact I.step (g' := s.gens) (d' := s.drawn) (ch := []) (fun _ z => nomatch z) (fun b o _ hb _ e n => u.keep b o e n hb (by simp)) (fun b o _ hb _ e n => u.slot b o e n hb (by simp)) (fun b o _ e n => u.free b o e n (by simp)) (fun b o _ e => u.there b o e (by simp)) u.tups u.frzs u.tbls (fun m' hm => by
  obtain ⟨o', es', ep', ho', r'⟩ := hm
  rw [ho] at ho'; cases ho'
  exact ⟨_, es', ep', hL, r'⟩) hok I.bare
theorem Inv.call {g' : Array GenState} {t' : Nat} {d' : Drawn} {ch : List Addr} (I : Inv X pins σ H s) (u : Un (frs X.stack) ch H H' s.heap h') (hok : HOk X.prog X.w H' h') (hg : AllBare g')
  (hch : ∀ b ∈ ch, (b ∈ X.ex \/ X.s₀.heap.objs.size <= b) /\ b ≠ X.env.locals /\ (∀ x c, X.env.cells.lookup x = some c -> c ≠ b) /\ ∀ p ∈ X.pn ++ pins, p.1 ≠ b) :
  Inv X pins σ H' { s with heap := h', gens := g', drawn := d', toks := t' } := by
 obtain ⟨m, ⟨o, es, ep, ho, r⟩, _⟩ := id I.loc
 obtain ⟨sl, hL⟩ := u.any ho I.free fun z => (hch _ z).2.1 rfl
 exact I.step (ch := ch) hch (fun b o hL hb hc e n => u.keep b o e n (fun z => (Zaf.mp (I.stkSub b z)).elim hL hb) hc) (fun b o _ _ hc e n => u.any e n hc) (fun b o hc e n => u.free b o e n hc) (fun b o hc e => u.there b o e hc) u.tups u.frzs u.tbls (fun m' hm => by
  obtain ⟨o', es', ep', ho', r'⟩ := hm
  rw [ho] at ho'; cases ho'
  exact ⟨_, es', ep', hL, r'⟩) hok hg
theorem Inv.turned {t' : Nat} {it : Addr} (I : Inv X pins σ H s) (k : ∀ b o, b ≠ it -> s.heap.get? b = some o -> h'.get? b = some o) (hn : H it = none) (hL : it ≠ X.env.locals)
  (h1 : it ∈ X.ex \/ X.s₀.heap.objs.size <= it) (h2 : ∀ x c, X.env.cells.lookup x = some c -> c ≠ it) (h3 : ∀ p ∈ X.pn ++ pins, p.1 ≠ it) : Inv X pins σ H { s with heap := h', toks := t' } := by
 have nit : ∀ b u, H b = some u -> b ≠ it := fun b u e z => by rw [z, hn] at e; cases e
 refine I.step (g' := s.gens) (d' := s.drawn) (ch := [it]) (fun b hb => ?_) (fun b o _ _ hc e _ => k b o (fun z => hc (by simp [z])) e) (fun b o _ _ hc e _ => ⟨o.slots, k b o (fun z => hc (by simp [z])) e⟩) (fun _ _ _ _ n => n)
  (fun b o hc e => ⟨o, k b o (fun z => hc (by simp [z])) e⟩) (fun _ _ e => e) (fun _ _ _ e => e) (fun b ps e => ⟨#[], by rw [e]; simp⟩) (fun m hm => ?_) (fun b u e => ?_) I.bare
 ·have e : b = it := by simpa using hb
  subst e
  exact ⟨h1, hL, h2, h3⟩
 ·obtain ⟨o, es, ep, ho, r⟩ := hm
  exact ⟨o, es, ep, k _ o (Ne.symm hL) ho, r⟩
 ·refine (I.hok b u e).stay (fun c v hc q => k c v ?_ q) (fun _ q => q) fun _ _ q => q
  rcases hc with z | z
  ·rw [z]; exact nit b u e
  ·exact nit c _ z
theorem Inv.tok (I : Inv X pins σ H s) (t : Nat) : Inv X pins σ H { s with toks := t } := I.un (h' := s.heap) (t' := t) Un.refl I.hok
theorem Inv.kept {t' : Nat} (I : Inv X pins σ H s) (k : ∀ b u, s.heap.get? b = some u -> h'.get? b = some u) : Inv X pins σ H { s with heap := h', toks := t' } := I.un (Un.kept k) (I.hok.kept k)
theorem Inv.laid {a : Addr} {o : HO} {t' : Nat} (I : Inv X pins σ H s) (k : ∀ b u, s.heap.get? b = some u -> h'.get? b = some u) (hp : s.heap.objs.size <= a) (new : ZeV X.prog X.w (upd H a o) h' a o) :
  Inv X pins σ (upd H a o) { s with heap := h', toks := t' } := I.un (Un.laid k hp (I.hok.fresh hp)) (I.hok.laid k hp new)
theorem Inv.write {x e : Addr} {o : HO} {t' : Nat} (I : Inv X pins σ H s) (mu : Mut (H x)) (he : e = x \/ H e = some (.own x)) (k : ∀ b u, b ≠ e -> s.heap.get? b = some u -> h'.get? b = some u) (heo : ∃ u, h'.get? e = some u)
  (new : ZeV X.prog X.w (upd H x o) h' x o) : Inv X pins σ (upd H x o) { s with heap := h', toks := t' } := I.un (Un.write mu he k heo) (I.hok.write mu he k heo new)
theorem Inv.pins_of {pins' : List (Addr × Obj)} (I : Inv X pins σ H s) (h : ∀ p ∈ pins', s.heap.get? p.1 = some p.2 /\ H p.1 = none /\ p.1 ≠ X.env.locals /\ p.1 ∉ X.fs /\ ∀ v, p.2.data ≠ .cell v) : Inv X pins' σ H s :=
 ⟨I.ok, I.os, I.bare, I.base, I.loc, I.cell, I.free, I.freeC, fun p hp => (Zag.mp hp).elim (fun z => I.pin p (Zah _ z)) (h p), I.hok, I.len⟩
theorem Zko {N : List Str} (hN : N.Nodup) {i j : Nat} {x : Str} (a : N[i]? = some x) (b : N[j]? = some x) : i = j := by
 obtain ⟨h1, e1⟩ := Zai.mp a
 obtain ⟨h2, e2⟩ := Zai.mp b
 exact (List.getElem_inj hN).mp (e1.trans e2.symm)
theorem ZlE {M : Model} {A : Around} {E : Value -> Shared -> Prop} {i : Nat} {x : Str} {v : V} {u : Value} {Q : Unit -> Shared -> Prop} (I : Inv X pins σ H s) (hN : X.N.Nodup) (hi : X.N[i]? = some x) (hx : Loc X.env.scope x) (r : Zel v u)
  (h : ∀ s', Inv X pins (σ.set i (some v)) H s' -> (∃ a, Heap.SameBut a s.heap s'.heap /\ (a = X.env.locals \/ X.env.cells.lookup x = some a)) -> Q () s') (hf : autoParam (X.fn x = true \/ X.env.scope.names.lookup x = some .local) L2.Internal.auL._auto_1) : wpAny M A (storeName X.env x u) Q E s := by
 obtain ⟨m, hn, hl⟩ := id I.loc
 have hcls : (X.env.scope.kind == .class || (X.env.scope.kind == .module && X.env.locals != X.env.globals)) = false := by rw [I.ok.kind]; rfl
 have hiσ : i < σ.length := by rw [I.len]; exact (Zai.mp hi).1
 have cne := I.cne
 have tracked : ∀ {a : Addr} {h' : Heap}, (∃ o, s.heap.get? a = some o /\ H a = none) -> Heap.SameBut a s.heap h' -> HOk X.prog X.w H h' := fun {a h'} ha hs b ob e => by
  obtain ⟨_, _, hfree⟩ := ha
  refine (I.hok b ob e).stay (fun c w' hc q => (hs.2 c ?_).trans q) (fun _ q => q) fun _ _ q => q
  rintro rfl
  rcases hc with rfl | hc
  ·rw [hfree] at e; cases e
  ·rw [hfree] at hc; cases hc
 rcases hx with hk | hk
 ·refine wpAny_storeName_local hk hn (fun h' hn' hs => ?_) hcls
  obtain ⟨oL, _, _, hoL, _⟩ := id hn
  refine h _ ⟨I.ok, I.os, I.bare, ⟨fun b o e n hb hx => ?_, fun b o e n hb hx => ?_, I.base.free, fun b o e hx => ?_, I.base.tups, I.base.frzs, I.base.tbls⟩, ⟨_, hn', fun j y v' e1 e2 e3 => ?_⟩, fun y c e => ?_, I.free, I.freeC, fun p hp => ?_, tracked ⟨oL, hoL, I.free⟩ hs, by simpa using I.len⟩ ⟨_, hs, .inl rfl⟩
  ·exact (hs.2 b (Zbv (Zbt (ZcK e) I.ok.above))).trans (I.base.keep b o e n hb hx)
  ·obtain ⟨sl, e1⟩ := I.base.slot b o e n hb hx
   exact ⟨sl, (hs.2 b (Zbv (Zbt (ZcK e) I.ok.above))).trans e1⟩
  ·obtain ⟨o', e1⟩ := I.base.there b o e hx
   exact ⟨o', (hs.2 b (Zbv (Zbt (ZcK e) I.ok.above))).trans e1⟩
  ·by_cases hj : j = i
   ·subst hj
    rw [hi] at e1; cases e1
    rw [Zaj hiσ] at e2
    cases e2
    exact ⟨u, r, .inl ⟨hk, by simp⟩⟩
   ·rw [Zak (Ne.symm hj)] at e2
    obtain ⟨u', r', q⟩ := hl j y v' e1 e2 e3
    refine ⟨u', r', ?_⟩
    rcases q with ⟨k, e⟩ | ⟨k, c, e, z⟩
    ·refine .inl ⟨k, ?_⟩
     have : y ≠ x := fun e => hj (Zko hN e1 (e ▸ hi))
     simp [this, e]
    ·exact .inr ⟨k, c, e, z.sameBut hs (cne y c e)⟩
  ·obtain ⟨w', z⟩ := I.cell y c e
   exact ⟨w', z.sameBut hs (cne y c e)⟩
  ·obtain ⟨e, n, ne, nf, d⟩ := I.pin p hp
   exact ⟨(hs.2 p.1 ne).trans e, n, ne, nf, d⟩
 ·have hfn : X.fn x = true := by
   rcases hf with z | z
   ·exact z
   ·rw [z] at hk; cases hk
  obtain ⟨c, hc⟩ := I.ok.has x (.inl hk)
  obtain ⟨w', z⟩ := I.cell x c hc
  refine wpAny_storeName_cell I.ok.kind hk hc z (fun h' hc' hs => ?_)
  obtain ⟨oc, hoc, hocd⟩ := id z
  refine h { s with heap := h' } ⟨I.ok, I.os, I.bare, ⟨fun b o e n hb hx => ?_, fun b o e n hb hx => ?_, I.base.free, fun b o e hx => ?_, I.base.tups, I.base.frzs, I.base.tbls⟩, ⟨m, hn.sameBut hs (Ne.symm (cne x c hc)), fun j y v' e1 e2 e3 => ?_⟩, fun y c' e => ?_, I.free, I.freeC, fun p hp => ?_, tracked ⟨oc, hoc, I.freeC x c hc⟩ hs, by simpa using I.len⟩ ⟨c, hs, .inr hc⟩
  ·exact (hs.2 b (Zbv (Zbt (ZcK e) (I.ok.cab x c hfn hc)))).trans (I.base.keep b o e n hb hx)
  ·obtain ⟨sl, e1⟩ := I.base.slot b o e n hb hx
   exact ⟨sl, (hs.2 b (Zbv (Zbt (ZcK e) (I.ok.cab x c hfn hc)))).trans e1⟩
  ·obtain ⟨o', e1⟩ := I.base.there b o e hx
   exact ⟨o', (hs.2 b (Zbv (Zbt (ZcK e) (I.ok.cab x c hfn hc)))).trans e1⟩
  ·by_cases hj : j = i
   ·subst hj
    rw [hi] at e1; cases e1
    rw [Zaj hiσ] at e2
    cases e2
    exact ⟨u, r, .inr ⟨.inl hk, c, hc, hc'⟩⟩
   ·rw [Zak (Ne.symm hj)] at e2
    obtain ⟨u', r', q⟩ := hl j y v' e1 e2 e3
    refine ⟨u', r', ?_⟩
    rcases q with q | ⟨k, c', e, z'⟩
    ·exact .inl q
    ·refine .inr ⟨k, c', e, z'.sameBut hs ?_⟩
     rintro rfl
     exact hj (Zko hN e1 (I.ok.inj _ _ _ e hc ▸ hi))
  ·by_cases hcc : c' = c
   ·subst hcc; exact ⟨_, hc'⟩
   ·obtain ⟨w2, z2⟩ := I.cell y c' e
    exact ⟨w2, z2.sameBut hs hcc⟩
  ·obtain ⟨e, n, ne, nf, d⟩ := I.pin p hp
   refine ⟨(hs.2 p.1 ?_).trans e, n, ne, nf, d⟩
   intro q
   rw [q, hoc] at e
   have q' : oc = p.2 := ZbM.inj e
   exact d w' (by rw [<- q']; exact hocd)
theorem ZfS {M : Model} {A : Around} {E : Value -> Shared -> Prop} {i : Nat} {x : Str} {v : V} {u : Value} {Q : Unit -> Shared -> Prop} (I : Inv X pins σ H s) (hN : X.N.Nodup) (hi : X.N[i]? = some x) (hx : Loc X.env.scope x) (r : Zel v u)
  (h : ∀ s', Inv X pins (σ.set i (some v)) H s' -> Q () s') (hf : autoParam (X.fn x = true \/ X.env.scope.names.lookup x = some .local) L2.Internal.auL._auto_1) : wpAny M A (storeName X.env x u) Q E s :=
 ZlE I hN hi hx r (fun s' I' _ => h s' I') hf
theorem Inv.call' {s' : Shared} {ch : List Addr} (I : Inv X pins σ H s) (ho : s'.os = s.os) (u : Un (frs X.stack) ch H H' s.heap s'.heap) (hok : HOk X.prog X.w H' s'.heap) (hg : AllBare s'.gens)
  (hch : ∀ b ∈ ch, (b ∈ X.ex \/ X.s₀.heap.objs.size <= b) /\ b ≠ X.env.locals /\ (∀ x c, X.env.cells.lookup x = some c -> c ≠ b) /\ ∀ p ∈ X.pn ++ pins, p.1 ≠ b) : Inv X pins σ H' s' := by
 obtain ⟨h', g', d', t', o'⟩ := s'
 have e : o' = s.os := ho
 subst e
 exact I.call (g' := g') (t' := t') (d' := d') u hok hg hch
end
noncomputable abbrev XK := Value -> Option Addr -> Hp -> Prop
noncomputable abbrev St := List (Option V)
noncomputable abbrev VK := V -> Hp -> Prop
noncomputable abbrev TE := St -> Hp -> VK -> Prop
noncomputable abbrev TT := St -> Hp -> (Bool -> Hp -> Prop) -> Prop
noncomputable abbrev TA := St -> Hp -> (List V -> Hp -> Prop) -> Prop
structure Zih where
 nx : St -> Hp -> Prop
 rt : VK
 bk : St -> Hp -> Prop := fun _ _ => False
 ct : St -> Hp -> Prop := fun _ _ => False
noncomputable abbrev TS := Zih -> St -> Hp -> Prop
noncomputable def EP (X : Cx) (pins : List (Addr × Obj)) (σ : St) (Q : VK) (u : Value) (s' : Shared) : Prop := ∃ v H', Inv X pins σ H' s' /\ Zel v u /\ Q v H'
noncomputable def TP (X : Cx) (pins : List (Addr × Obj)) (σ : St) (Q : Bool -> Hp -> Prop) (b : Bool) (s' : Shared) : Prop := ∃ H', Inv X pins σ H' s' /\ Q b H'
noncomputable def AP (X : Cx) (pins : List (Addr × Obj)) (σ : St) (Q : List V -> Hp -> Prop) (us : List Value) (s' : Shared) : Prop := ∃ vs H', Inv X pins σ H' s' /\ ZdT vs us /\ Q vs H'
noncomputable def SP (X : Cx) (pins : List (Addr × Obj)) (D : Zih) (f : Flow) (s' : Shared) : Prop :=
 match f with
 | .next => ∃ σ' H', Inv X pins σ' H' s' /\ D.nx σ' H'
 | .brk => ∃ σ' H', Inv X pins σ' H' s' /\ D.bk σ' H'
 | .cont => ∃ σ' H', Inv X pins σ' H' s' /\ D.ct σ' H'
 | .ret u => ∃ v σ' H', Inv X pins σ' H' s' /\ Zel v u /\ D.rt v H'
noncomputable def PE (X : Cx) (e : Expr) (t : TE) : Prop :=
 ∀ (pins : List (Addr × Obj)) (s : Shared) (σ : St) (H : Hp) (Q : VK), Inv X pins σ H s -> t σ H Q -> wpAny (model X.prog X.w) X.A (eval e X.env) (EP X pins σ Q) X.xe s
noncomputable def PT (X : Cx) (e : Expr) (t : TT) : Prop :=
 ∀ (pins : List (Addr × Obj)) (s : Shared) (σ : St) (H : Hp) (Q : Bool -> Hp -> Prop), Inv X pins σ H s -> t σ H Q -> wpAny (model X.prog X.w) X.A (isTrue e X.env (eval e X.env)) (TP X pins σ Q) X.xe s
noncomputable def PW (X : Cx) (e : Expr) (t : TT) : Prop :=
 ∀ (whole : Sem Value) (pins : List (Addr × Obj)) (s : Shared) (σ : St) (H : Hp) (Q : Bool -> Hp -> Prop), Inv X pins σ H s -> t σ H Q -> wpAny (model X.prog X.w) X.A (isTrue e X.env whole) (TP X pins σ Q) X.xe s
theorem PW.pt {X : Cx} {e : Expr} {t : TT} (h : PW X e t) : PT X e t := h _
noncomputable def PA (X : Cx) (es : List Expr) (t : TA) : Prop :=
 ∀ (pos : Pos) (pins : List (Addr × Obj)) (s : Shared) (σ : St) (H : Hp) (Q : List V -> Hp -> Prop), Inv X pins σ H s -> t σ H Q -> wpAny (model X.prog X.w) X.A (spliced (backTo pos (starEach es X.env))) (AP X pins σ Q) X.xe s
noncomputable def PS (X : Cx) (st : Stmt) (t : TS) : Prop :=
 ∀ (pins : List (Addr × Obj)) (s : Shared) (σ : St) (H : Hp) (D : Zih), Inv X pins σ H s -> t D σ H -> wpAny (model X.prog X.w) X.A (exec st X.env) (SP X pins D) X.xe s
noncomputable def PSs (X : Cx) (st : List Stmt) (t : TS) : Prop :=
 ∀ (pins : List (Addr × Obj)) (s : Shared) (σ : St) (H : Hp) (D : Zih), Inv X pins σ H s -> t D σ H -> wpAny (model X.prog X.w) X.A (execs st X.env) (SP X pins D) X.xe s
theorem thn {α : Type} {t : Sem α} {Q Q' : α -> Shared -> Prop} {M : Model} {A : Around} {E : Value -> Shared -> Prop} {s : Shared} (h : wpAny M A t Q E s) (hQ : ∀ a s, Q a s -> Q' a s) : wpAny M A t Q' E s := wpAny_mono h hQ fun _ _ x => x
end L2.Internal
namespace L2.Internal
open PySem PySem.Spec PyProof.Rows
section
variable {X : Cx}
noncomputable def Zpg (i : Nat) : TE := fun σ H Q => ∃ v, σ[i]? = some (some v) /\ Q v H
noncomputable def tC (v : V) : TE := fun _ H Q => Q v H
theorem Zpq {i : Nat} {x : Str} {pos : Pos} (hN : X.N[i]? = some x) (hv : Vis X.env.scope x) (hd : autoParam ((x == ("__debug__" : Str)) = false) L2.Internal.auD._auto_1) (hcd : autoParam ((x == ("__classdict__" : Str)) = false) L2.Internal.auD._auto_1) : PE X (.Name x pos) (Zpg i) := by
 intro pins s σ H Q I h
 obtain ⟨v, e, h⟩ := h
 obtain ⟨m, hn, hl⟩ := I.loc
 obtain ⟨u, r, l⟩ := hl i x v hN e hv
 have fin : EP X pins σ Q u s := ⟨v, H, I, r, h⟩
 rcases l with ⟨hk, hm⟩ | ⟨hk, c, hc, hcell⟩
 ·exact wpAny_Name (wpAny_loadName_local I.ok.kind hk hn hm fin) hd
 ·rcases hk with hk | hk
  ·exact wpAny_Name (wpAny_loadName_cell I.ok.kind hk hc hcell fin) hd
  ·exact wpAny_Name (wpAny_loadName_free I.ok.kind hk hc hcell fin hcd) hd
theorem ZcZ {i j pos} : PE X (.Constant (.int i) j pos) (tC (.int i)) := fun _ _ _ H _ I h => wpAny_Constant_int ⟨.int i, H, I.tok _, ⟨_, rfl⟩, h⟩
theorem Zii {b j pos} : PE X (.Constant (.bool b) j pos) (tC (.bl b)) := fun _ _ _ H _ I h => Constant_bool ⟨.bl b, H, I, rfl, h⟩
theorem ZnK {j pos} : PE X (.Constant .none j pos) (tC .non) := fun _ _ _ H _ I h => Constant_none ⟨.non, H, I, rfl, h⟩
theorem Zc0 {x j pos} : PE X (.Constant (.str x) j pos) (tC (.str x)) := fun _ _ _ H _ I h => Calls.Constant_str ⟨.str x, H, I.tok _, ⟨_, rfl⟩, h⟩
noncomputable def Gl (X : Cx) (x : Str) : Prop := X.env.kindOf x = some .globalImplicit
theorem Zij {E : Value -> Shared -> Prop} {pins : List (Addr × Obj)} {s : Shared} {σ : St} {H : Hp} {x : Str} {u : Value} {pos : Pos} {Q : Value -> Shared -> Prop} (I : Inv X pins σ H s) (hg : Gl X x) (hm : X.mg x = some u) (h : Q u s)
  (hd : autoParam ((x == ("__debug__" : Str)) = false) L2.Internal.auD._auto_1) : wpAny (model X.prog X.w) X.A (eval (.Name x pos) X.env) Q E s :=
 Calls.Name_function_global I.ok.kind hg (Calls.loadGlobal_global (by rw [I.ok.glob]; exact I.mod.glob.keeps I.bk) hm h) hd
theorem Zhg {E : Value -> Shared -> Prop} {pins : List (Addr × Obj)} {s : Shared} {σ : St} {H : Hp} {x : Str} {u : Value} {pos : Pos} {Q : Value -> Shared -> Prop} (I : Inv X pins σ H s) (hg : Gl X x) (hm : X.mg x = none) (hv : bootBuiltins x = some u) (h : Q u s)
  (hn : autoParam (x ≠ "__name__") L2.Internal.auD._auto_1) (hd : autoParam ((x == ("__debug__" : Str)) = false) L2.Internal.auD._auto_1) : wpAny (model X.prog X.w) X.A (eval (.Name x pos) X.env) Q E s := by
 obtain ⟨mb, h1, h2⟩ := I.mod.blt
 exact Calls.Name_function_global I.ok.kind hg (Calls.loadGlobal_builtin (by rw [I.ok.glob]; exact I.mod.glob.keeps I.bk) hm (by rw [I.ok.blt]; exact h1.keeps I.bk) ((h2 x hn).trans hv) h) hd
theorem ZjK {x : Str} {v : V} {u : Value} {pos : Pos} (hg : Gl X x) (hm : X.mg x = some u) (r : Zel v u) (hd : autoParam ((x == ("__debug__" : Str)) = false) L2.Internal.auD._auto_1) : PE X (.Name x pos) (tC v) :=
 fun _ _ _ H _ I h => Zij I hg hm ⟨v, H, I, r, h⟩ hd
theorem Zol {x : Str} {v : V} {u : Value} {pos : Pos} (hg : Gl X x) (hm : X.mg x = none) (hv : bootBuiltins x = some u) (r : Zel v u) (hn : autoParam (x ≠ "__name__") L2.Internal.auD._auto_1) (hd : autoParam ((x == ("__debug__" : Str)) = false) L2.Internal.auD._auto_1) : PE X (.Name x pos) (tC v) :=
 fun _ _ _ H _ I h => Zhg I hg hm hv ⟨v, H, I, r, h⟩ hn hd
variable {a b : Expr} {ta tb : TE} {pos : Pos}
noncomputable def PC (X : Cx) (op : CmpOp) (a b : Expr) (t : TE) : Prop :=
 ∀ (pins : List (Addr × Obj)) (s : Shared) (σ : St) (H : Hp) (Q : VK), Inv X pins σ H s -> t σ H Q ->
  wpAny (model X.prog X.w) X.A (eval a X.env) (fun v s₁ => wpAny (model X.prog X.w) X.A (eval b X.env) (fun u s₂ => wpAny (model X.prog X.w) X.A (compareOp op v u) (EP X pins σ Q) X.xe s₂) X.xe s₁) X.xe s
noncomputable def tB (t : TE) : TT := fun σ H Q => t σ H fun x H1 => ∃ c, x = .bl c /\ Q c H1
theorem Zpr {op : CmpOp} {t : TE} (h : PC X op a b t) (h1 : behindInMarks op b = false := by first | exact nobehind _ (by decide) (by decide) | rfl) : PT X (.Compare a [op] [b] pos) (tB t) := by
 intro pins s σ H Q I hw
 refine wpAny_isTrue_Compare1 (thn (h pins s σ H _ I hw) fun v s1 h1 => thn h1 fun u s2 h2 => thn h2 fun c s3 ⟨x, H1, I1, r1, q1⟩ => ?_) h1
 obtain ⟨d, rfl, q⟩ := q1
 cases r1
 exact wpAny_truthy_bool ⟨H1, I1, q⟩
theorem ZeB {e : Expr} {t : TE} (h : PE X e t) (he : autoParam (∀ whole, isTrue e X.env whole = (do let v <- whole; standAt e.pos; holding [v] (truthy v))) L2.Internal.auI._auto_1) : PT X e (tB t) := by
 intro pins s σ H Q I hw
 refine isTrue_plain (thn (h pins s σ H _ I hw) fun v s1 ⟨x, H1, I1, r1, q1⟩ => ?_) (he _)
 obtain ⟨d, rfl, q⟩ := q1
 cases r1
 exact wpAny_truthy_bool ⟨H1, I1, q⟩
variable {tA tB' : TT} {rest : List Expr}
noncomputable def ZrF (t u : TT) : TT := fun σ H Q => t σ H fun c H1 => if c = true then u σ H1 Q else Q false H1
noncomputable def tOr (t u : TT) : TT := fun σ H Q => t σ H fun c H1 => if c = true then Q true H1 else u σ H1 Q
noncomputable def tNot (t : TT) : TT := fun σ H Q => t σ H fun c H1 => Q (!c) H1
theorem ZjL (ha : PT X a tA) : PW X (.BoolOp .And [a] pos) tA := by
 intro wh pins s σ H Q I h
 refine isTrue_and (thn (ha pins s σ H Q I h) fun c s1 e => ?_)
 cases c with
 | true => exact isTrue_and_nil e
 | false => exact e
theorem ZgR (ha : PT X a tA) : PW X (.BoolOp .Or [a] pos) tA := by
 intro wh pins s σ H Q I h
 refine isTrue_or (thn (ha pins s σ H Q I h) fun c s1 e => ?_)
 cases c with
 | false => exact isTrue_or_nil e
 | true => exact e
theorem Zkp (ha : PT X a tA) (hb : PW X (.BoolOp .And (b :: rest) pos) tB') : PW X (.BoolOp .And (a :: b :: rest) pos) (ZrF tA tB') := by
 intro wh pins s σ H Q I h
 refine isTrue_and (thn (ha pins s σ H _ I h) fun c s1 ⟨H1, I1, q1⟩ => ?_)
 cases c with
 | true => exact hb wh pins s1 σ H1 Q I1 q1
 | false => exact ⟨H1, I1, q1⟩
theorem Zik (ha : PT X a tA) (hb : PW X (.BoolOp .Or (b :: rest) pos) tB') : PW X (.BoolOp .Or (a :: b :: rest) pos) (tOr tA tB') := by
 intro wh pins s σ H Q I h
 refine isTrue_or (thn (ha pins s σ H _ I h) fun c s1 ⟨H1, I1, q1⟩ => ?_)
 cases c with
 | true => exact ⟨H1, I1, q1⟩
 | false => exact hb wh pins s1 σ H1 Q I1 q1
theorem Zft (ha : PT X a tA) : PT X (.UnaryOp .Not a pos) (tNot tA) := by
 intro pins s σ H Q I h
 exact isTrue_not (ha pins s σ H (fun c H1 => Q (!c) H1) I h)
noncomputable def ZqR (ta tb : TE) : TE := fun σ H Q => ta σ H fun x H1 => ∃ c, x = .bl c /\ if c = true then tb σ H1 Q else Q (.bl false) H1
noncomputable def tOrV (ta tb : TE) : TE := fun σ H Q => ta σ H fun x H1 => ∃ c, x = .bl c /\ if c = true then Q (.bl true) H1 else tb σ H1 Q
noncomputable def ZqS (ta : TE) : TE := fun σ H Q => ta σ H fun x H1 => ∃ c, x = .bl c /\ Q (.bl (!c)) H1
theorem Zkq {op} {t : TE} (h : PE X a t) : PE X (.BoolOp op [a] pos) t := fun pins s σ H Q I hw => BoolOp_one (h pins s σ H Q I hw)
theorem Zkr (ha : PE X a ta) (hb : PE X (.BoolOp .And (b :: rest) pos) tb) : PE X (.BoolOp .And (a :: b :: rest) pos) (ZqR ta tb) := by
 intro pins s σ H Q I h
 refine BoolOp_and (thn (ha pins s σ H _ I h) fun v s1 ⟨x, H1, I1, r1, q1⟩ => ?_)
 obtain ⟨c, rfl, q1⟩ := q1
 cases r1
 refine wpAny_truthy_bool ?_
 cases c with
 | true => exact hb pins s1 σ H1 Q I1 q1
 | false => exact ⟨.bl false, H1, I1, rfl, q1⟩
theorem ZqT (ha : PE X a ta) (hb : PE X (.BoolOp .Or (b :: rest) pos) tb) : PE X (.BoolOp .Or (a :: b :: rest) pos) (tOrV ta tb) := by
 intro pins s σ H Q I h
 refine BoolOp_or (thn (ha pins s σ H _ I h) fun v s1 ⟨x, H1, I1, r1, q1⟩ => ?_)
 obtain ⟨c, rfl, q1⟩ := q1
 cases r1
 refine wpAny_truthy_bool ?_
 cases c with
 | false => exact hb pins s1 σ H1 Q I1 q1
 | true => exact ⟨.bl true, H1, I1, rfl, q1⟩
theorem Zps (ha : PE X a ta) : PE X (.UnaryOp .Not a pos) (ZqS ta) := by
 intro pins s σ H Q I h
 refine UnaryOp_ (thn (ha pins s σ H _ I h) fun v s1 ⟨x, H1, I1, r1, q1⟩ => ?_)
 obtain ⟨c, rfl, q1⟩ := q1
 cases r1
 exact not_of (wpAny_truthy_bool ⟨.bl (!c), H1, I1, rfl, q1⟩)
noncomputable def tIf (t : TT) (ta tb : TE) : TE := fun σ H Q => t σ H fun c H1 => if c = true then ta σ H1 Q else tb σ H1 Q
theorem ZmS {c : Expr} (hc : PT X c tA) (ha : PE X a ta) (hb : PE X b tb) : PE X (.IfExp c a b pos) (tIf tA ta tb) := by
 intro pins s σ H Q I h
 refine wpAny_IfExp (thn (hc pins s σ H _ I h) fun d s1 ⟨H1, I1, q1⟩ => ?_)
 cases d with
 | true => exact ha pins s1 σ H1 Q I1 q1
 | false => exact hb pins s1 σ H1 Q I1 q1
end
end L2.Internal
namespace L2.Internal
open PySem PySem.Spec PyProof.Rows
noncomputable def SqL (K : PySem.W.Frag) (H : Hp) (a : Addr) (xs : List V) : Prop :=
 Rd H a (.lst xs) \/
  ∃ (o : Obj) (its : Array Value) (n : Nat), K.lookup a = some o /\ o.cls = .type "list" /\ o.dict = none /\ o.data = .seq its n /\ its.size <= sizeLine /\ ZdT xs its.toList
noncomputable def SqT (K : PySem.W.Frag) (H : Hp) (a : Addr) (xs : List V) : Prop :=
 Rd H a (.tup xs) \/
  ∃ (o : Obj) (its : Array Value) (n : Nat), K.lookup a = some o /\ o.cls = .type "tuple" /\ o.data = .seq its n /\ its.size <= sizeLine /\ ZdT xs its.toList
noncomputable def absV : Value -> Option V
 | .none => some .non
 | .bool b => some (.bl b)
 | .int i _ => some (.int i)
 | .str x _ => some (.str x)
 | .bytes b _ => some (.byt b)
 | .float b _ => some (.flt b)
 | .ref a => some (.ref a)
 | .type n => some (.ty n)
 | _ => none
theorem Zel.abs {x : V} {u : Value} (r : Zel x u) : absV u = some x := by
 cases x with
 | non => cases r; rfl
 | bl _ => cases r; rfl
 | int _ => obtain ⟨t, rfl⟩ := r; rfl
 | str _ => obtain ⟨t, rfl⟩ := r; rfl
 | byt _ => obtain ⟨t, rfl⟩ := r; rfl
 | flt _ => obtain ⟨t, rfl⟩ := r; rfl
 | ref _ => cases r; rfl
 | ty _ => cases r; rfl
theorem Zel.inj {x y : V} {u : Value} (r : Zel x u) (q : Zel y u) : x = y := ZbM.inj (r.abs.symm.trans q.abs)
theorem ZdT.inj : ∀ {xs ys : List V} {us : List Value}, ZdT xs us -> ZdT ys us -> xs = ys
 | _, _, _, .nil, .nil => rfl
 | _, _, _, .cons r t, .cons r' t' => by rw [r.inj r', ZdT.inj t t']
section
variable {X : Cx} {pins : List (Addr × Obj)} {σ : St} {H : Hp} {s : Shared} {a : Addr} {xs ys : List V}
theorem SqL.of {K : PySem.W.Frag} (h : H a = some (.lst xs)) : SqL K H a xs := .inl (.inl h)
theorem SqT.of {K : PySem.W.Frag} (h : H a = some (.tup xs)) : SqT K H a xs := .inl (.inl h)
theorem Inv.list (I : Inv X pins σ H s) (h : SqL X.K H a xs) : ∃ its : List Value, ZdT xs its /\ PlainL s.heap a its.toArray /\ xs.length <= sizeLine := by
 rcases h with h | ⟨o, its, n, hk, hc, hd, hs, hz, r⟩
 ·obtain ⟨z, its, n, r, e⟩ := h.ok I.hok
  exact ⟨its, r, ⟨_, n, e, rfl, rfl, rfl⟩, z⟩
 ·refine ⟨its.toList, r, ⟨o, n, I.kIn a o hk, hc, hd, by simpa using hs⟩, ?_⟩
  have e := r.length
  simp only [ZcC] at e
  omega
theorem Inv.tuple (I : Inv X pins σ H s) (h : SqT X.K H a xs) : ∃ its : List Value, ZdT xs its /\ IsTup s.heap a its.toArray /\ xs.length <= sizeLine := by
 rcases h with h | ⟨o, its, n, hk, hc, hs, hz, r⟩
 ·obtain ⟨z, its, r, p⟩ := h.ok I.hok
  exact ⟨its, r, p.tup, z⟩
 ·refine ⟨its.toList, r, ⟨o, I.kIn a o hk, hc, n, by simpa using hs⟩, ?_⟩
  have e := r.length
  simp only [ZcC] at e
  omega
theorem Inv.list_inj (I : Inv X pins σ H s) (h : SqL X.K H a xs) (h' : SqL X.K H a ys) : xs = ys := by
 obtain ⟨its, r, ⟨o, n, e, _, _, d⟩, _⟩ := I.list h
 obtain ⟨its', r', ⟨o', n', e', _, _, d'⟩, _⟩ := I.list h'
 rw [e] at e'; cases e'
 rw [d] at d'
 injection d' with d1 _
 have : its = its' := by simpa using congrArg ZcD d1
 subst this
 exact r.inj r'
theorem Inv.tuple_inj (I : Inv X pins σ H s) (h : SqT X.K H a xs) (h' : SqT X.K H a ys) : xs = ys := by
 obtain ⟨its, r, ⟨o, e, _, n, d⟩, _⟩ := I.tuple h
 obtain ⟨its', r', ⟨o', e', _, n', d'⟩, _⟩ := I.tuple h'
 rw [e] at e'; cases e'
 rw [d] at d'
 injection d' with d1 _
 have : its = its' := by simpa using congrArg ZcD d1
 subst this
 exact r.inj r'
end
noncomputable abbrev Cx.wish (X : Cx) (E : Value -> Shared -> Prop) : Cx := { X with xe := E }
noncomputable abbrev Cx.nox (X : Cx) : Cx := X.wish fun _ _ => False
theorem Cx.Ok.wish {X : Cx} (ok : X.Ok) (E : Value -> Shared -> Prop) : (X.wish E).Ok :=
 ⟨ok.mod, ok.kind, ok.glob, ok.blt, ok.above, ok.inj, ok.has, ok.cab, ok.hd, ok.frames, ok.stk, ok.exf, ok.bs, ok.bsz, ok.noex, ok.exfs, ok.funs, ok.frf⟩
theorem Cx.Ok.unwish {X : Cx} {E : Value -> Shared -> Prop} (ok : (X.wish E).Ok) : X.Ok :=
 ⟨ok.mod, ok.kind, ok.glob, ok.blt, ok.above, ok.inj, ok.has, ok.cab, ok.hd, ok.frames, ok.stk, ok.exf, ok.bs, ok.bsz, ok.noex, ok.exfs, ok.funs, ok.frf⟩
section
variable {X : Cx} {pins : List (Addr × Obj)} {σ : St} {H : Hp} {s : Shared} {E : Value -> Shared -> Prop}
theorem Inv.wish (I : Inv X pins σ H s) (E : Value -> Shared -> Prop) : Inv (X.wish E) pins σ H s := ⟨I.ok.wish E, I.os, I.bare, I.base, I.loc, I.cell, I.free, I.freeC, I.pin, I.hok, I.len⟩
theorem Inv.unwish (I : Inv (X.wish E) pins σ H s) : Inv X pins σ H s := ⟨I.ok.unwish, I.os, I.bare, I.base, I.loc, I.cell, I.free, I.freeC, I.pin, I.hok, I.len⟩
theorem SP.unwish {D : Zih} {f : Flow} {s' : Shared} (h : SP (X.wish E) pins D f s') : SP X pins D f s' := by
 cases f with
 | next => obtain ⟨σ', H', I, q⟩ := h; exact ⟨σ', H', I.unwish, q⟩
 | brk => obtain ⟨σ', H', I, q⟩ := h; exact ⟨σ', H', I.unwish, q⟩
 | cont => obtain ⟨σ', H', I, q⟩ := h; exact ⟨σ', H', I.unwish, q⟩
 | ret u => obtain ⟨v, σ', H', I, r, q⟩ := h; exact ⟨v, σ', H', I.unwish, r, q⟩
theorem PSs.nox {st : List Stmt} {t : TS} (h : PSs X.nox st t) : PSs X st t := fun pins s σ H D I hw =>
 wpAny_mono (h pins s σ H D (I.wish _) hw) (fun _ _ q => q.unwish) fun _ _ z => False.elim z
end
section
variable {X : Cx} {st : Stmt} {rest : List Stmt} {t u : TS} {e : Expr} {te : TE} {pos : Pos}
noncomputable def ZhP : TS := fun D σ H => D.nx σ H
noncomputable def ZnL (t u : TS) : TS := fun D σ H => t { D with nx := u D } σ H
theorem Zc6 : PSs X [] ZhP := fun _ _ σ H _ I h => wpAny_execs_nil ⟨σ, H, I, h⟩
theorem ZcU (h1 : PS X st t) (h2 : PSs X rest u) : PSs X (st :: rest) (ZnL t u) := by
 intro pins s σ H D I h
 refine wpAny_execs_cons (thn (h1 pins s σ H { D with nx := u D } I h) fun f s1 q => ?_)
 cases f with
 | next =>
  obtain ⟨σ', H', I', q⟩ := q
  exact h2 pins s1 σ' H' D I' q
 | ret v => exact q
 | brk => exact q
 | cont => exact q
theorem ZcW (h1 : PS X st t) : PSs X [st] t := by
 intro pins s σ H D I h
 refine wpAny_execs_cons (thn (h1 pins s σ H D I h) fun f s1 q => ?_)
 cases f with
 | next => exact wpAny_execs_nil q
 | ret v => exact q
 | brk => exact q
 | cont => exact q
theorem Inv.quiet {pins : List (Addr × Obj)} {σ : St} {H : Hp} {s : Shared} (I : Inv X pins σ H s) : interactive X.env = false := by simp [interactive, I.ok.kind]
noncomputable def ZqU (te : TE) : TS := fun D σ H => te σ H fun _ H1 => D.nx σ H1
theorem Zdw (he : PE X e te) (hs : autoParam (swapsWith e none pos.line X.env = pure false) L2.Internal.auR._auto_1) : PS X (.Expr e pos) (ZqU te) := by
 intro pins s σ H D I h
 exact wpAny_Expr_any (thn (he pins s σ H _ I h) fun v s1 ⟨x, H1, I1, r1, q1⟩ => ⟨σ, H1, I1, q1⟩) I.quiet hs
noncomputable def tRet (te : TE) : TS := fun D σ H => te σ H D.rt
theorem Zc4 (he : PE X e te) : PS X (.Return (some e) pos) (tRet te) := by
 intro pins s σ H D I h
 exact wpAny_Return_some (thn (he pins s σ H _ I h) fun v s1 ⟨x, H1, I1, r1, q1⟩ => ⟨x, σ, H1, I1, r1, q1⟩)
noncomputable def ZnM (c : TT) (t u : TS) : TS := fun D σ H => c σ H fun b H1 => if b = true then t D σ H1 else u D σ H1
theorem ZdF {c : Expr} {a b : List Stmt} {tc : TT} (hc : PT X c tc) (ha : PSs X a t) (hb : PSs X b u) : PS X (.If c a b pos) (ZnM tc t u) := by
 intro pins s σ H D I h
 refine wpAny_If (thn (hc pins s σ H _ I h) fun d s1 ⟨H1, I1, q1⟩ => ?_)
 cases d with
 | true => exact ha pins s1 σ H1 D I1 q1
 | false => exact hb pins s1 σ H1 D I1 q1
noncomputable def Zpt : TS := fun _ _ _ => False
theorem ZlF {sts : List Stmt} : PSs X sts Zpt := fun _ _ _ _ _ _ h => h.elim
end
noncomputable abbrev TG := V -> St -> Hp -> (St -> Hp -> Prop) -> Prop
noncomputable abbrev TGs := List V -> St -> Hp -> (St -> Hp -> Prop) -> Prop
noncomputable def PG (X : Cx) (target : Expr) (t : TG) : Prop :=
 ∀ (pins : List (Addr × Obj)) (s : Shared) (σ : St) (H : Hp) (v : V) (u : Value) (Q : St -> Hp -> Prop), Inv X pins σ H s -> Zel v u -> t v σ H Q ->
  wpAny (model X.prog X.w) X.A (assign target X.env u) (fun _ s' => ∃ σ' H', Inv X pins σ' H' s' /\ Q σ' H') X.xe s
noncomputable def PGs (X : Cx) (ts : List Expr) (t : TGs) : Prop :=
 ∀ (pins : List (Addr × Obj)) (s : Shared) (σ : St) (H : Hp) (vs : List V) (us : List Value) (Q : St -> Hp -> Prop), Inv X pins σ H s -> ZdT vs us -> t vs σ H Q ->
  wpAny (model X.prog X.w) X.A (assignInOrder ((assignEach ts X.env).map (·.2)) us) (fun _ s' => ∃ σ' H', Inv X pins σ' H' s' /\ Q σ' H') X.xe s
noncomputable abbrev ZqV := V -> V -> V -> Hp -> (Hp -> Prop) -> Prop
noncomputable def ZrG (X : Cx) (t : ZqV) : Prop :=
 ∀ (pins : List (Addr × Obj)) (s : Shared) (σ : St) (H : Hp) (o i v : V) (ov iv u : Value) (Q : Hp -> Prop), Inv X pins σ H s -> Zel o ov -> Zel i iv -> Zel v u -> t o i v H Q ->
  wpAny (model X.prog X.w) X.A (setItem ov iv u) (fun _ s' => ∃ H', Inv X pins σ H' s' /\ Q H') X.xe s
section
variable {X : Cx} {pos : Pos}
noncomputable def Zeb (i : Nat) : TG := fun v σ H Q => Q (σ.set i (some v)) H
theorem ZeW {i : Nat} {x : Str} (hN : X.N.Nodup) (hi : X.N[i]? = some x) (hx : Loc X.env.scope x) (hf : autoParam (X.fn x = true \/ X.env.scope.names.lookup x = some .local) L2.Internal.auL._auto_1) : PG X (.Name x pos) (Zeb i) := by
 intro pins s σ H v u Q I r h
 exact wpAny_assign_Name (ZfS I hN hi hx r (fun s' I' => ⟨_, H, I', h⟩) hf)
noncomputable def gNil : TGs := fun vs σ H Q => vs = [] /\ Q σ H
noncomputable def ZqW (t : TG) (u : TGs) : TGs := fun vs σ H Q => ∃ v r, vs = v :: r /\ t v σ H fun σ' H' => u r σ' H' Q
theorem ZlG : PGs X [] gNil := by
 intro pins s σ H vs us Q I r h
 obtain ⟨e, h⟩ := h
 subst e
 cases r
 exact assignInOrder_nil ⟨σ, H, I, h⟩
theorem Zg4 {e : Expr} {es : List Expr} {t : TG} {u : TGs} (h1 : PG X e t) (h2 : PGs X es u)
  (hs : autoParam ((assignEach (e :: es) X.env).map (·.2) = assign e X.env :: (assignEach es X.env).map (·.2)) L2.Internal.auR._auto_1) : PGs X (e :: es) (ZqW t u) := by
 intro pins s σ H vs us Q I r h
 obtain ⟨v, vr, e1, h⟩ := h
 subst e1
 cases r with
 | cons r rr =>
  rw [hs]
  refine assignInOrder_cons (thn (h1 pins s σ H _ _ _ I r h) fun _ s1 ⟨σ1, H1, I1, q1⟩ => ?_)
  exact h2 pins s1 σ1 H1 _ _ Q I1 rr q1
noncomputable def gTup (K : PySem.W.Frag) (n : Nat) (t : TGs) : TG := fun v σ H Q => ∃ a xs, v = .ref a /\ SqT K H a xs /\ xs.length = n /\ t xs σ H Q
theorem Zpu {es : List Expr} {k : Nat} {t : TGs} {n : Nat} (hc : X.calm = true) (h : PGs X es t)
  (hn : autoParam ((assignEach es X.env).length = n) L2.Internal.auR._auto_1) (hst : autoParam ((assignEach es X.env).findIdx? (·.1) = none) L2.Internal.auR._auto_1) : PG X (.Tuple es k pos) (gTup X.K n t) := by
 intro pins s σ H v u Q I r hw
 obtain ⟨a, xs, e1, hq, hl, hw⟩ := hw
 subst e1
 cases r
 obtain ⟨its, rv, ht, hz⟩ := I.tuple hq
 refine assign_Tuple_tuple (I.ok.hd hc) ht (by simp [hn, <- hl, rv.length]) hst fun h' hx => ?_
 have I1 : Inv X pins σ H { s with heap := h' } := I.kept (t' := s.toks) fun b o e => hx b o (Zbv (ZcK e)) e
 exact h pins _ σ H xs _ Q I1 (by simpa using rv) hw
noncomputable def gSub (to ti : TE) (t : ZqV) : TG := fun v σ H Q => to σ H fun o H1 => ti σ H1 fun i H2 => t o i v H2 fun H3 => Q σ H3
theorem Zks {o i : Expr} {to ti : TE} {t : ZqV} (ho : PE X o to) (hi : PE X i ti) (hs : ZrG X t)
  (ha : ∀ v, assign (.Subscript o i pos) X.env v = (do
   let ov <- holding [v] (eval o X.env)
   let iv <- holding [v, ov] (eval i X.env)
   standAt pos
   holding [v, ov, iv] (setItem ov iv v)
   release [v, ov, iv] []) := by intro _; rfl) : PG X (.Subscript o i pos) (gSub to ti t) := by
 intro pins s σ H v u Q I r h
 rw [ha]
 refine wpAny_bind (wpAny_holding (thn (ho pins s σ H _ I h) fun ov s1 ⟨x, H1, I1, r1, q1⟩ => ?_))
 refine wpAny_bind (wpAny_holding (thn (hi pins s1 σ H1 _ I1 q1) fun iv s2 ⟨y, H2, I2, r2, q2⟩ => ?_))
 refine wpAny_bind (wpAny_standAt (wpAny_bind (wpAny_holding (thn (hs pins s2 σ H2 x y v ov iv u _ I2 r1 r2 r q2) fun _ s3 ⟨H3, I3, q3⟩ => ?_))))
 exact wpAny_release ⟨σ, H3, I3, q3⟩
noncomputable def Zpv (te : TE) (g : TG) : TS := fun D σ H => te σ H fun x H1 => g x σ H1 D.nx
theorem Zkt {tg e : Expr} {te : TE} {g : TG} (he : PE X e te) (hg : PG X tg g) (hs : autoParam (swapsWithSole [tg] e pos.line X.env = pure false) L2.Internal.auR._auto_1) (hw : autoParam (swappedStores [tg] e X.env = pure none) L2.Internal.auR._auto_1)
  (h1 : autoParam ((assignEach [tg] X.env).map (·.2) = [assign tg X.env]) L2.Internal.auR._auto_1) : PS X (.Assign [tg] e pos) (Zpv te g) := by
 intro pins s σ H D I h
 refine wpAny_Assign_stores (thn (he pins s σ H _ I h) fun v s1 ⟨x, H1, I1, r1, q1⟩ => ?_) hs hw
 rw [h1]
 exact thn (hg pins s1 σ H1 x v _ I1 r1 q1) fun _ s2 q => q
theorem Zc9 {i : Nat} {x : Str} {e : Expr} {te : TE} {pos' : Pos} (hN : X.N.Nodup) (hi : X.N[i]? = some x) (hx : Loc X.env.scope x) (he : PE X e te) (hs : autoParam (swapsWith e (some (.Name x pos')) pos.line X.env = pure false) L2.Internal.auR._auto_1) (hf : autoParam (X.fn x = true \/ X.env.scope.names.lookup x = some .local) L2.Internal.auL._auto_1) :
  PS X (.Assign [.Name x pos'] e pos) (Zpv te (Zeb i)) := by
 intro pins s σ H D I h
 refine wpAny_Assign_Name (thn (he pins s σ H _ I h) fun v s1 ⟨y, H1, I1, r1, q1⟩ => ?_) hs
 exact ZfS I1 hN hi hx r1 (fun s2 I2 => ⟨_, H1, I2, q1⟩) hf
end
section
variable {X : Cx} {pos : Pos}
noncomputable def Zpw (c : TT) (tb : TS) : TS := fun D σ H => ∃ W : Nat -> St -> Hp -> Prop, (∃ m, W m σ H) /\ ∀ m σ H, W m σ H ->
 c σ H fun b H1 => if b = true then ∃ N : St -> Hp -> Prop, (∀ σ' H', N σ' H' -> ∃ m', m' < m /\ W m' σ' H') /\ tb { D with nx := N, ct := N, bk := D.nx } σ H1 else D.nx σ H1
theorem Zg5 {c : Expr} {body : List Stmt} {tc : TT} {tb : TS} (hp : PassesOwn (model X.prog X.w) X.A X.env X.xe) (hc : PT X c tc) (hb : PSs X body tb) : PS X (.While c body [] pos) (Zpw tc tb) := by
 intro pins s σ H D I h
 obtain ⟨W, ⟨m0, w0⟩, turn⟩ := h
 refine wpAny_While (codeAny_whileLoop (fun n s' => ∃ σ' H', Inv X pins σ' H' s' /\ W n σ' H') ?_ m0 ⟨σ, H, I, w0⟩)
 rintro n s1 ⟨σ1, H1, I1, w1⟩
 refine wpAny_passesOwn hp (thn (hc pins s1 σ1 H1 _ I1 (turn n σ1 H1 w1)) fun b s2 ⟨H2, I2, q2⟩ => ?_)
 cases b with
 | true =>
  obtain ⟨N, hN, q2⟩ := q2
  rw [if_pos rfl]
  refine wpAny_passesOwn hp (thn (hb pins s2 σ1 H2 _ I2 q2) fun f s3 q3 => ?_)
  cases f with
  | next =>
   obtain ⟨σ3, H3, I3, n3⟩ := q3
   obtain ⟨m', hm, w3⟩ := hN σ3 H3 n3
   exact ⟨m', hm, σ3, H3, I3, w3⟩
  | cont =>
   obtain ⟨σ3, H3, I3, n3⟩ := q3
   obtain ⟨m', hm, w3⟩ := hN σ3 H3 n3
   exact ⟨m', hm, σ3, H3, I3, w3⟩
  | brk => exact q3
  | ret v => exact q3
 | false =>
  rw [if_neg Zcw]
  exact wpAny_execs_nil ⟨σ1, H2, I2, q2⟩
end
structure It where
 go : Nat -> Hp -> Prop
 yld : Nat -> Hp -> V -> Hp -> Prop
 stop : Nat -> Hp -> Prop
noncomputable def Zku (X : Cx) (pins : List (Addr × Obj)) (H : Hp) (b : Addr) : Prop :=
 H b = none /\ b ≠ X.env.locals /\ b ∉ X.fs /\ (b ∈ X.ex \/ X.s₀.heap.objs.size <= b) /\ (∀ x c, X.env.cells.lookup x = some c -> c ≠ b) /\ ∀ p ∈ X.pn ++ pins, p.1 ≠ b
theorem Inv.fpOk {X : Cx} {pins : List (Addr × Obj)} {σ : St} {H H' : Hp} {s : Shared} {b : Addr} (I : Inv X pins σ H s) (hb : s.heap.objs.size <= b) (hn : H' b = none) : Zku X pins H' b := by
 refine ⟨hn, Zby (Zbt I.lt hb), I.nofs hb, .inr (Zbw I.sz hb), fun x c e z => ?_, fun p hp z => ?_⟩
 ·obtain ⟨v, q⟩ := I.cell x c e
  exact absurd (Zbt q.lt (by rw [z]; exact hb)) (Zbu _)
 ·exact absurd (Zbt (ZcK (I.pin p hp).1) (by rw [z]; exact hb)) (Zbu _)
structure Zom (P : Program) (w : World) (K : PySem.W.Frag) (tg : Expr) (J : It) (fp : List Addr) (it : Addr) (tn : Nat -> Heap -> Prop) : Prop where
 mem : it ∈ fp
 obj : ∀ i h, tn i h -> ∀ b ∈ fp, ∃ o, h.get? b = some o /\ ∀ v, o.data ≠ .cell v
 keep : ∀ i h h', tn i h -> (∀ b ∈ fp, ∀ o, h.get? b = some o -> h'.get? b = some o) -> tn i h'
 item : ∀ (X : Cx), X.prog = P -> X.w = w -> X.K = K -> X.calm = true -> ∀ (i : Nat) (pins : List (Addr × Obj)) (s : Shared) (σ : St) (H : Hp) (E : Value -> Shared -> Prop), Inv X pins σ H s -> (∀ b ∈ fp, Zku X pins H b) -> tn i s.heap -> J.go i H ->
  wpAny (model P w) X.A (pyNext (.ref it)) (fun r s1 => ∃ u, r = some u /\
   wpAny (model P w) X.A (letOwnedTupleGo tg (.ref it) u) (fun _ s2 => ∃ x H', Inv X pins σ H' s2 /\ Zel x u /\ J.yld i H x H' /\ tn (i + 1) s2.heap /\ ∀ b ∈ fp, H' b = none) E s1) E s
 done : ∀ (X : Cx), X.prog = P -> X.w = w -> X.K = K -> X.calm = true -> ∀ (i : Nat) (pins : List (Addr × Obj)) (s : Shared) (σ : St) (H : Hp) (E : Value -> Shared -> Prop), Inv X pins σ H s -> (∀ b ∈ fp, Zku X pins H b) -> tn i s.heap -> J.stop i H ->
  wpAny (model P w) X.A (pyNext (.ref it)) (fun r s1 => r = none /\ Inv X pins σ H s1) E s
 self : ∀ (A : Around) (i : Nat) (s : Shared) (Q : Value -> Shared -> Prop) (E : Value -> Shared -> Prop), tn i s.heap -> Q (.ref it) s -> wpAny (model P w) A (pyIter (.ref it)) Q E s
noncomputable abbrev TI := St -> Hp -> (It -> Hp -> Prop) -> Prop
noncomputable def PIE (X : Cx) (pins : List (Addr × Obj)) (σ : St) (tg : Expr) (R : It -> Hp -> Prop) (itv : Value) (s2 : Shared) : Prop :=
 ∃ (it : Addr) (fp : List Addr) (tn : Nat -> Heap -> Prop) (J : It) (H' : Hp), itv = .ref it /\ Inv X pins σ H' s2 /\ Zom X.prog X.w X.K tg J fp it tn /\ tn 0 s2.heap /\ (∀ b ∈ fp, Zku X pins H' b) /\ R J H'
noncomputable def PI (X : Cx) (tg iter : Expr) (wi : TI) : Prop :=
 ∀ (pins : List (Addr × Obj)) (s : Shared) (σ : St) (H : Hp) (R : It -> Hp -> Prop), Inv X pins σ H s -> wi σ H R ->
  wpAny (model X.prog X.w) X.A (eval iter X.env) (fun v s1 => wpAny (model X.prog X.w) X.A (pyIter v) (PIE X pins σ tg R) X.xe s1) X.xe s
theorem ZlH {M : Model} {A : Around} {E : Value -> Shared -> Prop} {s : Shared} {tg : Expr} {it : Addr} {u : Value} {o : Obj} {n : String} {vs : Array Value} {Q : Unit -> Shared -> Prop} (ho : s.heap.get? it = some o) (hc : o.cls = .type n) (hd : o.data = .fields vs)
  (hn : ["enumerate", "zip", "dict_itemiterator", "dict_reverseitemiterator", "odict_iterator", "itertools.zip_longest", "itertools.pairwise"].contains n = false) (hQ : Q () s) : wpAny M A (letOwnedTupleGo tg (.ref it) u) Q E s := by
 unfold letOwnedTupleGo
 cases tg <;> first
  | exact wpAny_pure hQ
  | (cases u <;> first
    | exact wpAny_pure hQ
    | (refine wpAny_bind (wpAny_load ho ?_)
       rw [hc, hd]
       show wpAny M A (if (["enumerate", "zip", "dict_itemiterator", "dict_reverseitemiterator", "odict_iterator", "itertools.zip_longest", "itertools.pairwise"].contains n && vs[0]? == some (rawInt _)) = true then _ else _) Q E s
       rw [if_neg (by intro h; rw [hn, Bool.false_and] at h; cases h)]
       exact wpAny_pure hQ))
noncomputable def Itl (K : PySem.W.Frag) (a : Addr) : It :=
 ⟨fun i H => ∃ xs x, SqL K H a xs /\ xs[i]? = some x, fun i H x H' => H' = H /\ ∀ xs, SqL K H a xs -> xs[i]? = some x, fun i H => ∃ xs, SqL K H a xs /\ xs.length <= i⟩
noncomputable def Itt (K : PySem.W.Frag) (a : Addr) : It :=
 ⟨fun i H => ∃ xs x, SqT K H a xs /\ xs[i]? = some x, fun i H x H' => H' = H /\ ∀ xs, SqT K H a xs -> xs[i]? = some x, fun i H => ∃ xs, SqT K H a xs /\ xs.length <= i⟩
noncomputable def Itr (lo : Int) (n : Nat) : It := ⟨fun i _ => i < n, fun i H x H' => H' = H /\ x = .int (lo + i), fun i _ => n <= i⟩
theorem ZlI {P : Program} {w : World} {K : PySem.W.Frag} {tg : Expr} (a it : Addr) : Zom P w K tg (Itl K a) [it] it (fun i h => h.IsListIter it a i) where
 mem := by simp
 obj := fun i h st b hb => by
  have e : b = it := by simpa using hb
  subst e
  obtain ⟨o, e, c, d⟩ := st
  exact ⟨o, e, fun v z => by rw [d] at z; cases z⟩
 keep := fun i h h' st k => st.at fun o e => k it (by simp) o e
 item := by
  intro X hP hw hK hc i pins s σ H E I hf st hg
  subst hP hw hK
  obtain ⟨xs, x, hq, hx⟩ := hg
  obtain ⟨its, rv, p, hz⟩ := I.list hq
  obtain ⟨u, hu, ru⟩ := rv.get hx
  obtain ⟨f0, f1, f2, f3, f4, f5⟩ := hf it (by simp)
  refine wpAny_pyNext_list_item st p.isList (x := u) (by simpa using hu) fun h' st' sb => ?_
  have I1 : Inv X pins σ H { s with heap := h' } := I.turned (t' := s.toks) (fun b o hb e => (sb.2 b hb).trans e) f0 f1 f3 f4 f5
  obtain ⟨o, e, c, d⟩ := id st'
  exact ⟨u, rfl, ZlH (s := { s with heap := h' }) e c d (by decide) ⟨x, H, I1, ru, ⟨rfl, fun ys hy => by rw [I.list_inj hy hq]; exact hx⟩, st', fun b hb => (hf b hb).1⟩⟩
 done := by
  intro X hP hw hK hc i pins s σ H E I hf st hg
  subst hP hw hK
  obtain ⟨xs, hq, hx⟩ := hg
  obtain ⟨its, rv, p, hz⟩ := I.list hq
  obtain ⟨f0, f1, f2, f3, f4, f5⟩ := hf it (by simp)
  have hl := rv.length
  exact wpAny_pyNext_list_end (I.ok.hd hc) st p.isList (by simp; omega) fun h' eb => ⟨rfl, I.turned (t' := s.toks) (fun b o hb e => eb b o hb e) f0 f1 f3 f4 f5⟩
 self := fun _ _ _ _ _ st h => wpAny_pyIter_listiter st h
theorem Zk7 {P : Program} {w : World} {K : PySem.W.Frag} {tg : Expr} (a it : Addr) : Zom P w K tg (Itt K a) [it] it (fun i h => h.IsTupleIter it a i) where
 mem := by simp
 obj := fun i h st b hb => by
  have e : b = it := by simpa using hb
  subst e
  obtain ⟨o, e, c, d⟩ := st
  exact ⟨o, e, fun v z => by rw [d] at z; cases z⟩
 keep := fun i h h' st k => st.at fun o e => k it (by simp) o e
 item := by
  intro X hP hw hK hc i pins s σ H E I hf st hg
  subst hP hw hK
  obtain ⟨xs, x, hq, hx⟩ := hg
  obtain ⟨its, rv, p, hz⟩ := I.tuple hq
  obtain ⟨u, hu, ru⟩ := rv.get hx
  obtain ⟨f0, f1, f2, f3, f4, f5⟩ := hf it (by simp)
  refine wpAny_pyNext_tuple_item st (show s.heap.IsTuple a its.toArray from p) (x := u) (by simpa using hu) fun h' st' sb => ?_
  have I1 : Inv X pins σ H { s with heap := h' } := I.turned (t' := s.toks) (fun b o hb e => (sb.2 b hb).trans e) f0 f1 f3 f4 f5
  obtain ⟨o, e, c, d⟩ := id st'
  exact ⟨u, rfl, ZlH (s := { s with heap := h' }) e c d (by decide) ⟨x, H, I1, ru, ⟨rfl, fun ys hy => by rw [I.tuple_inj hy hq]; exact hx⟩, st', fun b hb => (hf b hb).1⟩⟩
 done := by
  intro X hP hw hK hc i pins s σ H E I hf st hg
  subst hP hw hK
  obtain ⟨xs, hq, hx⟩ := hg
  obtain ⟨its, rv, p, hz⟩ := I.tuple hq
  obtain ⟨f0, f1, f2, f3, f4, f5⟩ := hf it (by simp)
  have hl := rv.length
  exact wpAny_pyNext_tuple_end (I.ok.hd hc) st (show s.heap.IsTuple a its.toArray from p) (by simp; omega) fun h' eb => ⟨rfl, I.turned (t' := s.toks) (fun b o hb e => eb b o hb e) f0 f1 f3 f4 f5⟩
 self := fun _ _ _ _ _ st h => wpAny_pyIter_tupleiter st h
theorem Zk8 {P : Program} {w : World} {K : PySem.W.Frag} {tg : Expr} (it : Addr) (lo : Int) (n : Nat) : Zom P w K tg (Itr lo n) [it] it (fun i h => IsRangeIter h it (lo + (i : Nat) * 1) ((n : Int) - (i : Nat)) 1) where
 mem := by simp
 obj := fun i h st b hb => by
  have e : b = it := by simpa using hb
  subst e
  exact ⟨_, st, fun v z => by
   have z' : Data.fields _ = Data.cell v := z
   cases z'⟩
 keep := fun i h h' st k => k it (by simp) _ st
 item := by
  intro X hP hw hK hc i pins s σ H E I hf st hg
  subst hP hw hK
  obtain ⟨f0, f1, f2, f3, f4, f5⟩ := hf it (by simp)
  have W := Walks.range (prog := X.prog) (w := X.w) (I.ok.hd hc) it lo 1 n
  refine W.item i s _ _ hg st fun v h' tk hv st' kk => ?_
  obtain ⟨t, rfl⟩ := hv
  have I1 : Inv X pins σ H { s with heap := h', toks := tk } := I.turned (fun b o hb e => kk b o (by simpa using hb) e) f0 f1 f3 f4 f5
  refine ⟨_, rfl, ZlH (s := { s with heap := h', toks := tk }) (n := "range_iterator") st' rfl rfl (by decide) ⟨.int (lo + i), H, I1, ⟨t, ?_⟩, ⟨rfl, rfl⟩, st', fun b hb => (hf b hb).1⟩⟩
  rw [Int.mul_one]
 done := by
  intro X hP hw hK hc i pins s σ H E I hf st hg
  subst hP hw hK
  obtain ⟨f0, f1, f2, f3, f4, f5⟩ := hf it (by simp)
  exact wpAny_pyNext_range_end (I.ok.hd hc) st (by have : n <= i := hg; omega) fun h' eb => ⟨rfl, I.turned (t' := s.toks) (fun b o hb e => eb b o hb e) f0 f1 f3 f4 f5⟩
 self := fun _ _ _ _ _ st h => wpAny_pyIter_rangeiter st h
end L2.Internal
namespace L2.Internal
open PySem PySem.Spec PyProof.Rows
section
variable {X : Cx} {tg : Expr}
noncomputable def ZqX (K : PySem.W.Frag) (tl : TE) : TI := fun σ H R => tl σ H fun x H1 => ∃ a, x = .ref a /\ (∃ xs, SqL K H1 a xs) /\ R (Itl K a) H1
noncomputable def iTup (K : PySem.W.Frag) (tl : TE) : TI := fun σ H R => tl σ H fun x H1 => ∃ a, x = .ref a /\ (∃ xs, SqT K H1 a xs) /\ R (Itt K a) H1
theorem Ze4 {l : Expr} {tl : TE} (hl : PE X l tl) : PI X tg l (ZqX X.K tl) := by
 intro pins s σ H R I h
 refine thn (hl pins s σ H _ I h) fun v s1 ⟨x, H1, I1, r1, q1⟩ => ?_
 obtain ⟨a, e, ⟨xs, hq⟩, q⟩ := q1
 subst e
 cases r1
 obtain ⟨its, rv, p, hz⟩ := I1.list hq
 refine wpAny_pyIter_list p.isList ?_
 refine ⟨s1.heap.objs.size, [s1.heap.objs.size], _, _, H1, rfl, I1.kept (t' := s1.toks) fun b o e => ZcM _ e, ZlI a _, ⟨_, ZcL _ rfl, rfl, rfl⟩, fun b hb => ?_, q⟩
 have e : b = s1.heap.objs.size := by simpa using hb
 subst e
 exact I1.fpOk (Zbz _) (I1.hok.fresh (Zbz _))
theorem Zkv {l : Expr} {tl : TE} (hl : PE X l tl) : PI X tg l (iTup X.K tl) := by
 intro pins s σ H R I h
 refine thn (hl pins s σ H _ I h) fun v s1 ⟨x, H1, I1, r1, q1⟩ => ?_
 obtain ⟨a, e, ⟨xs, hq⟩, q⟩ := q1
 subst e
 cases r1
 obtain ⟨its, rv, p, hz⟩ := I1.tuple hq
 refine wpAny_pyIter_tuple (show s1.heap.IsTuple a its.toArray from p) ?_
 refine ⟨s1.heap.objs.size, [s1.heap.objs.size], _, _, H1, rfl, I1.kept (t' := s1.toks) fun b o e => ZcM _ e, Zk7 a _, ⟨_, ZcL _ rfl, rfl, rfl⟩, fun b hb => ?_, q⟩
 have e : b = s1.heap.objs.size := by simpa using hb
 subst e
 exact I1.fpOk (Zbz _) (I1.hok.fresh (Zbz _))
theorem Zkw {pins : List (Addr × Obj)} {σ : St} {H : Hp} {s : Shared} {R : It -> Hp -> Prop} {E : Value -> Shared -> Prop} {lo hi : Int} {t u v : Tok} {tk : Nat} (I : Inv X pins σ H s) (h1 : -(2 ^ 62) <= lo) (h2 : lo < 2 ^ 62) (h3 : -(2 ^ 62) <= hi) (h4 : hi < 2 ^ 62)
  (q : R (Itr lo (hi - lo).toNat) H) : wpAny (model X.prog X.w) X.A (pyIter (.ref s.heap.objs.size)) (PIE X pins σ tg R) E { s with heap := s.heap.push { cls := .type "range", data := .fields #[.int lo t, .int hi u, .int 1 v] }, toks := tk } := by
 refine wpAny_pyIter_range (IsRange.new ..) (small_one h1 h2 h3 h4) ?_
 have I1 : Inv X pins σ H { s with heap := s.heap.push { cls := .type "range", data := .fields #[.int lo t, .int hi u, .int 1 v] }, toks := tk } := I.kept fun b o e => ZcM _ e
 refine ⟨(s.heap.push { cls := .type "range", data := .fields #[.int lo t, .int hi u, .int 1 v] }).objs.size, [(s.heap.push { cls := .type "range", data := .fields #[.int lo t, .int hi u, .int 1 v] }).objs.size], _, _, H, rfl,
  I1.kept (t' := tk) fun b o e => ZcM _ e, Zk8 _ lo (hi - lo).toNat, ?_, fun b hb => ?_, q⟩
 ·have e1 : lo + ((0 : Nat) : Int) * 1 = lo := by simp
  have e2 : (((hi - lo).toNat : Nat) : Int) - ((0 : Nat) : Int) = Builtin.Range.rangeSize lo hi 1 := by rw [rangeSize_one]; split <;> omega
  show IsRangeIter _ _ (lo + ((0 : Nat) : Int) * 1) ((((hi - lo).toNat : Nat) : Int) - ((0 : Nat) : Int)) 1
  rw [e1, e2]
  exact ZcL _ rfl
 ·have e : b = (s.heap.push { cls := .type "range", data := .fields #[.int lo t, .int hi u, .int 1 v] }).objs.size := by simpa using hb
  subst e
  exact I1.fpOk (Zbz _) (I1.hok.fresh (Zbz _))
noncomputable def ZqY (ta : TA) : TI := fun σ H R => ta σ H fun vs H1 => ∃ j : Int, vs = [.int j] /\ -(2 ^ 62) <= j /\ j < 2 ^ 62 /\ R (Itr 0 j.toNat) H1
noncomputable def ZqZ (ta : TA) : TI := fun σ H R => ta σ H fun vs H1 => ∃ i j : Int, vs = [.int i, .int j] /\ (-(2 ^ 62) <= i /\ i < 2 ^ 62 /\ -(2 ^ 62) <= j /\ j < 2 ^ 62) /\ R (Itr i (j - i).toNat) H1
theorem Zgi {a : Expr} {ta : TA} {p pos : Pos} (hg : Gl X "range") (hm : X.mg "range" = none) (ha : PA X [a] ta) (hs : autoParam (starEach [a] X.env = [(false, eval a X.env)]) L2.Internal.auR._auto_1) : PI X tg (.Call (.Name "range" p) [a] [] pos) (ZqY ta) := by
 intro pins s σ H R I h
 refine Call_ (Zhg I hg hm boot_range (ZcP (thn (ha pos pins s σ H _ I h) fun us s1 ⟨vs, H1, I1, r1, q1⟩ => ?_) hs rfl))
 obtain ⟨j, e, q1, q2, q⟩ := q1
 subst e
 cases r1 with
 | cons r rr =>
  cases rr
  obtain ⟨t, rfl⟩ := r
  exact call_range_1 (Zkw I1 (by omega) (by omega) q1 q2 (by simpa using q))
theorem ZlJ {a b : Expr} {ta : TA} {p pos : Pos} (hg : Gl X "range") (hm : X.mg "range" = none) (ha : PA X [a, b] ta) (hs : autoParam (starEach [a, b] X.env = [(false, eval a X.env), (false, eval b X.env)]) L2.Internal.auR._auto_1) (hs2 : autoParam (starEach [b] X.env = [(false, eval b X.env)]) L2.Internal.auR._auto_1) :
  PI X tg (.Call (.Name "range" p) [a, b] [] pos) (ZqZ ta) := by
 intro pins s σ H R I h
 refine Call_ (Zhg I hg hm boot_range (ZcP (thn (ha pos pins s σ H _ I h) fun us s1 ⟨vs, H1, I1, r1, q1⟩ => ?_) (by rw [hs, hs2]) (by rw [hs2]; rfl)))
 obtain ⟨i, j, e, ⟨q1, q2, q3, q4⟩, q⟩ := q1
 subst e
 cases r1 with
 | cons r rr =>
  cases rr with
  | cons r' rr =>
   cases rr
   obtain ⟨t, rfl⟩ := r
   obtain ⟨t', rfl⟩ := r'
   exact call_range_2 (Zkw I1 q1 q2 q3 q4 q)
noncomputable def tFor (wi : TI) (g : TG) (tb : TS) : TS := fun D σ H => wi σ H fun J H1 => ∃ W : Nat -> Nat -> St -> Hp -> Prop, (∃ m, W 0 m σ H1) /\ ∀ i m σ H, W i m σ H ->
 (J.stop i H /\ D.nx σ H) \/ (J.go i H /\ ∃ N : St -> Hp -> Prop, (∀ σ' H', N σ' H' -> ∃ m', m' < m /\ W (i + 1) m' σ' H') /\ ∀ x H', J.yld i H x H' -> g x σ H' fun σ2 H2 => tb { D with nx := N, ct := N, bk := D.nx } σ2 H2)
noncomputable def ZhY (fp : List Addr) (h : Heap) : List (Addr × Obj) := fp.filterMap fun b => (h.get? b).map fun o => (b, o)
theorem Ze2 {fp : List Addr} {h : Heap} {b : Addr} {o : Obj} (hb : b ∈ fp) (e : h.get? b = some o) : (b, o) ∈ ZhY fp h := Zal.mpr ⟨b, hb, by rw [e]; rfl⟩
theorem ZlK {fp : List Addr} {h : Heap} {p : Addr × Obj} (hp : p ∈ ZhY fp h) : p.1 ∈ fp /\ h.get? p.1 = some p.2 := by
 obtain ⟨b, hb, e⟩ := Zal.mp hp
 cases q : h.get? b with
 | none => rw [q] at e; cases e
 | some o =>
  rw [q] at e
  have e' : (b, o) = p := ZbM.inj e
  subst e'
  exact ⟨hb, q⟩
theorem Inv.pinned {pins : List (Addr × Obj)} {σ : St} {H : Hp} {s : Shared} {fp : List Addr} (I : Inv X pins σ H s) (hf : ∀ b ∈ fp, Zku X pins H b) (ho : ∀ b ∈ fp, ∃ o, s.heap.get? b = some o /\ ∀ v, o.data ≠ .cell v) : Inv X (pins ++ ZhY fp s.heap) σ H s :=
 I.pins_of fun p hp => (Zag.mp hp).elim (fun z => I.pin p (Zam _ z)) fun z => by
  obtain ⟨hb, e⟩ := ZlK z
  obtain ⟨f0, f1, f2, _⟩ := hf p.1 hb
  obtain ⟨o, e', d⟩ := ho p.1 hb
  rw [e] at e'; cases e'
  exact ⟨e, f0, f1, f2, d⟩
theorem Inv.unpinned {pins pl : List (Addr × Obj)} {σ : St} {H : Hp} {s : Shared} (I : Inv X (pins ++ pl) σ H s) : Inv X pins σ H s := I.pins_of fun p hp => I.pin p (Zam _ (Zah _ hp))
theorem ZfZ {iter : Expr} {body : List Stmt} {wi : TI} {g : TG} {tb : TS} {pos : Pos} (hp : PassesOwn (model X.prog X.w) X.A X.env X.xe) (hc : X.calm = true) (hi : PI X tg iter wi) (hg : PG X tg g) (hb : PSs X body tb)
  (hs : autoParam (∀ x, foldedSetIterable iter X.env x = pure x) L2.Internal.auI._auto_1) : PS X (.For tg iter body [] pos) (tFor wi g tb) := by
 intro pins s σ H D I h
 refine wpAny_For (thn (hi pins s σ H _ I h) fun v s1 h1 => thn h1 fun itv s2 h2 => ?_) hs
 obtain ⟨it, fp, tn, J, H2, e, I2, T, st2, f2, W, ⟨m0, w0⟩, turn⟩ := h2
 subst e
 have stat : ∀ {H' : Hp}, (∀ b ∈ fp, H' b = none) -> ∀ b ∈ fp, Zku X pins H' b := fun hn b hb => ⟨hn b hb, (f2 b hb).2⟩
 refine codeAny_forLoop_any (fun n s' => ∃ i σ' H', Inv X pins σ' H' s' /\ tn i s'.heap /\ (∀ b ∈ fp, H' b = none) /\ W i n σ' H') ?_ m0 ⟨0, σ, H2, I2, st2, fun b hb => (f2 b hb).1, w0⟩
 rintro n s3 ⟨i, σ3, H3, I3, st3, fr3, w3⟩
 rcases turn i n σ3 H3 w3 with ⟨stop, qn⟩ | ⟨go, N, hN, step⟩
 ·refine wpAny_passesOwn hp (thn (T.done X rfl rfl rfl hc i pins s3 σ3 H3 X.xe I3 (stat fr3) st3 stop) fun r s4 ⟨hr, I4⟩ => ?_)
  subst hr
  exact wpAny_execs_nil ⟨σ3, H3, I4, qn⟩
 ·refine wpAny_passesOwn hp (thn (T.item X rfl rfl rfl hc i pins s3 σ3 H3 X.xe I3 (stat fr3) st3 go) fun r s4 ⟨u, hr, h4⟩ => ?_)
  subst hr
  refine wpAny_passesOwn hp (thn h4 fun _ s5 ⟨x, H5, I5, r5, y5, st5, fr5⟩ => ?_)
  have I5' := I5.pinned (stat fr5) (T.obj _ _ st5)
  refine wpAny_passesOwn hp (thn (hg _ s5 σ3 H5 x u _ I5' r5 (step x H5 y5)) fun _ s6 ⟨σ6, H6, I6, q6⟩ => ?_)
  refine wpAny_passesOwn hp (thn (hb _ s6 σ6 H6 _ I6 q6) fun f s7 q7 => ?_)
  have again : ∀ {σ7 : St} {H7 : Hp}, Inv X (pins ++ ZhY fp s5.heap) σ7 H7 s7 -> N σ7 H7 -> ∃ m, m < n /\ ∃ i σ' H', Inv X pins σ' H' s7 /\ tn i s7.heap /\ (∀ b ∈ fp, H' b = none) /\ W i m σ' H' := fun {σ7 H7} I7 n7 => by
   obtain ⟨m', hm, w7⟩ := hN σ7 H7 n7
   refine ⟨m', hm, i + 1, σ7, H7, I7.unpinned, T.keep _ _ _ st5 fun b hb o e => (I7.pin (b, o) (Zam _ (Zam _ (Ze2 hb e)))).1, fun b hb => ?_, w7⟩
   obtain ⟨o, e, d⟩ := T.obj _ _ st5 b hb
   exact (I7.pin (b, o) (Zam _ (Zam _ (Ze2 hb e)))).2.1
  cases f with
  | next => obtain ⟨σ7, H7, I7, n7⟩ := q7; exact again I7 n7
  | cont => obtain ⟨σ7, H7, I7, n7⟩ := q7; exact again I7 n7
  | brk => obtain ⟨σ7, H7, I7, q7⟩ := q7; exact ⟨σ7, H7, I7.unpinned, q7⟩
  | ret v => obtain ⟨x7, σ7, H7, I7, r7, q7⟩ := q7; exact ⟨x7, σ7, H7, I7.unpinned, r7, q7⟩
end
theorem Zil {K : PySem.W.Frag} {a : Addr} {xs : List V} {g : TG} {tb : TS} {D : Zih} {σ : St} {H : Hp} (Pv : Nat -> St -> Hp -> Prop) (h0 : Pv 0 σ H) (hl : ∀ i σ H, i <= xs.length -> Pv i σ H -> SqL K H a xs)
  (hs : ∀ i x σ H, xs[i]? = some x -> Pv i σ H -> g x σ H fun σ2 H2 => tb { D with nx := Pv (i + 1), ct := Pv (i + 1), bk := D.nx } σ2 H2) (hd : ∀ σ H, Pv xs.length σ H -> D.nx σ H) :
  ∃ W : Nat -> Nat -> St -> Hp -> Prop, (∃ m, W 0 m σ H) /\ ∀ i m σ H, W i m σ H ->
   ((Itl K a).stop i H /\ D.nx σ H) \/ ((Itl K a).go i H /\ ∃ N : St -> Hp -> Prop, (∀ σ' H', N σ' H' -> ∃ m', m' < m /\ W (i + 1) m' σ' H') /\ ∀ x H', (Itl K a).yld i H x H' -> g x σ H' fun σ2 H2 => tb { D with nx := N, ct := N, bk := D.nx } σ2 H2) := by
 refine ⟨fun i m σ H => m = xs.length - i /\ i <= xs.length /\ Pv i σ H, ⟨xs.length, by simp, ZbA _, h0⟩, ?_⟩
 rintro i m σ H ⟨rfl, hi, p⟩
 have q := hl i σ H hi p
 by_cases hlt : i < xs.length
 ·refine .inr ⟨⟨xs, xs[i], q, by simp [hlt]⟩, Pv (i + 1), fun σ' H' p' => ⟨xs.length - (i + 1), by omega, rfl, hlt, p'⟩, fun x H' y => ?_⟩
  obtain ⟨e, y⟩ := y
  subst e
  exact hs i x σ _ (y xs q) p
 ·have e : i = xs.length := by omega
  subst e
  exact .inl ⟨⟨xs, q, Zbz _⟩, hd σ H p⟩
theorem ZlL {K : PySem.W.Frag} {a : Addr} {xs : List V} {g : TG} {tb : TS} {D : Zih} {σ : St} {H : Hp} (Pv : Nat -> St -> Hp -> Prop) (h0 : Pv 0 σ H) (hl : ∀ i σ H, i <= xs.length -> Pv i σ H -> SqT K H a xs)
  (hs : ∀ i x σ H, xs[i]? = some x -> Pv i σ H -> g x σ H fun σ2 H2 => tb { D with nx := Pv (i + 1), ct := Pv (i + 1), bk := D.nx } σ2 H2) (hd : ∀ σ H, Pv xs.length σ H -> D.nx σ H) :
  ∃ W : Nat -> Nat -> St -> Hp -> Prop, (∃ m, W 0 m σ H) /\ ∀ i m σ H, W i m σ H ->
   ((Itt K a).stop i H /\ D.nx σ H) \/ ((Itt K a).go i H /\ ∃ N : St -> Hp -> Prop, (∀ σ' H', N σ' H' -> ∃ m', m' < m /\ W (i + 1) m' σ' H') /\ ∀ x H', (Itt K a).yld i H x H' -> g x σ H' fun σ2 H2 => tb { D with nx := N, ct := N, bk := D.nx } σ2 H2) := by
 refine ⟨fun i m σ H => m = xs.length - i /\ i <= xs.length /\ Pv i σ H, ⟨xs.length, by simp, ZbA _, h0⟩, ?_⟩
 rintro i m σ H ⟨rfl, hi, p⟩
 have q := hl i σ H hi p
 by_cases hlt : i < xs.length
 ·refine .inr ⟨⟨xs, xs[i], q, by simp [hlt]⟩, Pv (i + 1), fun σ' H' p' => ⟨xs.length - (i + 1), by omega, rfl, hlt, p'⟩, fun x H' y => ?_⟩
  obtain ⟨e, y⟩ := y
  subst e
  exact hs i x σ _ (y xs q) p
 ·have e : i = xs.length := by omega
  subst e
  exact .inl ⟨⟨xs, q, Zbz _⟩, hd σ H p⟩
theorem ZiS {lo : Int} {n : Nat} {g : TG} {tb : TS} {D : Zih} {σ : St} {H : Hp} (Pv : Nat -> St -> Hp -> Prop) (h0 : Pv 0 σ H)
  (hs : ∀ i σ H, i < n -> Pv i σ H -> g (.int (lo + i)) σ H fun σ2 H2 => tb { D with nx := Pv (i + 1), ct := Pv (i + 1), bk := D.nx } σ2 H2) (hd : ∀ σ H, Pv n σ H -> D.nx σ H) :
  ∃ W : Nat -> Nat -> St -> Hp -> Prop, (∃ m, W 0 m σ H) /\ ∀ i m σ H, W i m σ H ->
   ((Itr lo n).stop i H /\ D.nx σ H) \/ ((Itr lo n).go i H /\ ∃ N : St -> Hp -> Prop, (∀ σ' H', N σ' H' -> ∃ m', m' < m /\ W (i + 1) m' σ' H') /\ ∀ x H', (Itr lo n).yld i H x H' -> g x σ H' fun σ2 H2 => tb { D with nx := N, ct := N, bk := D.nx } σ2 H2) := by
 refine ⟨fun i m σ H => m = n - i /\ i <= n /\ Pv i σ H, ⟨n, by simp, ZbA _, h0⟩, ?_⟩
 rintro i m σ H ⟨rfl, hi, p⟩
 by_cases hlt : i < n
 ·refine .inr ⟨hlt, Pv (i + 1), fun σ' H' p' => ⟨n - (i + 1), by omega, rfl, hlt, p'⟩, fun x H' y => ?_⟩
  obtain ⟨e, y⟩ := y
  subst e y
  exact hs i σ _ hlt p
 ·have e : i = n := by omega
  subst e
  exact .inl ⟨Zbz _, hd σ H p⟩
end L2.Internal
namespace L2.Internal
open PySem PySem.Spec PyProof.Rows
noncomputable abbrev R2 := V -> V -> Hp -> VK -> Prop
noncomputable def OpR (X : Cx) (f : Value -> Value -> Sem Value) (r : R2) : Prop :=
 ∀ (pins : List (Addr × Obj)) (s : Shared) (σ : St) (H : Hp) (x y : V) (v u : Value) (Q : VK), Inv X pins σ H s -> Zel x v -> Zel y u -> r x y H Q ->
  wpAny (model X.prog X.w) X.A (f v u) (EP X pins σ Q) X.xe s
noncomputable def UnR (X : Cx) (f : Value -> Sem Value) (r : V -> Hp -> VK -> Prop) : Prop :=
 ∀ (pins : List (Addr × Obj)) (s : Shared) (σ : St) (H : Hp) (x : V) (v : Value) (Q : VK), Inv X pins σ H s -> Zel x v -> r x H Q ->
  wpAny (model X.prog X.w) X.A (f v) (EP X pins σ Q) X.xe s
noncomputable def Zgj (X : Cx) (f : Value) (r : List V -> Hp -> VK -> Prop) : Prop :=
 ∀ (pins : List (Addr × Obj)) (s : Shared) (σ : St) (H : Hp) (xs : List V) (us : List Value) (Q : VK), Inv X pins σ H s -> ZdT xs us -> r xs H Q ->
  wpAny (model X.prog X.w) X.A (call f us) (EP X pins σ Q) X.xe s
noncomputable def tOp (r : R2) (ta tb : TE) : TE := fun σ H Q => ta σ H fun x H1 => tb σ H1 fun y H2 => r x y H2 Q
noncomputable def tUn (r : V -> Hp -> VK -> Prop) (ta : TE) : TE := fun σ H Q => ta σ H fun x H1 => r x H1 Q
noncomputable def rI (C : Int -> Int -> Prop) (g : Int -> Int -> V) : R2 := fun x y H Q => ∃ i j, x = .int i /\ y = .int j /\ C i j /\ Q (g i j) H
noncomputable def rI0 (g : Int -> Int -> V) : R2 := fun x y H Q => ∃ i j, x = .int i /\ y = .int j /\ Q (g i j) H
noncomputable def rU (g : Int -> V) : V -> Hp -> VK -> Prop := fun x H Q => ∃ i, x = .int i /\ Q (g i) H
section
variable {X : Cx} {a b c : Expr} {ta tb tc : TE} {pos : Pos}
theorem Zq0 (ha : PE X a ta) (hb : PE X b tb) {pins : List (Addr × Obj)} {s : Shared} {σ : St} {H : Hp} {R : V -> V -> Hp -> Prop} (I : Inv X pins σ H s)
  (h : ta σ H fun x H1 => tb σ H1 fun y H2 => R x y H2) {Q : Value -> Shared -> Prop} {f : Value -> Value -> Sem Value}
  (hf : ∀ v u s2 x y H2, Inv X pins σ H2 s2 -> Zel x v -> Zel y u -> R x y H2 -> wpAny (model X.prog X.w) X.A (f v u) Q X.xe s2) :
  wpAny (model X.prog X.w) X.A (eval a X.env) (fun v s₁ => wpAny (model X.prog X.w) X.A (eval b X.env) (fun u s₂ => wpAny (model X.prog X.w) X.A (f v u) Q X.xe s₂) X.xe s₁) X.xe s := by
 refine thn (ha pins s σ H _ I h) fun v s1 ⟨x, H1, I1, r1, q1⟩ => ?_
 refine thn (hb pins s1 σ H1 _ I1 q1) fun u s2 ⟨y, H2, I2, r2, q2⟩ => ?_
 exact hf v u s2 x y H2 I2 r1 r2 q2
theorem Zde {op : Operator} {r : R2} (ho : OpR X (binaryOp op) r) (ha : PE X a ta) (hb : PE X b tb) : PE X (.BinOp a op b pos) (tOp r ta tb) := by
 intro pins s σ H Q I h
 exact wpAny_BinOp (Zq0 ha hb I h fun v u s2 x y H2 I2 rx ry q => ho pins s2 σ H2 x y v u Q I2 rx ry q)
theorem Zk9 {op : UnaryOp} {r : V -> Hp -> VK -> Prop} (ho : UnR X (unaryOp op) r) (ha : PE X a ta) : PE X (.UnaryOp op a pos) (tUn r ta) := by
 intro pins s σ H Q I h
 exact UnaryOp_ (thn (ha pins s σ H _ I h) fun v s1 ⟨x, H1, I1, r1, q1⟩ => ho pins s1 σ H1 x v Q I1 r1 q1)
theorem opI {f : Value -> Value -> Sem Value} {C : Int -> Int -> Prop} {g : Int -> Int -> Int}
  (rule : ∀ (i j : Int) (t u : Tok) (s : Shared) (Q : Value -> Shared -> Prop) (E : Value -> Shared -> Prop), C i j -> Q (.int (g i j) s.toks) { s with toks := s.toks + 1 } -> wpAny (model X.prog X.w) X.A (f (.int i t) (.int j u)) Q E s) :
  OpR X f (rI C fun i j => .int (g i j)) := by
 intro pins s σ H x y v u Q I rx ry h
 obtain ⟨i, j, rfl, rfl, hc, q⟩ := h
 obtain ⟨t, rfl⟩ := rx
 obtain ⟨t', rfl⟩ := ry
 exact rule i j t t' s _ _ hc ⟨.int (g i j), H, I.tok _, ⟨_, rfl⟩, q⟩
theorem ZrH {f : Value -> Value -> Sem Value} {g : Int -> Int -> Int}
  (rule : ∀ (i j : Int) (t u : Tok) (s : Shared) (Q : Value -> Shared -> Prop) (E : Value -> Shared -> Prop), Q (.int (g i j) s.toks) { s with toks := s.toks + 1 } -> wpAny (model X.prog X.w) X.A (f (.int i t) (.int j u)) Q E s) :
  OpR X f (rI0 fun i j => .int (g i j)) := by
 intro pins s σ H x y v u Q I rx ry h
 obtain ⟨i, j, rfl, rfl, q⟩ := h
 obtain ⟨t, rfl⟩ := rx
 obtain ⟨t', rfl⟩ := ry
 exact rule i j t t' s _ _ ⟨.int (g i j), H, I.tok _, ⟨_, rfl⟩, q⟩
theorem Zq1 {f : Value -> Value -> Sem Value} {g : Int -> Int -> Bool}
  (rule : ∀ (i j : Int) (t u : Tok) (s : Shared) (Q : Value -> Shared -> Prop) (E : Value -> Shared -> Prop), Q (.bool (g i j)) s -> wpAny (model X.prog X.w) X.A (f (.int i t) (.int j u)) Q E s) :
  OpR X f (rI0 fun i j => .bl (g i j)) := by
 intro pins s σ H x y v u Q I rx ry h
 obtain ⟨i, j, rfl, rfl, q⟩ := h
 obtain ⟨t, rfl⟩ := rx
 obtain ⟨t', rfl⟩ := ry
 exact rule i j t t' s _ _ ⟨.bl (g i j), H, I, rfl, q⟩
noncomputable def ZrI (i j : Int) : Prop := 0 < j /\ j < 1073741824
noncomputable def ZqJ (i j : Int) : Prop := 0 <= j /\ j <= 1000000 /\ i.natAbs < 2 ^ 64
noncomputable def ZqK (i j : Int) : Prop := (-(2 ^ 64) < i /\ i < 2 ^ 64) \/ (-(2 ^ 64) < j /\ j < 2 ^ 64)
theorem ZqK.ok {i j : Int} (h : ZqK i j) : IntMulOk i j := by
 rcases h with ⟨h1, h2⟩ | ⟨h1, h2⟩
 ·exact .of_left (intBits_le_64 h1 h2)
 ·exact .of_right (intBits_le_64 h1 h2)
theorem ZnN : OpR X (binaryOp .Add) (rI0 fun i j => .int (i + j)) := ZrH fun _ _ _ _ _ _ _ q => add_int q
theorem Zpx : OpR X (binaryOp .Sub) (rI0 fun i j => .int (i - j)) := ZrH fun _ _ _ _ _ _ _ q => sub_int q
theorem Zpy : OpR X (binaryOp .Mult) (rI ZqK fun i j => .int (i * j)) := opI fun _ _ _ _ _ _ _ hc q => mul_int q hc.ok
theorem Zon : OpR X (binaryOp .FloorDiv) (rI ZrI fun i j => .int (i / j)) := opI fun i j _ _ _ _ _ hc q => by
 have h1 : (0 : Int) < j := hc.1
 have h2 : j < 1073741824 := hc.2
 exact floordiv_int (by omega) (by rw [Int.fdiv_eq_ediv_of_nonneg i (by omega)]; exact q) (.inl (PyProof.noPylong_small (by omega)))
theorem Zpz : OpR X (binaryOp .Mod) (rI (fun _ j => 0 < j) fun i j => .int (i % j)) := opI fun i j _ _ _ _ _ hc q => by
 have h1 : (0 : Int) < j := hc
 exact mod_int' (by omega) (by rw [Int.fmod_eq_emod_of_nonneg i (by omega)]; exact q)
theorem ZpA : OpR X (binaryOp .Pow) (rI ZqJ fun i j => .int (i ^ j.toNat)) := opI fun _ _ _ _ _ _ _ hc q => pow_int_small hc.1 hc.2.1 hc.2.2 q
theorem unI {f : Value -> Sem Value} {g : Int -> Int}
  (rule : ∀ (i : Int) (t : Tok) (s : Shared) (Q : Value -> Shared -> Prop) (E : Value -> Shared -> Prop), Q (.int (g i) s.toks) { s with toks := s.toks + 1 } -> wpAny (model X.prog X.w) X.A (f (.int i t)) Q E s) :
  UnR X f (rU fun i => .int (g i)) := by
 intro pins s σ H x v Q I rx h
 obtain ⟨i, rfl, q⟩ := h
 obtain ⟨t, rfl⟩ := rx
 exact rule i t s _ _ ⟨.int (g i), H, I.tok _, ⟨_, rfl⟩, q⟩
theorem ZhZ : UnR X (unaryOp .USub) (rU fun i => .int (-i)) := unI fun _ _ _ _ _ q => neg_int q
end
noncomputable def ZrJ : V -> V -> Bool
 | .non, .non => true | .non, .int _ => true | .int _, .non => true | .non, .bl _ => true | .bl _, .non => true | .non, .str _ => true | .str _, .non => true
 | .int _, .int _ => true | .bl _, .bl _ => true | .str _, .str _ => true | .byt _, .byt _ => true
 | .int _, .str _ => true | .str _, .int _ => true | .bl _, .str _ => true | .str _, .bl _ => true
 | _, _ => false
noncomputable def rEq : R2 := fun x y H Q => ZrJ x y = true /\ Q (.bl (decide (x = y))) H
noncomputable def rNe : R2 := fun x y H Q => ZrJ x y = true /\ Q (.bl (!decide (x = y))) H
theorem ZlM {i j : Int} : decide (V.int i = V.int j) = (i == j) := by
 rw [Zcx]
 simp
theorem ZnO {i j : Bool} : decide (V.bl i = V.bl j) = (i == j) := by
 rw [Zcx]
 simp
theorem ZlN {i j : Str} : decide (V.str i = V.str j) = (i == j) := by
 rw [Zcx]
 simp
theorem ZlO {i j : Array UInt8} : decide (V.byt i = V.byt j) = (i.toList == j.toList) := by
 rw [Zcx]
 cases i
 cases j
 simp
section
variable {X : Cx} {a b c : Expr} {ta tb tc : TE} {pos : Pos}
theorem ZdN {pins : List (Addr × Obj)} {σ : St} {H : Hp} {s : Shared} {Q : VK} {k k' : Bool} (I : Inv X pins σ H s) (q : Q (.bl k) H) (e : k = k') : EP X pins σ Q (.bool k') s := by
 subst e
 exact ⟨.bl k, H, I, rfl, q⟩
theorem Zim : OpR X (compareOp .Eq) rEq := by
 intro pins s σ H x y v u Q I rx ry h
 obtain ⟨hs, q⟩ := h
 cases x with
 | non =>
  cases rx
  cases y with
  | non => cases ry; exact PySem.EqNone.eq_none_none (ZdN I q (by simp))
  | bl j => cases ry; exact PySem.EqNone.eq_none_bool (ZdN I q (by simp))
  | int j => obtain ⟨t', rfl⟩ := ry; exact PySem.EqNone.eq_none_int (ZdN I q (by simp))
  | str j => obtain ⟨t', rfl⟩ := ry; exact PySem.EqNone.eq_none_str (ZdN I q (by simp))
  | _ => exact absurd (show false = true from hs) Zcw
 | bl i =>
  cases rx
  cases y with
  | non => cases ry; exact PySem.EqNone.eq_bool_none (ZdN I q (by simp))
  | bl j => cases ry; exact eq_bool (ZdN I q ZnO)
  | str j => obtain ⟨t', rfl⟩ := ry; exact PySem.EqMixed.eq_bool_str (ZdN I q (by simp))
  | _ => exact absurd (show false = true from hs) Zcw
 | int i =>
  obtain ⟨t, rfl⟩ := rx
  cases y with
  | non => cases ry; exact PySem.EqNone.eq_int_none (ZdN I q (by simp))
  | int j => obtain ⟨t', rfl⟩ := ry; exact eq_int (ZdN I q ZlM)
  | str j => obtain ⟨t', rfl⟩ := ry; exact PySem.EqMixed.eq_int_str (ZdN I q (by simp))
  | _ => exact absurd (show false = true from hs) Zcw
 | str i =>
  obtain ⟨t, rfl⟩ := rx
  cases y with
  | non => cases ry; exact PySem.EqNone.eq_str_none (ZdN I q (by simp))
  | bl j => cases ry; exact PySem.EqMixed.eq_str_bool (ZdN I q (by simp))
  | int j => obtain ⟨t', rfl⟩ := ry; exact PySem.EqMixed.eq_str_int (ZdN I q (by simp))
  | str j => obtain ⟨t', rfl⟩ := ry; exact eq_str (ZdN I q ZlN)
  | _ => exact absurd (show false = true from hs) Zcw
 | byt i =>
  obtain ⟨t, rfl⟩ := rx
  cases y with
  | byt j => obtain ⟨t', rfl⟩ := ry; exact PySem.W.eq_bytes (ZdN I q ZlO)
  | _ => exact absurd (show false = true from hs) Zcw
 | _ => cases y <;> exact absurd (show false = true from hs) Zcw
theorem Zin : OpR X (compareOp .NotEq) rNe := by
 intro pins s σ H x y v u Q I rx ry h
 obtain ⟨hs, q⟩ := h
 cases x with
 | non =>
  cases rx
  cases y with
  | non => cases ry; exact PySem.EqNone.ne_none_none (ZdN I q (by simp))
  | bl j => cases ry; exact PySem.EqNone.ne_none_bool (ZdN I q (by simp))
  | int j => obtain ⟨t', rfl⟩ := ry; exact PySem.EqNone.ne_none_int (ZdN I q (by simp))
  | str j => obtain ⟨t', rfl⟩ := ry; exact PySem.EqNone.ne_none_str (ZdN I q (by simp))
  | _ => exact absurd (show false = true from hs) Zcw
 | bl i =>
  cases rx
  cases y with
  | non => cases ry; exact PySem.EqNone.ne_bool_none (ZdN I q (by simp))
  | bl j => cases ry; exact ne_bool (ZdN I q (congrArg not ZnO))
  | str j => obtain ⟨t', rfl⟩ := ry; exact PySem.EqMixed.ne_bool_str (ZdN I q (by simp))
  | _ => exact absurd (show false = true from hs) Zcw
 | int i =>
  obtain ⟨t, rfl⟩ := rx
  cases y with
  | non => cases ry; exact PySem.EqNone.ne_int_none (ZdN I q (by simp))
  | int j => obtain ⟨t', rfl⟩ := ry; exact ne_int (ZdN I q (congrArg not ZlM))
  | str j => obtain ⟨t', rfl⟩ := ry; exact PySem.EqMixed.ne_int_str (ZdN I q (by simp))
  | _ => exact absurd (show false = true from hs) Zcw
 | str i =>
  obtain ⟨t, rfl⟩ := rx
  cases y with
  | non => cases ry; exact PySem.EqNone.ne_str_none (ZdN I q (by simp))
  | bl j => cases ry; exact PySem.EqMixed.ne_str_bool (ZdN I q (by simp))
  | int j => obtain ⟨t', rfl⟩ := ry; exact PySem.EqMixed.ne_str_int (ZdN I q (by simp))
  | str j => obtain ⟨t', rfl⟩ := ry; exact ne_str (ZdN I q (congrArg not ZlN))
  | _ => exact absurd (show false = true from hs) Zcw
 | byt i =>
  obtain ⟨t, rfl⟩ := rx
  cases y with
  | byt j => obtain ⟨t', rfl⟩ := ry; exact PySem.W.ne_bytes (ZdN I q (congrArg not ZlO))
  | _ => exact absurd (show false = true from hs) Zcw
 | _ => cases y <;> exact absurd (show false = true from hs) Zcw
theorem Zq2 : OpR X (compareOp .Lt) (rI0 fun i j => .bl (decide (i < j))) := Zq1 fun _ _ _ _ _ _ _ q => lt_int q
theorem ZjM : OpR X (compareOp .LtE) (rI0 fun i j => .bl (decide (i <= j))) := Zq1 fun _ _ _ _ _ _ _ q => le_int q
theorem Zoo : OpR X (compareOp .Gt) (rI0 fun i j => .bl (decide (j < i))) := Zq1 fun _ _ _ _ _ _ _ q => gt_int q
theorem ZiT : OpR X (compareOp .In) (fun x y H Q => ∃ i j, x = .str i /\ y = .str j /\ Q (.bl (!(Builtin.Str.occurrences j i 0 j.length 1).isEmpty)) H) := by
 intro pins s σ H x y v u Q I rx ry h
 obtain ⟨i, j, rfl, rfl, q⟩ := h
 obtain ⟨t, rfl⟩ := rx
 obtain ⟨t', rfl⟩ := ry
 exact in_str (ZdN I q rfl)
theorem Zdk (b : Expr) {op : CmpOp} (h : autoParam (op ≠ .In) L2.Internal.auD._auto_1) (h2 : autoParam (op ≠ .NotIn) L2.Internal.auD._auto_1) : behindInMarks op b = false := by
 have e1 : (op == CmpOp.In) = false := by cases op <;> first | rfl | exact absurd rfl h
 have e2 : (op == CmpOp.NotIn) = false := by cases op <;> first | rfl | exact absurd rfl h2
 cases b <;> simp [behindInMarks, e1, e2]
theorem ZgF {op : CmpOp} {r : R2} (ho : OpR X (compareOp op) r) (ha : PE X a ta) (hb : PE X b tb) (hm : behindInMarks op b = false) : PE X (.Compare a [op] [b] pos) (tOp r ta tb) := by
 intro pins s σ H Q I h
 exact wpAny_Compare1 (Zq0 ha hb I h fun v u s2 x y H2 I2 rx ry q => ho pins s2 σ H2 x y v u Q I2 rx ry q) hm
noncomputable def ZpB (t : TE) : TT := fun σ H Q => t σ H fun x H' => ∃ k, x = .bl k /\ Q k H'
theorem ZdY {op : CmpOp} {r : R2} (ho : OpR X (compareOp op) r) (ha : PE X a ta) (hb : PE X b tb) (hm : behindInMarks op b = false) : PT X (.Compare a [op] [b] pos) (ZpB (tOp r ta tb)) := by
 intro pins s σ H Q I h
 refine wpAny_isTrue_Compare1 (thn (ha pins s σ H _ I h) fun v s1 ⟨x, H1, I1, r1, q1⟩ => thn (hb pins s1 σ H1 _ I1 q1) fun u s2 ⟨y, H2, I2, r2, q2⟩ =>
  thn (ho pins s2 σ H2 x y v u _ I2 r1 r2 q2) fun c s3 ⟨z, H3, I3, r3, k, e, q3⟩ => ?_) hm
 subst e
 cases r3
 exact wpAny_truthy_bool ⟨H3, I3, q3⟩
noncomputable def ZpC (r r' : R2) (ta tb tc : TE) : TE := fun σ H Q => ta σ H fun x H1 => tb σ H1 fun y H2 => r x y H2 fun z H3 => ∃ k, z = .bl k /\
 (if k = true then tc σ H3 fun w' H4 => r' y w' H4 Q else Q (.bl false) H3)
theorem Zio {op op' : CmpOp} {r r' : R2} (ho : OpR X (compareOp op) r) (ho' : OpR X (compareOp op') r') (ha : PE X a ta) (hb : PE X b tb) (hc : PE X c tc)
  (hm : lastMarks [op, op'] [b, c] = false := by with_unfolding_all rfl) : PT X (.Compare a [op, op'] [b, c] pos) (ZpB (ZpC r r' ta tb tc)) := by
 intro pins s σ H Q I h
 refine isTrue_chain (thn (ha pins s σ H _ I h) fun v s1 ⟨x, H1, I1, r1, q1⟩ => test_link (thn (hb pins s1 σ H1 _ I1 q1) fun u s2 ⟨y, H2, I2, r2, q2⟩ =>
  thn (ho pins s2 σ H2 x y v u _ I2 r1 r2 q2) fun d s3 ⟨z, H3, I3, r3, k, e, q3⟩ => ?_)) hm
 subst e
 cases r3
 refine wpAny_truthy_bool ?_
 cases k with
 | false =>
  obtain ⟨k', e', q'⟩ := q3
  cases e'
  exact ite_ff ⟨H3, I3, q'⟩
 | true =>
  refine ite_tt (test_last (thn (hc pins s3 σ H3 _ I3 q3) fun w' s4 ⟨z', H4, I4, r4, q4⟩ => thn (ho' pins s4 σ H4 y z' u w' _ I4 r2 r4 q4) fun d' s5 ⟨z2, H5, I5, r5, k2, e2, q5⟩ => ?_))
  subst e2
  cases r5
  exact wpAny_truthy_bool ⟨H5, I5, q5⟩
theorem Zh0 : (sizeLine : Nat) < 2 ^ 63 := by rw [sizeLine_eq]; decide
theorem Zh1 : OpR X (binaryOp .Add) (fun x y H Q => ∃ i j, x = .str i /\ y = .str j /\ i.length + j.length <= sizeLine /\ Q (.str (i ++ j)) H) := by
 intro pins s σ H x y v u Q I rx ry h
 obtain ⟨i, j, rfl, rfl, hz, q⟩ := h
 obtain ⟨t, rfl⟩ := rx
 obtain ⟨t', rfl⟩ := ry
 exact add_str (fun t' tk => ⟨.str (i ++ j), H, I.tok _, ⟨_, rfl⟩, q⟩) hz
theorem Zgk {x : V} {us : List Value} (r : ZdT [x] us) : ∃ u, us = [u] /\ Zel x u := by
 cases r with
 | cons r1 r2 => cases r2; exact ⟨_, rfl, r1⟩
theorem ZpD {x y : V} {us : List Value} (r : ZdT [x, y] us) : ∃ u w', us = [u, w'] /\ Zel x u /\ Zel y w' := by
 cases r with
 | cons r1 r2 =>
  cases r2 with
  | cons r3 r4 => cases r4; exact ⟨_, _, rfl, r1, r3⟩
theorem ZiU : Zgj X (.type "str") (fun xs H Q => ∃ i, xs = [.int i] /\ i.natAbs.log2 < 1920 /\ Q (.str (toString i)) H) := by
 intro pins s σ H xs us Q I r h
 obtain ⟨i, rfl, hz, q⟩ := h
 obtain ⟨u, rfl, t, rfl⟩ := Zgk r
 exact PySem.P.str_of_int hz ⟨.str _, H, I.tok _, ⟨_, rfl⟩, q⟩
end
end L2.Internal
namespace L2.Internal
open PySem PySem.Spec PyProof.Rows
structure Zop (h : Heap) (x dx C : Addr) (mA : Str -> Option Value) : Prop where
 obj : h.get? x = some (ZbO C dx)
 ns : h.Ns1 dx mA
 ne : dx ≠ x
theorem ZlP {h : Heap} {dx : Addr} {mA : Str -> Option Value} (n : h.Ns1 dx mA) : ∃ od, h.get? dx = some od /\ ∀ name, ZbT name od = some (mA name) := by
 obtain ⟨o, es, ep, ho, hd, hk, _, hm⟩ := n
 refine ⟨o, ho, fun name => ?_⟩
 have e := hm name
 unfold nsFind findBy at e
 rw [<- Array.find?_toList] at e
 unfold ZbT
 rw [hd]
 dsimp only
 split
 ·rename_i y q
  rw [q] at e
  exact congrArg some e
 ·rename_i q
  rw [q] at e
  have a : es.toList.any (·.refKey) = false := by
   rw [List.any_eq_false]
   intro y hy
   obtain ⟨z, t, hkey⟩ := hk y (Array.mem_toList_iff.mp hy)
   simp [DictEntry.refKey, hkey]
  have a' : ¬ es.toList.any (·.refKey) = true := by rw [a]; exact Zcw
  rw [if_neg a']
  exact congrArg some e
theorem Zop.look {h : Heap} {x dx C : Addr} {mA : Str -> Option Value} (I : Zop h x dx C mA) : ∃ od, PySem.W.InstAt h x (ZbO C dx) C (some od) /\ ∀ name, ZbT name od = some (mA name) :=
 let ⟨od, ho, hl⟩ := ZlP I.ns
 ⟨od, ⟨I.obj, rfl, rfl, ho⟩, hl⟩
section
variable {prog : Program} {w : World} {A : Around} {E : Value -> Shared -> Prop} {s : Shared} {K : PySem.W.Frag} {x dx C f : Addr} {mA : Str -> Option Value} {name : Str} {v : Value}
theorem Zoq {expr : Bool} {Q : Value -> Shared -> Prop} (X : K.In s.heap) (I : Zop s.heap x dx C mA) (hg : ZbU K C name = true) (hh : ZbV K C = true)
  (ha : ZbW K (.ref C) name = some none) (hv : mA name = some v) (hv' : PySem.W.handedIn v = true) (h : Q v { s with toks := s.toks + 1 }) :
  wpAny (model prog w) A (getAttr (.ref x) name expr) Q E s := by
 obtain ⟨od, J, hl⟩ := I.look
 exact PySem.W.get_value X J (ZbX hg).1 (PySem.W.findObj_own hh ha rfl (by rw [hl, hv])) hv' h
theorem ZmT {pl : Sem Bool} {Q : Value × List Value -> Shared -> Prop} (X : K.In s.heap) (I : Zop s.heap x dx C mA) (hg : ZbU K C name = true)
  (hf : ZbW K (.ref C) name = some (some (.ref f))) (ht : ZbY K (.ref f) = true) (hv : mA name = none) (h : Q (.ref f, [.ref x]) s) :
  wpAny (model prog w) A (getMethod (.ref x) name pl) Q E s := by
 obtain ⟨od, J, hl⟩ := I.look
 exact PySem.W.method_fn X J (ZbX hg).1 (ZbX hg).2 hf (beq_iff_eq.mp ht) (by show (ZbT name od).map (·.isSome) = some false; rw [hl, hv]; rfl) h
theorem Zor {ns : List Str} {Q : Unit -> Shared -> Prop} (X : K.In s.heap) (I : Zop s.heap x dx C mA)
  (hs : ZbW K (.ref C) "__setattr__" = some (some (.builtin "object.__setattr__"))) (hp : ZbZ K C = true) (ht : Zb0 K C name = some none) (hh : ZbV K C = true)
  (hw : PySem.Within mA ns) (hsz : ns.length <= sizeLine)
  (h : ∀ h', Zop h' x dx C (fun y => if y = name then some v else mA y) -> Heap.SameBut dx s.heap h' -> Q () { s with heap := h', toks := s.toks + 2 }) :
  wpAny (model prog w) A (setAttr (.ref x) name v) Q E s := by
 obtain ⟨od, J, hl⟩ := I.look
 refine PySem.W.set_plain X J hs (PySem.W.osa_open (s := { s with toks := s.toks + 1 }) (r := none) X J hp ht fun b => ?_)
 obtain ⟨cd, hc, hd'⟩ := PySem.W.any_some hh
 have hx : s.heap.get? x = some ⟨.ref C, some dx, .plain, #[]⟩ := I.obj
 refine wpAny_bind (wpAny_pure (wpAny_bind (wpAny_bind (wpAny_loadPart hx (wpAny_bind (PySem.W.Looks.here (s := { s with toks := s.toks + 1 }) (PySem.W.looks_clsIn X hc) ?_))))))
 rw [hd']
 refine wpAny_pure (a := some dx) (wpAny_bind (wpAny_pure (wpAny_bind ?_)))
 refine wpAny_nsSet1 (s := { s with toks := s.toks + 1 }) I.ns fun h' hn2 hs2 => ?_
 obtain ⟨oD, esD, epD, hoD, hdD, hcD⟩ := hn2.count (PySem.Within.cons name v hw)
 refine wpAny_bind (wpAny_lookBehind hoD (by rw [hdD]; exact pastItsLine_dict (Zbw hcD (by rw [Zan]; omega))) ?_)
 exact wpAny_pure (h _ ⟨(hs2.2 _ (Ne.symm I.ne)).trans I.obj, hn2, I.ne⟩ hs2)
theorem ZmU {R : Result -> Shared -> Prop} {vs : List Value} {kw : List (Str × Value)} (X : K.In s.heap) (hm : Zb1 K C = true)
  (hi : ZbW K (.ref C) "__init__" = some (some (.ref f))) (hf : PySem.W.typeIn K (.ref f) = some (.type "function"))
  (h : codeAny (model prog w) (A.under (.builtin "type.__call__" ⟨.ref C :: vs, kw⟩)) (.call (.ref f) ⟨.ref (s.heap.objs.size + 1) :: vs, kw⟩) (PySem.W.InitBack (s.heap.objs.size + 1) R)
   { s with heap := (s.heap.push Zb2).push (ZbO C s.heap.objs.size) }) :
  codeAny (model prog w) A (.call (.ref C) ⟨vs, kw⟩) R s := by
 obtain ⟨hh, g, d, t, os⟩ := s
 exact PySem.W.make_core (PySem.W.makes_of X hm) (PySem.W.looks_findIn X hi) (fun self => PySem.W.bind_fn X self hf) (.inl rfl) h
end
noncomputable def ZgG (f : Str) (v : V) : List (Str × V) -> List (Str × V)
 | [] => [(f, v)]
 | (g, x) :: r => if g = f then (g, v) :: r else (g, x) :: ZgG f v r
theorem Zhh (f g : Str) (v : V) : ∀ fs : List (Str × V), (ZgG f v fs).lookup g = if g = f then some v else fs.lookup g
 | [] => by
  show Zao g [(f, v)] = _
  by_cases h : g = f
  ·have hb : (g == f) = true := beq_iff_eq.mpr h
   simp only [Zao, hb, if_pos h]
  ·have hb : (g == f) = false := beq_eq_false_iff_ne.mpr h
   simp only [Zao, hb, if_neg h]
 | (k, x) :: r => by
  have ih := Zhh f g v r
  rw [show ZgG f v ((k, x) :: r) = (if k = f then (k, v) :: r else (k, x) :: ZgG f v r) from rfl]
  by_cases hk : k = f
  ·rw [if_pos hk]
   by_cases h : g = k
   ·have hb : (g == k) = true := beq_iff_eq.mpr h
    simp only [Zao, hb, if_pos (h.trans hk)]
   ·have hb : (g == k) = false := beq_eq_false_iff_ne.mpr h
    simp only [Zao, hb, if_neg (fun e : g = f => h (e.trans hk.symm))]
  ·rw [if_neg hk]
   by_cases h : g = k
   ·have hb : (g == k) = true := beq_iff_eq.mpr h
    simp only [Zao, hb, if_neg (fun e : g = f => hk (h.symm.trans e))]
   ·have hb : (g == k) = false := beq_eq_false_iff_ne.mpr h
    simp only [Zao, hb]
    exact ih
theorem Zhi (f : Str) (v : V) : ∀ fs : List (Str × V), f ∈ (ZgG f v fs).map (·.1) /\ ∀ g, g ∈ fs.map (·.1) -> g ∈ (ZgG f v fs).map (·.1)
 | [] => ⟨by simp [ZgG], fun g h => by simp at h⟩
 | (k, x) :: r => by
  obtain ⟨i1, i2⟩ := Zhi f v r
  rw [show ZgG f v ((k, x) :: r) = (if k = f then (k, v) :: r else (k, x) :: ZgG f v r) from rfl]
  by_cases hk : k = f
  ·rw [if_pos hk]
   subst hk
   exact ⟨by simp, fun g h => by simpa using h⟩
  ·rw [if_neg hk]
   refine ⟨?_, fun g h => ?_⟩
   ·rw [Zap]
    exact Zae _ i1
   ·rw [Zap] at h ⊢
    rcases Zaf.mp h with e | e
    ·exact Zaf.mpr (.inl e)
    ·exact Zae _ (i2 g e)
theorem Zhj (f : Str) (v : V) : ∀ fs : List (Str × V), (ZgG f v fs).length <= fs.length + 1
 | [] => by simp [ZgG]
 | (k, x) :: r => by
  have ih := Zhj f v r
  rw [show ZgG f v ((k, x) :: r) = (if k = f then (k, v) :: r else (k, x) :: ZgG f v r) from rfl]
  by_cases hk : k = f
  ·rw [if_pos hk, Zan, Zan]; omega
  ·rw [if_neg hk, Zan, Zan]; omega
theorem Zkn.some_of {v : V} {o : Option Value} (r : Zkn (some v) o) : ∃ u, o = some u /\ Zel v u := by
 cases o with
 | none => exact (show False from r).elim
 | some u => exact ⟨u, rfl, r⟩
theorem Zkn.none_of {o : Option Value} (r : Zkn none o) : o = none := by
 cases o with
 | none => rfl
 | some u => exact (show False from r).elim
theorem ZlQ {v : V} {u : Value} (r : Zel v u) : PySem.W.handedIn u = true := by
 cases v with
 | non => cases (show u = Value.none from r); rfl
 | bl b => cases (show u = Value.bool b from r); rfl
 | int i => obtain ⟨t, e⟩ := (show ∃ t, u = Value.int i t from r); cases e; rfl
 | str x => obtain ⟨t, e⟩ := (show ∃ t, u = Value.str x t from r); cases e; rfl
 | byt b => obtain ⟨t, e⟩ := (show ∃ t, u = Value.bytes b t from r); cases e; rfl
 | flt b => obtain ⟨t, e⟩ := (show ∃ t, u = Value.float b t from r); cases e; rfl
 | ref a => cases (show u = Value.ref a from r); rfl
 | ty n => cases (show u = Value.type n from r); rfl
section
variable {P : Program} {w : World} {H H' : Hp} {h h' : Heap} {a C dx : Addr} {fs fs' : List (Str × V)}
theorem Zip (hok : HOk P w H h) (e : H a = some (.ins C dx fs)) : ∃ mA, Zop h a dx C mA /\ (∀ f, Zkn (fs.lookup f) (mA f)) /\ PySem.Within mA (fs.map (·.1)) /\ fs.length <= 1000 /\ H dx = some (.own a) := by
 obtain ⟨d, z, ne, ob, mA, n, r, q⟩ := (show ZeV P w H h a (.ins C dx fs) from hok a _ e)
 exact ⟨mA, ⟨ob, n, ne⟩, r, q, z, d⟩
end
structure Cls (K : PySem.W.Frag) (C : Addr) : Prop where
 pg : ZbU K C Str.empty = true
 hd : ZbV K C = true
 po : ZbZ K C = true
 sa : ZbW K (.ref C) "__setattr__" = some (some (.builtin "object.__setattr__"))
theorem Cls.get {K : PySem.W.Frag} {C : Addr} (c : Cls K C) (f : Str) : ZbU K C f = true := c.pg
noncomputable def Zfm (K : PySem.W.Frag) (C : Addr) (f : Str) : Prop := ZbW K (.ref C) f = some none
theorem Zfm.taker {K : PySem.W.Frag} {C : Addr} {f : Str} (n : Zfm K C f) : Zb0 K C f = some none := by
 unfold Zb0
 rw [show ZbW K (.ref C) f = some none from n]
 rfl
structure Con (K : PySem.W.Frag) (C : Addr) (f : Str) (v : V) (u : Value) : Prop where
 at_ : ZbW K (.ref C) f = some (some u)
 rel : Zel v u
 get : Zb3 K u "__get__" = some none
 cp : PySem.W.copiedNames.contains f = false
structure Zkx (K : PySem.W.Frag) (C : Addr) (m : Str) (f : Addr) : Prop where
 at_ : ZbW K (.ref C) m = some (some (.ref f))
 fn : ZbY K (.ref f) = true
 kp : Zb4 K (.ref f) = true
section
variable {X : Cx} {pins : List (Addr × Obj)} {σ : St} {H : Hp} {s : Shared} {a C dx : Addr} {fs : List (Str × V)} {f : Str} {v : V} {A : Around} {E : Value -> Shared -> Prop}
theorem Zh2 {b : Bool} {Q : Value -> Shared -> Prop} (I : Inv X pins σ H s) (e : H a = some (.ins C dx fs)) (c : Cls X.K C) (n : Zfm X.K C f) (l : fs.lookup f = some v)
  (h : ∀ u s', Inv X pins σ H s' -> Zel v u -> Q u s') : wpAny (model X.prog X.w) A (getAttr (.ref a) f b) Q E s := by
 obtain ⟨mA, O, r, _, _, _⟩ := Zip I.hok e
 obtain ⟨u, hu, ru⟩ := Zkn.some_of (v := v) (o := mA f) (by rw [<- l]; exact r f)
 exact Zoq I.kIn O (c.get f) c.hd n hu (ZlQ ru) (h u _ (I.tok _) ru)
theorem Zh3 {m : Str} {g : Addr} {pl : Sem Bool} {Q : Value × List Value -> Shared -> Prop} (I : Inv X pins σ H s) (e : H a = some (.ins C dx fs)) (c : Cls X.K C) (k : Zkx X.K C m g) (l : fs.lookup m = none)
  (h : Q (.ref g, [.ref a]) s) : wpAny (model X.prog X.w) A (getMethod (.ref a) m pl) Q E s := by
 obtain ⟨mA, O, r, _, _, _⟩ := Zip I.hok e
 have hn : mA m = none := Zkn.none_of (by rw [<- l]; exact r m)
 exact ZmT I.kIn O (c.get m) k.at_ k.fn hn h
theorem Zh4 {y : V} {u : Value} {Q : Unit -> Shared -> Prop} (I : Inv X pins σ H s) (e : H a = some (.ins C dx fs)) (c : Cls X.K C) (n : Zfm X.K C f) (hl : fs.length < 1000) (ry : Zel y u)
  (h : ∀ s', Inv X pins σ (upd H a (.ins C dx (ZgG f y fs))) s' -> Q () s') : wpAny (model X.prog X.w) A (setAttr (.ref a) f u) Q E s := by
 obtain ⟨mA, O, r, wi, _, ho⟩ := Zip I.hok e
 have hz : (fs.map (·.1)).length <= sizeLine := by rw [Zaq, sizeLine_eq]; omega
 refine Zor I.kIn O c.sa c.po n.taker c.hd wi hz fun h' O' sb => h _ ?_
 have hd : ∃ o, h'.get? dx = some o := let ⟨o, _, _, e', _⟩ := O'.ns; ⟨o, e'⟩
 refine I.write (x := a) (e := dx) (by rw [e]; exact True.intro) (.inr ho) (fun b q hb z => (sb.2 b hb).trans z) hd ?_
 refine ⟨by rw [Zc1 O.ne]; exact ho, ?_, O.ne, O'.obj, _, O'.ns, fun g => ?_, fun g hg => ?_⟩
 ·have := Zhj f y fs; omega
 ·show Zkn ((ZgG f y fs).lookup g) (if g = f then some u else mA g)
  rw [Zhh]
  by_cases q : g = f
  ·rw [if_pos q, if_pos q]; exact ry
  ·rw [if_neg q, if_neg q]; exact r g
 ·by_cases q : g = f
  ·rw [q]; exact (Zhi f y fs).1
  ·refine (Zhi f y fs).2 g (wi g fun z => hg ?_)
   show (if g = f then some u else mA g) = none
   rw [if_neg q]; exact z
theorem Inv.made (I : Inv X pins σ H s) : Inv X pins σ (upd (upd H s.heap.objs.size (.own (s.heap.objs.size + 1))) (s.heap.objs.size + 1) (.ins C s.heap.objs.size []))
  { s with heap := (s.heap.push Zb2).push (ZbO C s.heap.objs.size) } := by
 have e1 : (s.heap.push Zb2).get? s.heap.objs.size = some Zb2 := ZcL s.heap rfl
 have e2 : ((s.heap.push Zb2).push (ZbO C s.heap.objs.size)).get? (s.heap.objs.size + 1) = some (ZbO C s.heap.objs.size) := by
  have := ZcL (s.heap.push Zb2) (o := ZbO C s.heap.objs.size) rfl
  rwa [ZcN] at this
 have e3 : (s.heap.push Zb2).Ns s.heap.objs.size (fun _ => none) := ⟨Zb2, #[], _, e1, rfl, (fun e he => absurd he (by simp)), fun _ => rfl⟩
 have I1 := I.laid (a := s.heap.objs.size) (o := .own (s.heap.objs.size + 1)) (h' := s.heap.push Zb2) (t' := s.toks) (fun b u q => ZcM _ q) (Zbz _) ⟨_, e1⟩
 refine I1.laid (a := s.heap.objs.size + 1) (o := .ins C s.heap.objs.size []) (t' := s.toks) (fun b u q => ZcM _ q) (Nat.le_of_eq (ZcN _ _)) ?_
 have ne : s.heap.objs.size ≠ s.heap.objs.size + 1 := Zbv (ZbB _)
 refine ⟨by rw [Zc1 ne, ZcS], ZbA _, ne, e2, fun _ => none, (Heap.Ns1.of_empty e3).at fun o q => ZcM _ q, fun _ => True.intro, fun y hy => absurd rfl hy⟩
theorem Zos {prog : Program} {w : World} {env : Env} {e : Expr} {f : Str} {pos : Pos} {s : Shared} {Q : Value -> Shared -> Prop} (hb : attributeBase e f env (eval e env) = eval e env)
  (h : wpAny (model prog w) A (eval e env) (fun o s₁ => wpAny (model prog w) A (getAttr o f true) Q E s₁) E s) : wpAny (model prog w) A (eval (.Attribute e f pos) env) Q E s :=
 Attribute_any_ h (by rw [arm_eval_Attribute, hb])
end
noncomputable def tFld (K : PySem.W.Frag) (ta : TE) (f : Str) : TE := fun σ H Q => ta σ H fun x H1 => ∃ a C dx fs v, x = .ref a /\ H1 a = some (.ins C dx fs) /\ Cls K C /\ Zfm K C f /\ fs.lookup f = some v /\ Q v H1
noncomputable def sFld (K : PySem.W.Frag) (ta tv : TE) (f : Str) : TS := fun D σ H => tv σ H fun y H1 => ta σ H1 fun x H2 => ∃ a C dx fs, x = .ref a /\ H2 a = some (.ins C dx fs) /\ Cls K C /\ Zfm K C f /\ fs.length < 1000 /\
 D.nx σ (upd H2 a (.ins C dx (ZgG f y fs)))
noncomputable def ZrK (X : Cx) (op : Operator) (rd : V -> V -> Hp -> VK -> Prop) : Prop :=
 ∀ (pins : List (Addr × Obj)) (s : Shared) (σ : St) (H : Hp) (x y : V) (u v : Value) (Q : VK), Inv X pins σ H s -> Zel x u -> Zel y v -> rd x y H Q -> wpAny (model X.prog X.w) X.A (inplaceOp op u v) (EP X pins σ Q) X.xe s
noncomputable def Zot (K : PySem.W.Frag) (ta tv : TE) (rd : V -> V -> Hp -> VK -> Prop) (f : Str) : TS := fun D σ H => ta σ H fun x H1 => ∃ a C dx fs v, x = .ref a /\ H1 a = some (.ins C dx fs) /\ Cls K C /\ Zfm K C f /\ fs.lookup f = some v /\
 tv σ H1 fun y H2 => rd v y H2 fun z H3 => ∃ dx' fs', H3 a = some (.ins C dx' fs') /\ fs'.length < 1000 /\ D.nx σ (upd H3 a (.ins C dx' (ZgG f z fs')))
section
variable {X : Cx} {o e value : Expr} {f : Str} {pos pos' tpos : Pos} {ta tv : TE}
theorem Zgl (he : PE X e ta) (hb : attributeBase e f X.env (eval e X.env) = eval e X.env) : PE X (.Attribute e f pos) (tFld X.K ta f) := by
 intro pins s σ H Q I h
 refine Zos hb (thn (he pins s σ H _ I h) fun u s1 ⟨x, H1, I1, rx, a, C, dx, fs, v, ex, ea, c, n, l, q⟩ => ?_)
 subst ex
 obtain rfl : u = Value.ref a := rx
 exact Zh2 I1 ea c n l fun u' s2 I2 ru => ⟨v, H1, I2, ru, q⟩
theorem Zh5 (ha : PE X o ta) (hv : PE X value tv) (hs : swapsWith value (some (.Attribute o f pos')) pos.line X.env = pure false) : PS X (.Assign [.Attribute o f pos'] value pos) (sFld X.K ta tv f) := by
 intro pins s σ H D I h
 refine plainObj_wpAny_Assign_Attribute (thn (hv pins s σ H _ I h) fun u s1 ⟨y, H1, I1, ry, q⟩ => thn (ha pins s1 σ H1 _ I1 q) fun ov s2 ⟨x, H2, I2, rx, a, C, dx, fs, ex, ea, c, n, l, q2⟩ => ?_) hs
 subst ex
 obtain rfl : ov = Value.ref a := rx
 exact Zh4 I2 ea c n l ry fun s3 I3 => ⟨σ, _, I3, q2⟩
theorem ZlR {op : Operator} {rd : V -> V -> Hp -> VK -> Prop} (ha : PE X o ta) (hv : PE X value tv) (hop : ZrK X op rd) : PS X (.AugAssign (.Attribute o f tpos) op value pos) (Zot X.K ta tv rd f) := by
 intro pins s σ H D I h
 refine wpAny_AugAssign_AttributeAny (thn (ha pins s σ H _ I h) fun ov s1 ⟨x, H1, I1, rx, a, C, dx, fs, v, ex, ea, c, n, l, q⟩ => ?_)
 subst ex
 obtain rfl : ov = Value.ref a := rx
 refine Zh2 I1 ea c n l fun u s2 I2 ru => thn (hv pins s2 σ H1 _ I2 q) fun w3 s3 ⟨y, H2, I3, ry, q3⟩ => thn (hop pins s3 σ H2 v y u w3 _ I3 ru ry q3) fun w4 s4 ⟨z, H3, I4, rz, dx', fs', ea', l', q4⟩ => ?_
 exact Zh4 I4 ea' c n l' rz fun s5 I5 => ⟨σ, _, I5, q4⟩
noncomputable def rAdd : V -> V -> Hp -> VK -> Prop := fun x y H Q => ∃ i j, x = .int i /\ y = .int j /\ Q (.int (i + j)) H
theorem ZpE : ZrK X .Add rAdd := by
 rintro pins s σ H x y u v Q I rx ry ⟨i, j, rfl, rfl, q⟩
 obtain ⟨t, rfl⟩ := (show ∃ t, u = Value.int i t from rx)
 obtain ⟨t', rfl⟩ := (show ∃ t', v = Value.int j t' from ry)
 exact PyProof.Rows.iadd_int ⟨.int (i + j), H, I.tok _, ⟨_, rfl⟩, q⟩
end
section
variable {X : Cx} {pins : List (Addr × Obj)} {σ : St} {H : Hp} {s : Shared} {A : Around} {E : Value -> Shared -> Prop} {Q : Value -> Shared -> Prop} {c : Value} {b : Bool}
inductive ZjN (K : PySem.W.Frag) (H : Hp) : V -> Value -> Prop where
 | non : ZjN K H .non (.type "NoneType")
 | bl (x : Bool) : ZjN K H (.bl x) (.type "bool")
 | int (i : Int) : ZjN K H (.int i) (.type "int")
 | str (x : Str) : ZjN K H (.str x) (.type "str")
 | flt (x : UInt64) : ZjN K H (.flt x) (.type "float")
 | lst {a : Addr} {xs : List V} (e : H a = some (.lst xs)) : ZjN K H (.ref a) (.type "list")
 | frz {a : Addr} {o : Obj} {xs : List V} (e : H a = some (.frz o (.lst xs))) : ZjN K H (.ref a) (.type "list")
 | tup {a : Addr} {xs : List V} (e : H a = some (.tup xs)) : ZjN K H (.ref a) (.type "tuple")
 | dK {a : Addr} {kvs : List (Key × V)} (e : H a = some (.dK kvs)) : ZjN K H (.ref a) (.type "dict")
 | dT {a : Addr} {kvs : List (List Key × V)} (e : H a = some (.dT kvs)) : ZjN K H (.ref a) (.type "dict")
 | ins {a C dx : Addr} {fs : List (Str × V)} (e : H a = some (.ins C dx fs)) (cl : Cls K C) (ha : ZbW K (.ref C) "__class__" = some (some (.builtin "object.__class__")))
   (hn : Zb3 K (.builtin "object.__class__") "__get__" = some (some (.builtin "getset_descriptor.__get__"))) (htk : Zb5 K (.builtin "object.__class__") = some true)
   (hm : Zb6 K C (.type "object") = some true) : ZjN K H (.ref a) (.ref C)
theorem ZlS {x : V} {u t : Value} (I : Inv X pins σ H s) (rx : Zel x u) (ty : ZjN X.K H x t) (e : Zb7 X.K t c = some b) (h : ∀ tk, Q (.bool b) { s with toks := tk }) :
  wpAny (model X.prog X.w) A (call (.builtin "isinstance") [u, c]) Q E s := by
 cases ty with
 | non => cases (show u = Value.none from rx); exact Zb8 PySem.W.kitx_none I.kIn True.intro e (fun z => nomatch z) h
 | bl y => cases (show u = Value.bool y from rx); exact Zb8 PySem.W.kitx_bool I.kIn True.intro e (fun z => nomatch z) h
 | int i => obtain ⟨t, q⟩ := (show ∃ t, u = Value.int i t from rx); cases q; exact Zb8 PySem.W.kitx_int I.kIn True.intro e (fun z => nomatch z) h
 | str y => obtain ⟨t, q⟩ := (show ∃ t, u = Value.str y t from rx); cases q; exact Zb8 PySem.W.kitx_str I.kIn True.intro e (fun z => nomatch z) h
 | flt y => obtain ⟨t, q⟩ := (show ∃ t, u = Value.float y t from rx); cases q; exact Zb8 PySem.W.kitx_float I.kIn True.intro e (fun z => nomatch z) h
 | @lst a xs ea =>
  cases (show u = Value.ref a from rx)
  obtain ⟨_, _, n, _, h1⟩ := (show ZeV X.prog X.w H s.heap a (.lst xs) from I.hok a _ ea)
  exact Zb8 Zb9 I.kIn ⟨_, h1, rfl⟩ e (fun z => nomatch z) h
 | @frz a ob xs ea =>
  cases (show u = Value.ref a from rx)
  obtain ⟨_, _, _, n, _, h1⟩ := (show ZeV X.prog X.w H s.heap a (.frz ob (.lst xs)) from I.hok a _ ea)
  exact Zb8 Zb9 I.kIn ⟨_, h1, rfl⟩ e (fun z => nomatch z) h
 | @tup a xs ea =>
  cases (show u = Value.ref a from rx)
  obtain ⟨_, _, _, p⟩ := (show ZeV X.prog X.w H s.heap a (.tup xs) from I.hok a _ ea)
  obtain ⟨o, h1, h2, _⟩ := p
  exact Zb8 PySem.W.kitx_tuple I.kIn ⟨o, h1, h2⟩ e (fun z => nomatch z) h
 | @dK a kvs ea =>
  cases (show u = Value.ref a from rx)
  obtain ⟨_, _, vs, _, p⟩ := (show ZeV X.prog X.w H s.heap a (.dK kvs) from I.hok a _ ea)
  obtain ⟨o, es, ep, h1, h2, _⟩ := p
  exact Zb8 Zca I.kIn ⟨o, h1, h2.1⟩ e (fun z => nomatch z) h
 | @dT a kvs ea =>
  cases (show u = Value.ref a from rx)
  obtain ⟨_, _, xs, _, o, es, ep, h1, h2, _⟩ := (show ZeV X.prog X.w H s.heap a (.dT kvs) from I.hok a _ ea)
  exact Zb8 Zca I.kIn ⟨o, h1, h2.1⟩ e (fun z => nomatch z) h
 | @ins a C dx fs ea cl ha hn htk hm =>
  cases (show u = Value.ref a from rx)
  obtain ⟨mA, O, _⟩ := Zip I.hok ea
  obtain ⟨od, J, _⟩ := O.look
  exact Zb8 (PySem.W.kitx_own (cl.get _) cl.hd ha hn htk hm) I.kIn J e (fun z => nomatch z) h
end
end L2.Internal
namespace L2.Internal
open PySem PySem.Spec PyProof.Rows
structure ZgS (k : Nat) (A : Around) : Prop where
 hd : A.handled = none
 dp : A.depth + 3 * k + 5 < recursionLimit
 un : A.units + 16 * k + 200 < cLine
theorem ZgS.mono {j k : Nat} {A : Around} (r : ZgS k A) (h : j <= k) : ZgS j A := ⟨r.hd, by have := r.dp; omega, by have := r.un; omega⟩
theorem ZgS.deeper {k : Nat} {A : Around} (r : ZgS (k + 1) A) (env : Env) : ZgS k (A.deeper env) :=
 ⟨r.hd, by have := r.dp; show A.depth + 1 + 3 * k + 5 < _; omega, by have := r.un; show A.units + 3 + 16 * k + 200 < _; omega⟩
theorem Zla {A : Around} {C : Addr} {us : List Value} {kw : List (Str × Value)} : (A.under (.builtin "type.__call__" ⟨.ref C :: us, kw⟩)).depth = A.depth + 1 := by
 first | rfl | simp [Around.under, Code.weight, Code.isCreation, Code.isGuard, Code.isCaller, Code.frames, Code.isFrame, guardIds]
theorem Zlb {A : Around} {C : Addr} {us : List Value} {kw : List (Str × Value)} : (A.under (.builtin "type.__call__" ⟨.ref C :: us, kw⟩)).units = A.units + 1 := by
 first | rfl | simp [Around.under, Code.cUnits, Code.frames, Code.isFrame]
theorem ZgS.make {k : Nat} {A : Around} (r : ZgS (k + 1) A) (C : Addr) (us : List Value) (kw : List (Str × Value)) : ZgS k (A.under (.builtin "type.__call__" ⟨.ref C :: us, kw⟩)) :=
 ⟨r.hd, by have := r.dp; rw [Zla]; omega, by have := r.un; rw [Zlb]; omega⟩
theorem ZgS.depth {k : Nat} {A : Around} (r : ZgS k A) : A.depth < recursionLimit := by have := r.dp; omega
noncomputable def Zph : TA := fun _ H Q => Q [] H
noncomputable def ZmV (ta : TE) (tr : TA) : TA := fun σ H Q => ta σ H fun x H1 => tr σ H1 fun xs H2 => Q (x :: xs) H2
section
variable {X : Cx} {e : Expr} {es : List Expr} {te : TE} {t : TA} {pos : Pos}
theorem ZcT : PA X [] Zph := fun _ _ _ _ H Q I h => Calls.spliced_nil ⟨[], H, I, .nil, h⟩
theorem ZcR (ha : PE X e te) (hr : PA X es t) (hs : autoParam (starEach (e :: es) X.env = (false, eval e X.env) :: starEach es X.env) L2.Internal.auR._auto_1) : PA X (e :: es) (ZmV te t) := by
 intro pos pins s σ H Q I h
 rw [hs]
 show wpAny _ _ (spliced ((false, eval e X.env) :: backTo pos (starEach es X.env))) _ _ s
 refine Calls.spliced_cons (thn (ha pins s σ H _ I h) fun u s1 ⟨x, H1, I1, r1, q1⟩ => ?_)
 exact thn (hr pos pins s1 σ H1 _ I1 q1) fun us s2 ⟨xs, H2, I2, r2, q2⟩ => ⟨x :: xs, H2, I2, .cons r1 r2, q2⟩
noncomputable def tTup (t : TA) : TE := fun σ H Q => t σ H fun xs H1 => xs.length <= sizeLine /\ ∀ p, H1 p = none -> Q (.ref p) (upd H1 p (.tup xs))
noncomputable def tLst (t : TA) : TE := fun σ H Q => t σ H fun xs H1 => xs.length <= sizeLine /\ ∀ p, H1 p = none -> Q (.ref p) (upd H1 p (.lst xs))
theorem Zfn {x1} (h : PA X es t) : PE X (.Tuple es x1 pos) (tTup t) := by
 intro pins s σ H Q I hq
 refine wpAny_Tuple_spliced (thn (h pos pins s σ H _ I hq) fun us s1 ⟨xs, H1, I1, r, z, q⟩ => ⟨by rw [<- r.length]; exact z, ?_⟩)
 have hf : H1 s1.heap.objs.size = none := I1.hok.fresh (Zbz _)
 refine ⟨.ref s1.heap.objs.size, upd H1 s1.heap.objs.size (.tup xs), I1.laid (t' := s1.toks) (fun b u e => ZcM _ e) (Zbz _) ?_, rfl, q _ hf⟩
 exact ⟨z, us, r, ⟨_, ZcL _ rfl, rfl, _, rfl, rfl⟩⟩
theorem Zdl (h : PA X es t) : PE X (.List es pos) (tLst t) := by
 intro pins s σ H Q I hq
 refine wpAny_List_spliced (thn (h pos pins s σ H _ I hq) fun us s1 ⟨xs, H1, I1, r, z, q⟩ => ⟨by rw [<- r.length]; exact z, ?_⟩)
 have hf : H1 s1.heap.objs.size = none := I1.hok.fresh (Zbz _)
 refine ⟨.ref s1.heap.objs.size, upd H1 s1.heap.objs.size (.lst xs), I1.laid (t' := s1.toks) (fun b u e => ZcM _ e) (Zbz _) ?_, rfl, q _ hf⟩
 exact ⟨z, us, 0, r, ZcL _ rfl⟩
end
noncomputable abbrev Sp := List V -> Hp -> VK -> XK -> Prop
noncomputable abbrev CXT := List Env -> Hp -> Shared -> XK -> Value -> Shared -> Prop
structure Zou (P : Program) (w : World) (K : PySem.W.Frag) (mg : Str -> Option Value) (base : Heap) (A : Around) (outer : List Env) (s : Shared) (H : Hp) : Prop where
 frames : A.frames = some outer
 mod : Mod K mg base
 bs : ∀ b o, base.get? b = some o -> s.heap.get? b = some o /\ H b = none
 bsz : base.objs.size <= s.heap.objs.size
 funs : s.heap.FunFrames base outer
 frf : ∀ b ∈ frs outer, H b = none
 hok : HOk P w H s.heap
 bare : AllBare s.gens
noncomputable def CE (outer : List Env) (P : Program) (w : World) (H : Hp) (s : Shared) (Q : VK) (u : Value) (s' : Shared) : Prop :=
 ∃ v H', s'.os = s.os /\ AllBare s'.gens /\ Un (frs outer) [] H H' s.heap s'.heap /\ HOk P w H' s'.heap /\ Zel v u /\ Q v H'
noncomputable def CR (CX : CXT) (outer : List Env) (P : Program) (w : World) (H : Hp) (s : Shared) (Q : VK) (E : XK) (r : Result) (s' : Shared) : Prop :=
 match r with
 | .ok (.ret u) => CE outer P w H s Q u s'
 | .ok _ => False
 | .error e => CX outer H s E e s'
structure ZdK (P : Program) (w : World) (K : PySem.W.Frag) (mg : Str -> Option Value) (base : Heap) (CX : CXT) (k : Nat) (f : Addr) (fd : FuncData) (ps : List Str) (sp : Sp) : Prop where
 len : ∀ vs H Q E, sp vs H Q E -> vs.length = ps.length
 run : ∀ (A : Around) (outer : List Env) (s : Shared) (H : Hp) (args : Args) (us : List Value) (vs : List V) (Q : VK) (E : XK), ZgS k A -> Zou P w K mg base A outer s H -> BindsTo s fd args (ps.zip us) -> ZdT vs us -> sp vs H Q E ->
  codeAny (model P w) A (.call (.ref f) args) (CR CX outer P w H s Q E) s
theorem Zou.make {P : Program} {w : World} {K : PySem.W.Frag} {mg : Str -> Option Value} {base : Heap} {A : Around} {outer : List Env} {s : Shared} {H : Hp} (e : Zou P w K mg base A outer s H) (C : Addr) (us : List Value) (kw : List (Str × Value)) :
  Zou P w K mg base (A.under (.builtin "type.__call__" ⟨.ref C :: us, kw⟩)) outer s H := ⟨by first | exact e.frames | (simpa [Around.under, Code.envs, Code.isFrame, pushEnvs] using e.frames), e.mod, e.bs, e.bsz, e.funs, e.frf, e.hok, e.bare⟩
section
variable {X : Cx} {pins : List (Addr × Obj)} {σ : St} {H : Hp} {s s' : Shared}
theorem Inv.env0 (I : Inv X pins σ H s) : Zou X.prog X.w X.K X.mg X.base X.A X.stack s H :=
 ⟨I.ok.frames, I.ok.mod, I.bs, Zbw I.ok.bsz I.sz, I.stack, I.stkFree, I.hok, I.bare⟩
theorem Inv.after {Q : VK} {u : Value} (I : Inv X pins σ H s) (h : CE X.stack X.prog X.w H s Q u s') : EP X pins σ Q u s' := by
 obtain ⟨v, H', os, bare, un, hok, r, q⟩ := h
 obtain ⟨hh, g, d, t, os'⟩ := s'
 obtain rfl : os' = s.os := os
 exact ⟨v, H', I.call (h' := hh) (g' := g) (d' := d) (t' := t) (ch := []) un hok bare (fun b z => absurd z (by simp)), r, q⟩
end
noncomputable def Zq3 (sp : Sp) (dvs : List V) (E : XK) (t : TA) : TE := fun σ H Q => t σ H fun vs H1 => sp (vs ++ dvs) H1 Q E
noncomputable def ZpF (C : Addr) (m : Str) (sp : Sp) (dvs : List V) (E : XK) (ta : TE) (t : TA) : TE := fun σ H Q => ta σ H fun x H1 => ∃ a dx fs, x = .ref a /\ H1 a = some (.ins C dx fs) /\ fs.lookup m = none /\
 t σ H1 fun vs H2 => sp (x :: (vs ++ dvs)) H2 Q E
noncomputable def Zq4 (C : Addr) (sp : Sp) (dvs : List V) (E : XK) (t : TA) : TE := fun σ H Q => t σ H fun vs H1 => ∀ x dx, H1 x = none -> H1 dx = none -> dx ≠ x ->
 sp (.ref x :: (vs ++ dvs)) (upd (upd H1 dx (.own x)) x (.ins C dx [])) (fun v H2 => v = .non /\ Q (.ref x) H2) E
noncomputable def ZdQ (K : PySem.W.Frag) (fd : FuncData) (ps : List Str) (ds : List Value) : Prop :=
 ∀ (s : Shared) (us : List Value), K.In s.heap -> (us ++ ds).length = ps.length -> BindsTo s fd ⟨us, []⟩ (ps.zip (us ++ ds))
theorem ZdQ.all {K : PySem.W.Frag} {fd : FuncData} {ps : List Str} (h : ∀ us : List Value, us.length = ps.length -> bindArgs fd ⟨us, []⟩ = pure (ps.zip us)) : ZdQ K fd ps [] := fun s us _ hl => by
 rw [Zar] at hl ⊢
 exact .of_eq (h us hl)
noncomputable def Zgm (CX : CXT) (X : Cx) (E : XK) : Prop := ∀ (pins : List (Addr × Obj)) (σ : St) (H : Hp) (s : Shared) (e : Value) (s' : Shared), Inv X pins σ H s -> CX X.stack H s E e s' -> X.xe e s'
section
variable {X : Cx} {CX : CXT} {k : Nat} {f C : Addr} {fd : FuncData} {ps : List Str} {sp : Sp} {dvs : List V} {ds : List Value} {E : XK} {x m : Str} {p pos apos : Pos} {e o : Expr} {es : List Expr} {ta : TE} {t : TA}
theorem ZlT {pins : List (Addr × Obj)} {σ : St} {H : Hp} {s : Shared} {Q : VK} {us : List Value} {vs : List V} (F : ZdK X.prog X.w X.K X.mg X.base CX k f fd ps sp) (hr : ZgS k X.A) (hb : ZdQ X.K fd ps ds) (hd : ZdT dvs ds) (hx : Zgm CX X E)
  (I : Inv X pins σ H s) (r : ZdT vs us) (h : sp (vs ++ dvs) H Q E) : wpAny (model X.prog X.w) X.A (call (.ref f) us) (EP X pins σ Q) X.xe s := by
 have r2 : ZdT (vs ++ dvs) (us ++ ds) := r.append hd
 have hl : (us ++ ds).length = ps.length := by rw [<- r2.length]; exact F.len _ _ _ _ h
 refine wpAny_call (codeAny_mono (F.run X.A X.stack s H ⟨us, []⟩ (us ++ ds) (vs ++ dvs) Q E hr I.env0 (hb s us I.kIn hl) r2 h) fun r s' hq => ?_)
 cases r with
 | error e => exact hx pins σ H s e s' I hq
 | ok fl =>
  cases fl with
  | ret u => exact I.after hq
  | next => exact False.elim hq
  | brk => exact False.elim hq
  | cont => exact False.elim hq
theorem Zc7 (F : ZdK X.prog X.w X.K X.mg X.base CX k f fd ps sp) (hr : ZgS k X.A) (hg : Gl X x) (hm : X.mg x = some (.ref f)) (hk : Zb4 X.K (.ref f) = true) (hb : ZdQ X.K fd ps ds) (hd : ZdT dvs ds) (hx : Zgm CX X E)
  (ha : PA X (e :: es) t) (hdb : autoParam ((x == ("__debug__" : Str)) = false) L2.Internal.auD._auto_1) (he : autoParam (starEach (e :: es) X.env = (false, eval e X.env) :: starEach es X.env) L2.Internal.auR._auto_1) (hpl : autoParam ((backTo pos (starEach es X.env)).any (·.1) = false) L2.Internal.auR._auto_1) :
  PE X (.Call (.Name x p) (e :: es) [] pos) (Zq3 sp dvs E t) := by
 intro pins s σ H Q I h
 refine wpAny_Call_Name_kw (Zij I hg hm ?_ hdb)
 refine Zcb (h₀ := X.base) I.ok.mod.kin hk (thn (ha pos pins s σ H _ I h) fun us s1 ⟨vs, H1, I1, r, q⟩ => ⟨I1.kIn, ?_⟩) he hpl
 exact ZlT F hr hb hd hx I1 r q
theorem Zem {pl : Sem Bool} (he : PE X o ta) (c : Cls X.K C) (hm : Zkx X.K C m f) (F : ZdK X.prog X.w X.K X.mg X.base CX k f fd ps sp) (hr : ZgS k X.A) (hb : ZdQ X.K fd ps ds) (hd : ZdT dvs ds) (hx : Zgm CX X E) (ha : PA X (e :: es) t)
  (hst : autoParam (starEach (e :: es) X.env = (false, eval e X.env) :: starEach es X.env) L2.Internal.auR._auto_1) (hpl : autoParam ((backTo pos (starEach es X.env)).any (·.1) = false) L2.Internal.auR._auto_1)
  (ht : eval (.Call (.Attribute o m apos) (e :: es) [] pos) X.env = (do
   let ov <- eval o X.env
   standAt apos.atName
   let (f, first) <- holding [ov] (getMethod ov m pl)
   callWith pos f first (backTo pos (starEach (e :: es) X.env)) (backToKw pos (keywordEach [] X.env))) := by rfl) :
  PE X (.Call (.Attribute o m apos) (e :: es) [] pos) (ZpF C m sp dvs E ta t) := by
 intro pins s σ H Q I h
 refine Zcc (pl := pl) (thn (he pins s σ H _ I h) fun u s1 ⟨x, H1, I1, rx, a, dx, fs, ex, ea, l, q⟩ => ?_) ht
 subst ex
 obtain rfl : u = Value.ref a := rx
 refine Zh3 I1 ea c hm l ?_
 refine Zcb (first := [.ref a]) (h₀ := X.base) I.ok.mod.kin hm.kp (thn (ha pos pins s1 σ H1 _ I1 q) fun us s2 ⟨vs, H2, I2, r, q2⟩ => ⟨I2.kIn, ?_⟩) hst hpl
 exact ZlT (us := .ref a :: us) (vs := .ref a :: vs) F hr hb hd hx I2 (.cons rfl r) q2
theorem ZeC {pl : Sem Bool} (he : PE X o ta) (c : Cls X.K C) (hm : Zkx X.K C m f) (F : ZdK X.prog X.w X.K X.mg X.base CX k f fd ps sp) (hr : ZgS k X.A) (hb : ZdQ X.K fd ps ds) (hd : ZdT dvs ds) (hx : Zgm CX X E)
  (ht : eval (.Call (.Attribute o m apos) [] [] pos) X.env = (do
   let ov <- eval o X.env
   standAt apos.atName
   let (f, first) <- holding [ov] (getMethod ov m pl)
   callWith pos f first (backTo pos (starEach [] X.env)) (backToKw pos (keywordEach [] X.env))) := by rfl) :
  PE X (.Call (.Attribute o m apos) [] [] pos) (ZpF C m sp dvs E ta Zph) := by
 intro pins s σ H Q I h
 refine Zcc (pl := pl) (thn (he pins s σ H _ I h) fun u s1 ⟨x, H1, I1, rx, a, dx, fs, ex, ea, l, q⟩ => ?_) ht
 subst ex
 obtain rfl : u = Value.ref a := rx
 refine Zh3 I1 ea c hm l ?_
 exact PySem.W.callWith_K0 (first := [.ref a]) I1.kIn hm.kp (ZlT (us := [.ref a]) (vs := [.ref a]) F hr hb hd hx I1 (.cons rfl .nil) q)
structure Mk (K : PySem.W.Frag) (C f : Addr) : Prop where
 makes : Zb1 K C = true
 init : ZbW K (.ref C) "__init__" = some (some (.ref f))
 fn : ZbY K (.ref f) = true
 kp : Zb4 K (.ref C) = true
theorem ZmW {pins : List (Addr × Obj)} {σ : St} {H : Hp} {s : Shared} {Q : VK} {us : List Value} {vs : List V} (M : Mk X.K C f) (F : ZdK X.prog X.w X.K X.mg X.base CX k f fd ps sp) (hr : ZgS (k + 1) X.A) (hb : ZdQ X.K fd ps ds) (hd : ZdT dvs ds)
  (hx : Zgm CX X E) (I : Inv X pins σ H s) (r : ZdT vs us)
  (h : ∀ x dx, H x = none -> H dx = none -> dx ≠ x -> sp (.ref x :: (vs ++ dvs)) (upd (upd H dx (.own x)) x (.ins C dx [])) (fun v H2 => v = .non /\ Q (.ref x) H2) E) :
  wpAny (model X.prog X.w) X.A (call (.ref C) us) (EP X pins σ Q) X.xe s := by
 have hq := h (s.heap.objs.size + 1) s.heap.objs.size (I.hok.fresh (Nat.le_succ _)) (I.hok.fresh (Zbz _)) (Zbv (ZbB _))
 have I2 := Inv.made (C := C) I
 have r2 : ZdT (V.ref (s.heap.objs.size + 1) :: (vs ++ dvs)) (Value.ref (s.heap.objs.size + 1) :: (us ++ ds)) := .cons rfl (r.append hd)
 have hl : (Value.ref (s.heap.objs.size + 1) :: us ++ ds).length = ps.length := by
  have e := r2.length
  rw [F.len _ _ _ _ hq] at e
  exact e.symm
 refine wpAny_call (ZmU (f := f) I.kIn M.makes M.init (beq_iff_eq.mp M.fn) (codeAny_mono (F.run _ X.stack _ _ ⟨Value.ref (s.heap.objs.size + 1) :: us, []⟩ (Value.ref (s.heap.objs.size + 1) :: (us ++ ds)) _ _ E (hr.make C us [])
  (I2.env0.make C us []) (hb _ (Value.ref (s.heap.objs.size + 1) :: us) I2.kIn hl) r2 hq) fun r s' hq' => ?_))
 cases r with
 | error e => exact hx pins σ _ _ e s' I2 hq'
 | ok fl =>
  cases fl with
  | ret u =>
   obtain ⟨v, H', I3, rv, ev, q3⟩ := I2.after hq'
   subst ev
   exact ⟨rv, ⟨V.ref (s.heap.objs.size + 1), H', I3, rfl, q3⟩⟩
  | next => exact False.elim hq'
  | brk => exact False.elim hq'
  | cont => exact False.elim hq'
theorem ZjO (M : Mk X.K C f) (F : ZdK X.prog X.w X.K X.mg X.base CX k f fd ps sp) (hr : ZgS (k + 1) X.A) (hg : Gl X x) (hm : X.mg x = some (.ref C)) (hb : ZdQ X.K fd ps ds) (hd : ZdT dvs ds) (hx : Zgm CX X E)
  (ha : PA X (e :: es) t) (hdb : autoParam ((x == ("__debug__" : Str)) = false) L2.Internal.auD._auto_1) (he : autoParam (starEach (e :: es) X.env = (false, eval e X.env) :: starEach es X.env) L2.Internal.auR._auto_1) (hpl : autoParam ((backTo pos (starEach es X.env)).any (·.1) = false) L2.Internal.auR._auto_1) :
  PE X (.Call (.Name x p) (e :: es) [] pos) (Zq4 C sp dvs E t) := by
 intro pins s σ H Q I h
 refine wpAny_Call_Name_kw (Zij I hg hm ?_ hdb)
 refine Zcb (h₀ := X.base) I.ok.mod.kin M.kp (thn (ha pos pins s σ H _ I h) fun us s1 ⟨vs, H1, I1, r, q⟩ => ⟨I1.kIn, ?_⟩) he hpl
 exact ZmW M F hr hb hd hx I1 r q
end
section
variable {X : Cx} {CX : CXT} {k : Nat} {f C : Addr} {fd : FuncData} {ps ks : List Str} {sp : Sp} {E : XK} {x m : Str} {p pos apos kpos : Pos} {e o : Expr} {es : List Expr} {kws : List Keyword} {te ta : TE} {t tk : TA} {nm : Option Str}
structure ZrL (K : PySem.W.Frag) (fd : FuncData) (ps ks : List Str) (g : List Value -> List Value -> List Value) (gV : List V -> List V -> List V) : Prop where
 to : ∀ (s : Shared) (us ws : List Value), K.In s.heap -> (g us ws).length = ps.length -> BindsTo s fd ⟨us, ks.zip ws⟩ (ps.zip (g us ws))
 rel : ∀ {vs : List V} {us : List Value} {zs : List V} {ws : List Value}, ZdT vs us -> ZdT zs ws -> ZdT (gV vs zs) (g us ws)
variable {g : List Value -> List Value -> List Value} {gV : List V -> List V -> List V}
end
structure Zdf (N P : List Str) (sc : Scope) : Prop where
 kind : sc.kind = .function
 co : sc.isCoroutine = false
 gen : sc.isGenerator = false
 nd : N.Nodup
 pre : N.take P.length = P
 par : ∀ x ∈ P, sc.names.lookup x = some .local \/ sc.names.lookup x = some .cell
 nofree : ∀ y ∈ sc.names, y.2 ≠ .free
theorem ZiV {kindOf : Str -> Option NameKind} {x : Str} : ∀ {binds : List (Str × Value)} {m : Str -> Option Value}, (∀ v, (x, v) ∉ binds) -> bindL kindOf binds m x = m x
 | [], _, _ => rfl
 | (n, v) :: r, m, h => by
  unfold bindL
  rw [ZiV fun w hw => h w (Zae _ hw)]
  split
  ·have : x ≠ n := by rintro rfl; exact h v Zad
   simp [this]
  ·rfl
theorem ZiW {kindOf : Str -> Option NameKind} {x : Str} : ∀ {binds : List (Str × Value)} {m : Str -> Option Value}, (∀ v, (x, v) ∉ binds) -> bindC kindOf binds m x = m x
 | [], _, _ => rfl
 | (n, v) :: r, m, h => by
  unfold bindC
  rw [ZiW fun w hw => h w (Zae _ hw)]
  split
  ·rfl
  ·have : x ≠ n := by rintro rfl; exact h v Zad
   simp [this]
theorem ZiX {kindOf : Str -> Option NameKind} {x : Str} {v : Value} : ∀ {P : List Str} {vs : List Value} {i : Nat} {m : Str -> Option Value}, P.Nodup -> P[i]? = some x -> vs[i]? = some v -> kindOf x = some .local ->
  bindL kindOf (P.zip vs) m x = some v
 | [], _, _, _, _, h, _, _ => by simp at h
 | _ :: _, [], _, _, _, _, h, _ => by simp at h
 | p :: P, w :: vs, 0, m, nd, h1, h2, hk => by
  simp at h1 h2; subst h1; subst h2
  show bindL kindOf ((p, w) :: P.zip vs) m p = _
  unfold bindL
  rw [ZiV fun v hv => (Zas.mp nd).1 (Zat hv).1, if_pos hk]
  simp
 | p :: P, w :: vs, i + 1, m, nd, h1, h2, hk => by
  show bindL kindOf ((p, w) :: P.zip vs) m x = _
  unfold bindL
  exact ZiX (i := i) (Zas.mp nd).2 (by simpa using h1) (by simpa using h2) hk
theorem ZiY {kindOf : Str -> Option NameKind} {x : Str} {v : Value} : ∀ {P : List Str} {vs : List Value} {i : Nat} {m : Str -> Option Value}, P.Nodup -> P[i]? = some x -> vs[i]? = some v -> kindOf x ≠ some .local ->
  bindC kindOf (P.zip vs) m x = some v
 | [], _, _, _, _, h, _, _ => by simp at h
 | _ :: _, [], _, _, _, _, h, _ => by simp at h
 | p :: P, w :: vs, 0, m, nd, h1, h2, hk => by
  simp at h1 h2; subst h1; subst h2
  show bindC kindOf ((p, w) :: P.zip vs) m p = _
  unfold bindC
  rw [ZiW fun v hv => (Zas.mp nd).1 (Zat hv).1, if_neg hk]
  simp
 | p :: P, w :: vs, i + 1, m, nd, h1, h2, hk => by
  show bindC kindOf ((p, w) :: P.zip vs) m x = _
  unfold bindC
  exact ZiY (i := i) (Zas.mp nd).2 (by simpa using h1) (by simpa using h2) hk
noncomputable def ZgZ (N : List Str) (vs : List V) : St := vs.map some ++ Zau (N.length - vs.length) none
noncomputable def ZjP (CX : CXT) (P : Program) (w : World) (K : PySem.W.Frag) (mg : Str -> Option Value) (base : Heap) (N : List Str) (qual : Str) (scope : Scope) (f : Addr) (cd : Value) (A : Around) (outer : List Env) (s : Shared) (H : Hp) (E : XK) : Cx where
 prog := P
 w := w
 K := K
 mg := mg
 base := base
 A := A.deeper (envOfC qual scope s.heap.objs.size f cd)
 N := N
 s₀ := s
 H₀ := H
 env := envOfC qual scope s.heap.objs.size f cd
 outer := outer
 stack := envOfC qual scope s.heap.objs.size f cd :: outer
 ex := []
 calm := true
 fn := fun _ => true
 pn := []
 xe := fun e s' => wpAny (model P w) (A.deeper (envOfC qual scope s.heap.objs.size f cd)) (leaving (envOfC qual scope s.heap.objs.size f cd) e) (fun _ s'' => CX outer H s E e s'') (fun e' s'' => CX outer H s E e' s'') s'
theorem Zky {sc : Scope} {n : Nat} {x : Str} (h : sc.names.lookup x = some .cell) : ∃ c, (cellsFrom n sc.names []).lookup x = some c := by
 have q := Zcd sc.names n [] (.inl h)
 exact Option.isSome_iff_exists.mp q
theorem ZiZ {CX : CXT} {P : Program} {w : World} {K : PySem.W.Frag} {mg : Str -> Option Value} {base : Heap} {N ps : List Str} {qual : Str} {scope : Scope} {f : Addr} {cd : Value} {A : Around} {outer : List Env} {s s1 : Shared} {H : Hp} {E : XK} {us : List Value} {vs : List V}
  (S : Zdf N ps scope) (hd : A.handled = none) (e0 : Zou P w K mg base A outer s H) (hl : vs.length = ps.length) (r : ZdT vs us)
  (x : InCallC s s.heap.objs.size (bindL (envOfC qual scope s.heap.objs.size f cd).kindOf (ps.zip us) fun _ => none) (cellsFrom (s.heap.objs.size + 1) scope.names []) (bindC (envOfC qual scope s.heap.objs.size f cd).kindOf (ps.zip us) fun _ => none) s1) :
  Inv (ZjP CX P w K mg base N qual scope f cd A outer s H E) [] (ZgZ N vs) H s1 := by
 have hpl : ps.length <= N.length := by have := congrArg List.length S.pre; rw [Zav] at this; omega
 obtain ⟨h1, tk, rfl, hk⟩ := x.done
 have noA : ∀ b : Addr, b ∉ (ZjP CX P w K mg base N qual scope f cd A outer s H E).ex := fun b z => absurd (show b ∈ ([] : List Addr) from z) (by simp)
 refine ⟨⟨e0.mod, S.kind, rfl, rfl, Zbz _, fun y z c h1 h2 => ?_, fun y hy => ?_, fun y c _ h => ?_, fun _ => hd, Around.frames_deeper e0.frames, .inr ⟨rfl, rfl⟩, fun b z => absurd z (noA b), e0.bs, e0.bsz, fun b _ _ => noA b, fun b z => absurd z (noA b), e0.funs, e0.frf⟩,
  rfl, e0.bare, Un.kept hk, ⟨_, x.toInCall.ns, fun i y v h1 h2 h3 => ?_⟩, fun y c h => ⟨_, x.cell y c h⟩, e0.hok.fresh (Zbz _), fun y c h => ?_, fun p hp => absurd (show p ∈ ([] : List (Addr × Obj)) from hp) (by simp), e0.hok.kept hk, ?_⟩
 ·exact name_of_addr x.apart (PySem.mem_of_lookup h1) (PySem.mem_of_lookup h2)
 ·have hy : scope.names.lookup y = some .cell \/ scope.names.lookup y = some .free := hy
  rcases hy with hy | hy
  ·exact Zky hy
  ·exact absurd rfl (S.nofree _ (PySem.mem_of_lookup hy))
 ·exact Zbx (x.above y c (PySem.mem_of_lookup h))
 ·have hi : i < vs.length := by
   unfold ZgZ at h2
   by_cases hi : i < vs.length
   ·exact hi
   ·rw [Zaw (by simpa using hi)] at h2
    rw [List.getElem?_replicate] at h2
    split at h2 <;> cases h2
  have ha : vs[i]? = some v := by
   unfold ZgZ at h2
   rw [Zax (by simpa using hi), Zay] at h2
   cases e : vs[i]? with
   | none => rw [e] at h2; cases h2
   | some a => rw [e] at h2; cases h2; rfl
  obtain ⟨u, hu, rv⟩ := r.get ha
  have hp : ps[i]? = some y := by
   rw [<- S.pre, List.getElem?_take_of_lt (by omega)]; exact h1
  have ndP : ps.Nodup := by rw [<- S.pre]; exact S.nd.sublist (List.take_sublist _ _)
  refine ⟨u, rv, ?_⟩
  rcases S.par y (Zaz hp) with k | k
  ·exact .inl ⟨k, ZiX ndP hp hu k⟩
  ·obtain ⟨c, e⟩ := Zky (n := s.heap.objs.size + 1) k
   refine .inr ⟨.inl k, c, e, ?_⟩
   have q := x.cell y c e
   rw [ZiY ndP hp hu (by show scope.names.lookup y ≠ _; rw [k]; decide)] at q
   exact q
 ·exact e0.hok.fresh (Zbx (x.above y c (PySem.mem_of_lookup h)))
 ·unfold ZgZ
  show _ = N.length
  rw [ZaA, Zaq, ZaB]
  omega
theorem ZpG {CX : CXT} {P : Program} {w : World} {K : PySem.W.Frag} {mg : Str -> Option Value} {base : Heap} {k : Nat} {f : Addr} {name qual : Str} {params : Arguments} {body : List Stmt} {scope : Scope} {dV kV doc pm cdv ct oc : Value} {an od : Option Addr}
  {osl : Array (Option Value)} {N ps : List Str} {sp : Sp} (lk : K.lookup f = some ⟨oc, od, .func (Zce name qual params body scope dV kV doc pm an cdv ct), osl⟩) (hcd : Zcf K cdv qual = true) (S : Zdf N ps scope)
  (len : ∀ vs H Q E, sp vs H Q E -> vs.length = ps.length)
  (hbody : ∀ (A : Around) (outer : List Env) (s : Shared) (H : Hp) (vs : List V) (Q : VK) (E : XK), ZgS k (A.deeper (envOfC qual scope s.heap.objs.size f cdv)) -> sp vs H Q E ->
   ∃ t, PSs (ZjP CX P w K mg base N qual scope f cdv A outer s H E) body t /\ t { nx := fun _ H' => Q .non H', rt := Q } (ZgZ N vs) H) :
  ZdK P w K mg base CX (k + 1) f (Zce name qual params body scope dV kV doc pm an cdv ct) ps sp := by
 refine ⟨len, fun A outer s H args us vs Q E hr e0 hb r hsp => ?_⟩
 have hl := len _ _ _ _ hsp
 have KX : K.In s.heap := e0.mod.kin.keeps fun b o e => (e0.bs b o e).1
 have lim : s.heap.NoLimit := e0.mod.nolimit.keeps fun b o e => (e0.bs b o e).1
 have hkind : ∀ y ∈ ps.zip us, scope.names.lookup y.1 = some .local \/ (scope.names.lookup y.1 = some .cell /\ ((cellsFrom (s.heap.objs.size + 1) scope.names []).lookup y.1).isSome = true) := fun ⟨n, v⟩ hy => by
  rcases S.par n (Zat hy).1 with q | q
  ·exact .inl q
  ·exact .inr ⟨q, Zcd _ _ _ (.inl q)⟩
 refine codeAny_call_function hr.depth (KX _ _ lk) rfl S.co S.gen rfl (Zcg KX hcd) (hb _ _ _ _ ?_)
 refine wpAny_newFunctionEnv_cells S.kind hkind fun env he s1 x => ?_
 subst he
 refine ⟨lim.keeps x.toInCall.keep, codeAny_func ?_⟩
 obtain ⟨t, ht, hq⟩ := hbody A outer s H vs Q E (hr.deeper _) hsp
 have I : Inv (ZjP CX P w K mg base N qual scope f cdv A outer s H E) [] (ZgZ N vs) H s1 := ZiZ S hr.hd e0 hl r x
 refine wpAny_mono (ht [] s1 (ZgZ N vs) H _ I hq) (fun fl s' hs => ?_) fun e s' hs => hs
 have fin : ∀ {σ' : St} {H' : Hp} {v : V} {u : Value}, Inv (ZjP CX P w K mg base N qual scope f cdv A outer s H E) [] σ' H' s' -> Zel v u -> Q v H' -> CE outer P w H s Q u s' :=
  fun {σ' H' v u} J rv q => ⟨v, H', J.os, J.bare, J.base, J.hok, rv, q⟩
 cases fl with
 | ret u =>
  obtain ⟨v, σ', H', J, rv, q⟩ := hs
  exact fin J rv q
 | next =>
  obtain ⟨σ', H', J, q⟩ := hs
  exact fin (v := V.non) (u := Value.none) J rfl q
 | brk =>
  obtain ⟨_, _, _, q⟩ := hs
  exact False.elim q
 | cont =>
  obtain ⟨_, _, _, q⟩ := hs
  exact False.elim q
end L2.Internal
namespace L2.Internal
open PySem PySem.Spec PyProof.Rows
section
variable {X : Cx} {x : Str} {p pos : Pos} {e : Expr} {es : List Expr} {t : TA} {id T : String} {r : List V -> Hp -> VK -> Prop}
noncomputable def tCB (r : List V -> Hp -> VK -> Prop) (t : TA) : TE := fun σ H Q => t σ H fun vs H1 => r vs H1 Q
theorem Zc3 (hc : Zgj X (.builtin id) r) (hg : Gl X x) (hm : X.mg x = none) (hv : bootBuiltins x = some (.builtin id)) (ha : PA X (e :: es) t) (hn : autoParam (x ≠ "__name__") L2.Internal.auD._auto_1) (hdb : autoParam ((x == ("__debug__" : Str)) = false) L2.Internal.auD._auto_1)
  (he : autoParam (starEach (e :: es) X.env = (false, eval e X.env) :: starEach es X.env) L2.Internal.auR._auto_1) (hpl : autoParam ((backTo pos (starEach es X.env)).any (·.1) = false) L2.Internal.auR._auto_1) : PE X (.Call (.Name x p) (e :: es) [] pos) (tCB r t) := by
 intro pins s σ H Q I h
 refine wpAny_Call_Name_kw (Zhg I hg hm hv ?_ hn hdb)
 exact PyProof.Rows.callWith_builtin1 (thn (ha pos pins s σ H _ I h) fun us s1 ⟨vs, H1, I1, r1, q1⟩ => hc pins s1 σ H1 vs us Q I1 r1 q1) he hpl
theorem Zdm (hc : Zgj X (.type T) r) (hg : Gl X x) (hm : X.mg x = none) (hv : bootBuiltins x = some (.type T)) (ha : PA X (e :: es) t) (hn : autoParam (x ≠ "__name__") L2.Internal.auD._auto_1) (hdb : autoParam ((x == ("__debug__" : Str)) = false) L2.Internal.auD._auto_1)
  (he : autoParam (starEach (e :: es) X.env = (false, eval e X.env) :: starEach es X.env) L2.Internal.auR._auto_1) (hpl : autoParam ((backTo pos (starEach es X.env)).any (·.1) = false) L2.Internal.auR._auto_1) : PE X (.Call (.Name x p) (e :: es) [] pos) (tCB r t) := by
 intro pins s σ H Q I h
 refine wpAny_Call_Name_kw (Zhg I hg hm hv ?_ hn hdb)
 exact ZcP (thn (ha pos pins s σ H _ I h) fun us s1 ⟨vs, H1, I1, r1, q1⟩ => hc pins s1 σ H1 vs us Q I1 r1 q1) he hpl
end
end L2.Internal
namespace L2.Internal
open PySem PySem.Spec PyProof.Rows
section
variable {κ : Type} [DecidableEq κ]
noncomputable def Zhk (kvs : List (κ × V)) (k : κ) : Option V := (kvs.find? fun kv => decide (kv.1 = k)).map (·.2)
noncomputable def Zq5 (kvs : List (κ × V)) (k : κ) (v : V) : List (κ × V) :=
 if (kvs.any fun kv => decide (kv.1 = k)) = true then kvs.map (fun kv => if kv.1 = k then (kv.1, v) else kv) else kvs ++ [(k, v)]
theorem ZmX {p : κ × V} {r : List (κ × V)} {k : κ} (e : p.1 = k) : Zhk (p :: r) k = some p.2 := by simp [Zhk, ZaC, e]
theorem ZmY {p : κ × V} {r : List (κ × V)} {k : κ} (e : ¬ p.1 = k) : Zhk (p :: r) k = Zhk r k := by simp [Zhk, ZaC, e]
theorem Zkn.isSome_eq {o : Option V} {u : Option Value} (r : Zkn o u) : o.isSome = u.isSome := by
 cases o with
 | none => cases u with
  | none => rfl
  | some _ => exact (show False from r).elim
 | some _ => cases u with
  | none => exact (show False from r).elim
  | some _ => rfl
theorem KV.val {kvs : List (κ × V)} {vs : List (κ × Value)} (r : KV kvs vs) (k : κ) : Zkn (Zhk kvs k) (valueAt vs k) := by
 unfold KV at r
 induction r with
 | nil => exact True.intro
 | @cons p q ps qs h t ih =>
  obtain ⟨h1, h2⟩ := h
  by_cases e : p.1 = k
  ·have e' : q.1 = k := h1.symm.trans e
   have b : valueAt (q :: qs) k = some q.2 := by simp [valueAt, ZaC, e']
   rw [ZmX e, b]; exact h2
  ·have e' : ¬ q.1 = k := fun z => e (h1.trans z)
   have b : valueAt (q :: qs) k = valueAt qs k := by simp [valueAt, ZaC, e']
   rw [ZmY e, b]; exact ih
end
theorem ZpH {P : Program} {w : World} {k : Key} {u : Value} (r : Zel (kV k) u) : (ZfE P w).is k u = true := by
 cases k with
 | inl i => obtain ⟨t, e⟩ := (show ∃ t, u = Value.int i t from r); subst e; exact ZjI P w i t
 | inr x => obtain ⟨t, e⟩ := (show ∃ t, u = Value.str x t from r); subst e; exact ZjJ P w x t
section
variable {P : Program} {w : World} {H : Hp} {h : Heap} {a : Addr}
theorem Zq6 {u : HO} (ok : HOk P w H h) (e : Rd H a u) : ZeV P w H h a u := e.ok ok
theorem Zq7 {kvs : List (Key × V)} (ok : HOk P w H h) (e : Rd H a (.dK kvs)) : kvs.length <= sizeLine /\ (a == sysModules) = false /\ ∃ vs, KV kvs vs /\ h.DictOf (ZfE P w) a vs :=
 show ZeV P w H h a (.dK kvs) from Zq6 ok e
theorem ZpI {kvs : List (Key × V)} (ok : HOk P w H h) (e : H a = some (.dK kvs)) : kvs.length <= sizeLine /\ (a == sysModules) = false /\ ∃ vs, KV kvs vs /\ h.DictOf (ZfE P w) a vs := Zq7 ok (.inl e)
end
noncomputable def ZrM (H : Hp) (a : Addr) (y : V) (r : Option V) : Prop :=
 (∃ kvs k, Rd H a (.dK kvs) /\ y = kV k /\ r = Zhk kvs k) \/ ∃ kvs k b, Rd H a (.dT kvs) /\ y = .ref b /\ H b = some (.tup (k.map kV)) /\ r = Zhk kvs k
noncomputable def ZrN (H : Hp) (a : Addr) (y v : V) (H' : Hp) : Prop :=
 (∃ kvs k, H a = some (.dK kvs) /\ y = kV k /\ kvs.length < sizeLine /\ H' = upd H a (.dK (Zq5 kvs k v))) \/
 ∃ kvs k b, H a = some (.dT kvs) /\ y = .ref b /\ H b = some (.tup (k.map kV)) /\ kvs.length < sizeLine /\ H' = upd H a (.dT (Zq5 kvs k v))
theorem ZrM.k {H : Hp} {a : Addr} {kvs : List (Key × V)} {k : Key} (e : H a = some (.dK kvs)) : ZrM H a (kV k) (Zhk kvs k) := .inl ⟨kvs, k, .inl e, rfl, rfl⟩
theorem ZrN.k {H : Hp} {a : Addr} {kvs : List (Key × V)} {k : Key} {v : V} (e : H a = some (.dK kvs)) (hl : kvs.length < sizeLine) : ZrN H a (kV k) v (upd H a (.dK (Zq5 kvs k v))) := .inl ⟨kvs, k, e, rfl, hl, rfl⟩
section
variable {X : Cx} {pins : List (Addr × Obj)} {σ : St} {H : Hp} {s : Shared} {a : Addr} {y v : V} {u r : Value} {o : Option V} {A : Around} {E : Value -> Shared -> Prop}
end
section
variable {X : Cx} {pins : List (Addr × Obj)} {σ : St} {H : Hp} {s : Shared} {a : Addr} {kvs : List (Key × V)} {k : Key} {u : Value} {A : Around} {E : Value -> Shared -> Prop}
end
noncomputable def ZrO (i : Expr) : Prop := ∀ ov iv, subscripted i false ov iv = operate [ov, iv] (getItem ov iv)
theorem Zov {prog : Program} {w : World} {A : Around} {E : Value -> Shared -> Prop} {s : Shared} {env : Env} {value slice : Expr} {pos : Pos} {T id : String} {Q : Value -> Shared -> Prop}
  (hl : typeLookup (.type T) "__getitem__" = pure (some (.builtin id))) (hs : ZrO slice)
  (h : wpAny (model prog w) A (eval value env) (fun o s₁ => wpAny (model prog w) A (eval slice env) (fun i s₂ => s₂.TypeIs o T /\ wpAny (model prog w) A (getItem o i) Q E s₂) E s₁) E s) :
  wpAny (model prog w) A (eval (.Subscript value slice pos) env) Q E s := by
 refine Subscript_ (wpAny_mono h (fun o s₁ h₁ => wpAny_mono h₁ (fun i s₂ h₂ => ?_) fun _ _ x => x) fun _ _ x => x)
 obtain ⟨hT, h₂⟩ := h₂
 unfold subscriptTail
 refine wpAny_bind ?_
 rw [getitemInPython_of_ne hT.not_modules]
 refine wpAny_bind (wpAny_specialOf hT hl ?_)
 have fin : wpAny (model prog w) A (subscripted slice false o i) (fun r s₃ => wpAny (model prog w) A (letTemporaryGo value o r >>= fun _ => pure r) Q E s₃) E s₂ := by
  rw [hs o i]
  exact wpAny_operating (wpAny_mono h₂ (fun r s₃ h₃ => wpAny_bind (wpAny_letTemporaryGo (wpAny_pure h₃))) fun _ _ x => x)
 first
  | exact wpAny_pure (wpAny_bind fin)
  | exact wpAny_bind (wpAny_pure (wpAny_bind fin))
  | exact wpAny_bind fin
section
variable {X : Cx} {o i e value : Expr} {pos pos' tpos : Pos} {td ty tv : TE}
end
section
variable {X : Cx} {pos : Pos}
end
structure M1 (X : Cx) (o : Expr) (m : Str) (apos : Pos) (e : Expr) (cpos : Pos) : Prop where
 base : attributeBase o m X.env (eval o X.env) = eval o X.env
 few : ((backTo cpos (starEach [e] X.env)).all (fun x => !x.1) && (backToKw cpos (keywordEach [] X.env)).all (fun x => x.1.isSome)
  && decide (([e] : List Expr).length + ([] : List Keyword).length + (if ([] : List Keyword).isEmpty then 0 else 1) < 30)) = true
 line : (apos.endLine == cpos.line) = true
 trees : backTo cpos (starEach [e] X.env) = [(false, eval e X.env)]
structure M2 (X : Cx) (o : Expr) (m : Str) (apos : Pos) (e f : Expr) (cpos : Pos) : Prop where
 base : attributeBase o m X.env (eval o X.env) = eval o X.env
 few : ((backTo cpos (starEach [e, f] X.env)).all (fun x => !x.1) && (backToKw cpos (keywordEach [] X.env)).all (fun x => x.1.isSome)
  && decide (([e, f] : List Expr).length + ([] : List Keyword).length + (if ([] : List Keyword).isEmpty then 0 else 1) < 30)) = true
 line : (apos.endLine == cpos.line) = true
 trees : backTo cpos (starEach [e, f] X.env) = [(false, eval e X.env), (false, eval f X.env)]
section
variable {X : Cx} {pins : List (Addr × Obj)} {σ : St} {H : Hp} {s : Shared} {a : Addr} {y d : V} {u r : Value} {o : Option V} {A : Around} {E : Value -> Shared -> Prop}
end
section
variable {X : Cx} {o e f : Expr} {apos cpos : Pos} {td ty tx : TE}
end
section
variable {X : Cx} {pins : List (Addr × Obj)} {σ : St} {H : Hp} {s : Shared} {a : Addr} {kvs : List (Key × V)} {A : Around} {E : Value -> Shared -> Prop}
end
section
variable {X : Cx} {pins : List (Addr × Obj)} {σ : St} {H : Hp} {s : Shared} {a : Addr} {y : V} {u : Value} {A : Around} {E : Value -> Shared -> Prop}
end
end L2.Internal
namespace HT.Internal
open PySem PyProof.Rows
section
open PySem.SeqAt
open PySem.AutoSeq1 (wpAny_loadPart')
open PySem.MeetsSeq PySem.MeetsSeq2 PySem.MeetsSeq3
end
section
variable {prog : Program} {w : World} {A : Around} {E : Value -> Shared -> Prop} {s : Shared}
theorem cat_tup {t b : Addr} {vs ws : List Value} {Q : Value -> Shared -> Prop} (ht : IsTup s.heap t vs.toArray) (hb : IsTup s.heap b ws.toArray) (hv : vs ≠ [])
  (h1 : ws = [] -> Q (.ref t) s) (h2 : ws ≠ [] -> Q (.ref s.heap.objs.size) { s with heap := s.heap.push { cls := .type "tuple", data := .seq (vs ++ ws).toArray } })
  (hsz : vs.length + ws.length <= sizeLine) : wpAny (model prog w) A (binaryOp .Add (.ref t) (.ref b)) Q E s := by
 obtain ⟨⟨cls, dd, data, sl⟩, ho, hc, n, hd⟩ := id ht
 obtain ⟨⟨cls2, dd2, data2, sl2⟩, ho2, hc2, n2, hd2⟩ := id hb
 simp only at hc hd hc2 hd2
 subst hc hd hc2 hd2
 have e : vs.toArray ++ ws.toArray = (vs ++ ws).toArray := by simp
 by_cases hw : ws = []
 ·exact concat_meets ⟨_, ho, rfl⟩ ⟨_, ho2, rfl⟩ noFill_tuple_add seq_tuple_add Zcl Zcm (Zcn _ _)
   (tuple_addW1 t b vs.toArray ws.toArray n n2 dd dd2 sl sl2 (by simpa using hv) (by simp [hw])) ⟨ho, ho2, h1 hw⟩
 ·refine concat_meets ⟨_, ho, rfl⟩ ⟨_, ho2, rfl⟩ noFill_tuple_add seq_tuple_add Zcl Zcm (Zcn _ _)
   (tuple_addW2 t b vs.toArray ws.toArray n n2 dd dd2 sl sl2 (by simpa using hv) (by simpa using hw) (by rw [ZaD, ZaD]; exact hsz)) ⟨ho, ho2, ?_⟩
  rw [e]
  exact h2 hw
noncomputable def sIx (n d : Nat) : Option Int -> Nat
 | none => d
 | some v => if v < 0 then (v + (n : Int)).toNat else min v.toNat n
theorem sIx_none (n d : Nat) : sIx n d none = d := rfl
theorem sIx_nat (n d k : Nat) : sIx n d (some (k : Int)) = min k n := by
 show (if (k : Int) < 0 then ((k : Int) + (n : Int)).toNat else min (k : Int).toNat n) = min k n
 rw [if_neg (by omega), ZcG]
theorem ZpJ (n d : Nat) (hd : d <= n) (o : Option Int) : sIx n d o <= n := by
 cases o with
 | none => exact hd
 | some v =>
  show (if v < 0 then (v + (n : Int)).toNat else min v.toNat n) <= n
  by_cases hv : v < 0
  ·rw [if_pos hv]; omega
  ·rw [if_neg hv]; exact Nat.min_le_right _ _
theorem ZlU (v : Int) (n d : Nat) : (if v < 0 then max (v + (n : Int)) 0 else min v (n : Int)) = ((sIx n d (some v) : Nat) : Int) := by
 show (if v < 0 then max (v + (n : Int)) 0 else min v (n : Int)) = (((if v < 0 then (v + (n : Int)).toNat else min v.toNat n) : Nat) : Int)
 by_cases hv : v < 0
 ·simp only [if_pos hv]; omega
 ·simp only [if_neg hv]; omega
theorem Zlc (lo hi : Option Int) (n : Nat) : Builtin.Slice.sliceAdjust lo hi 1 (n : Int) = (((sIx n 0 lo : Nat) : Int), ((sIx n n hi : Nat) : Int)) := by
 have h1 : ¬ ((1 : Int) < 0) := by omega
 unfold Builtin.Slice.sliceAdjust
 simp only [h1, if_false]
 refine Prod.ext ?_ ?_
 ·cases lo with
  | none => rfl
  | some v => exact ZlU v n 0
 ·cases hi with
  | none => rfl
  | some v => exact ZlU v n n
theorem Zld (i j : Nat) : Builtin.Slice.slicePlaces (i : Int) (j : Int) 1 = j - i := by
 unfold Builtin.Slice.slicePlaces
 have h1 : (1 : Int) > 0 := by omega
 simp only [h1, if_true, Int.ediv_one]
 split <;> omega
theorem Zh6 {v : Value} {o : Option Int} {Q : Option Int -> Shared -> Prop} (p : IsPart v o) (h : Q o s) : wpAny (model prog w) A (Builtin.Slice.slicePartIndex v) Q E s := by
 cases p with
 | none => exact slicePart_none h
 | int i t => exact slicePart_int h
theorem Zg0 {sl : Addr} {vl vu : Value} {lo hi : Option Int} {n : Nat} {Q : Int × Int × Nat -> Shared -> Prop} (hs : s.heap.IsSliceOf sl vl vu .none) (pl : IsPart vl lo) (pu : IsPart vu hi)
  (h : Q (((sIx n 0 lo : Nat) : Int), 1, sIx n n hi - sIx n 0 lo) s) : wpAny (model prog w) A (Builtin.Slice.sliceApplied (.ref sl) (pure (n : Int))) Q E s := by
 obtain ⟨os, hos, hcs, hds⟩ := id hs
 unfold Builtin.Slice.sliceApplied Builtin.Slice.sliceFields
 refine wpAny_bind (wpAny_bind (wpAny_field hos hds (x := vl) rfl (wpAny_bind (wpAny_field hos hds (x := vu) rfl (wpAny_bind (wpAny_field hos hds (x := .none) rfl (wpAny_pure ?_)))))))
 refine wpAny_bind (slicePart_none ?_)
 show wpAny _ _ (if ((1 : Int) == 0) = true then _ else _) _ _ s
 rw [if_neg (by decide)]
 refine wpAny_bind (Zh6 pl (wpAny_bind (Zh6 pu (wpAny_bind (wpAny_pure ?_)))))
 show wpAny _ _ (match Builtin.Slice.sliceAdjust lo hi 1 (n : Int) with | (lo, hi) => pure (lo, (1 : Int), Builtin.Slice.slicePlaces lo hi 1)) _ _ s
 rw [Zlc lo hi n]
 show wpAny _ _ (pure (((sIx n 0 lo : Nat) : Int), (1 : Int), Builtin.Slice.slicePlaces ((sIx n 0 lo : Nat) : Int) ((sIx n n hi : Nat) : Int) 1)) _ _ s
 rw [Zld]
 exact wpAny_pure h
theorem ZmZ (xs : Array Value) (i k : Nat) : ((Zaa k).filterMap fun (m : Nat) => xs[((i : Int) + (m : Int) * 1).toNat]?).toArray = ((xs.toList.drop i).take k).toArray := by
 have e : (fun (m : Nat) => xs[((i : Int) + (m : Int) * 1).toNat]?) = fun m => xs[i + m]? := by
  funext m
  have : ((i : Int) + (m : Int) * 1).toNat = i + m := by omega
  rw [this]
 rw [e]
 have := pick_run xs i k
 rw [List.filterMap_map] at this
 have e2 : ((fun x => xs[x]?) ∘ fun x => i + x) = fun m => xs[i + m]? := rfl
 rw [e2] at this
 rw [this]
theorem getItem_tuple_cut {t sl : Addr} {items : Array Value} {vl vu : Value} {lo hi : Option Int} {Q : Value -> Shared -> Prop} (ht : IsTup s.heap t items) (hs : s.heap.IsSliceOf sl vl vu .none) (pl : IsPart vl lo) (pu : IsPart vu hi)
  (hw : ¬ (sIx items.size 0 lo = 0 /\ sIx items.size items.size hi = items.size))
  (h : Q (.ref s.heap.objs.size) { s with heap := s.heap.push { cls := .type "tuple", data := .seq ((items.toList.drop (sIx items.size 0 lo)).take (sIx items.size items.size hi - sIx items.size 0 lo)).toArray } })
  (hsz : items.size <= sizeLine) : wpAny (model prog w) A (getItem (.ref t) (.ref sl)) Q E s := by
 have htake : sizeOk (.seq ((items.toList.drop (sIx items.size 0 lo)).take (sIx items.size items.size hi - sIx items.size 0 lo)).toArray) := by
  show ((items.toList.drop (sIx items.size 0 lo)).take (sIx items.size items.size hi - sIx items.size 0 lo)).toArray.size <= sizeLine
  rw [ZaD, Zav, ZaE, ZcC]
  omega
 have hj : sIx items.size items.size hi <= items.size := ZpJ _ _ (Zbz _) hi
 obtain ⟨os, hos, hcs, hds⟩ := id hs
 have hTs : s.TypeIs (.ref sl) "slice" := ⟨os, hos, hcs⟩
 unfold getItem
 try with_reducible refine wpAny_holding ?_
 first | refine wpAny_bind (wpAny_pure ?_) | skip
 refine wpAny_bind (wpAny_sequenceKey ht.typeIs (by decide) ?_)
 refine wpAny_bind (wpAny_callSpecial?_slot (name := Str.ofString "__getitem__") ht.typeIs ZcQ
  (wpAny_call_entry ZcQ ht.typeIs entry_tuple_getitem ?_ (args_tuple_getitem _ _)))
 show wpAny _ _ (Builtin.Tuple.tupleItemsOf (.ref t) >>= _) _ _ s
 refine wpAny_bind (tupleItemsOf_ ht ?_)
 refine wpAny_bind (wpAny_typeOf hTs ?_)
 rw [if_pos (by decide)]
 refine wpAny_bind (Zg0 hs pl pu ?_)
 have hno : ¬ ((((sIx items.size 0 lo : Nat) : Int) == 0 && (1 : Int) == 1 && (sIx items.size items.size hi - sIx items.size 0 lo) == items.size) = true) := by
  intro q
  rw [Zcy, Zcy] at q
  have q1 : ((sIx items.size 0 lo : Nat) : Int) = 0 := eq_of_beq q.1.1
  have q2 : sIx items.size items.size hi - sIx items.size 0 lo = items.size := eq_of_beq q.2
  exact hw ⟨by omega, by omega⟩
 show wpAny _ _ (if (((sIx items.size 0 lo : Nat) : Int) == 0 && (1 : Int) == 1 && (sIx items.size items.size hi - sIx items.size 0 lo) == items.size) = true then _ else _) _ _ s
 rw [if_neg hno, ZmZ]
 first
  | exact wpAny_bind (m := Builtin.Tuple.tupleExact _) (wpAny_newObj_type (wpAny_pure ⟨_, rfl, wpAny_pure h⟩) htake)
  | exact wpAny_bind (m := Builtin.Tuple.tupleExact _) (wpAny_newObj_type (wpAny_bind (wpAny_pure (wpAny_pure ⟨_, rfl, wpAny_pure h⟩))) htake)
  | exact wpAny_bind (wpAny_bind (m := Builtin.Tuple.tupleExact _) (wpAny_newObj_type (wpAny_pure (wpAny_pure ⟨_, rfl, wpAny_pure h⟩)) htake))
  | exact wpAny_bind (wpAny_bind (m := Builtin.Tuple.tupleExact _) (wpAny_newObj_type (wpAny_pure ⟨_, rfl, wpAny_pure h⟩) htake))
end
end HT.Internal
namespace L2.Internal
open PySem PySem.Spec PyProof.Rows
noncomputable abbrev TO := St -> Hp -> (Option Int -> Hp -> Prop) -> Prop
noncomputable def PO (X : Cx) (e : Option Expr) (t : TO) : Prop :=
 ∀ (pins : List (Addr × Obj)) (s : Shared) (σ : St) (H : Hp) (Q : Option Int -> Hp -> Prop), Inv X pins σ H s -> t σ H Q ->
  wpAny (model X.prog X.w) X.A (evalPart e X.env) (fun u s' => ∃ o H', Inv X pins σ H' s' /\ IsPart u o /\ Q o H') X.xe s
noncomputable def Zow : TO := fun _ H Q => Q none H
noncomputable def Zq8 (t : TE) : TO := fun σ H Q => t σ H fun x H1 => ∃ i, x = .int i /\ Q (some i) H1
theorem ZgH {ns : List Int} : ∀ {us : List Value}, ZdT (ns.map V.int) us -> IntsAre us ns := by
 induction ns with
 | nil => intro us r; rw [ZaF] at r; cases r; exact .nil
 | cons n ns ih =>
  intro us r
  rw [Zap] at r
  cases r with
  | cons r1 r2 =>
   obtain ⟨t, e⟩ := r1
   subst e
   exact .cons n t (ih r2)
section
variable {X : Cx} {e : Expr} {te : TE} {lo hi : Option Expr} {tl th : TO} {pos p2 : Pos}
theorem Ziq : PO X none Zow := by
 intro pins s σ H Q I h
 rw [evalPart_none]
 exact wpAny_pure ⟨none, H, I, .none, h⟩
theorem Zir (h : PE X e te) : PO X (some e) (Zq8 te) := by
 intro pins s σ H Q I hw
 rw [evalPart_some]
 refine thn (h pins s σ H _ I hw) fun u s1 ⟨x, H1, I1, r1, q1⟩ => ?_
 obtain ⟨i, rfl, q⟩ := q1
 obtain ⟨t, rfl⟩ := r1
 exact ⟨some i, H1, I1, .int i t, q⟩
noncomputable def SlR (X : Cx) (r : V -> Option Int -> Option Int -> Hp -> VK -> Prop) : Prop :=
 ∀ (pins : List (Addr × Obj)) (s : Shared) (σ : St) (H : Hp) (x : V) (v vl vu : Value) (lo hi : Option Int) (sl : Addr) (Q : VK), Inv X pins σ H s -> Zel x v -> s.heap.IsSliceOf sl vl vu .none -> IsPart vl lo -> IsPart vu hi -> r x lo hi H Q ->
  ∃ T id, typeLookup (.type T) "__getitem__" = pure (some (.builtin id)) /\ s.TypeIs v T /\ wpAny (model X.prog X.w) X.A (getItem v (.ref sl)) (EP X pins σ Q) X.xe s
noncomputable def tSl (r : V -> Option Int -> Option Int -> Hp -> VK -> Prop) (te : TE) (tl th : TO) : TE := fun σ H Q => te σ H fun x H1 => tl σ H1 fun l H2 => th σ H2 fun u H3 => r x l u H3 Q
theorem Zg6 {r : V -> Option Int -> Option Int -> Hp -> VK -> Prop} (hr : SlR X r) (he : PE X e te) (hl : PO X lo tl) (hu : PO X hi th) : PE X (.Subscript e (.Slice lo hi none p2) pos) (tSl r te tl th) := by
 intro pins s σ H Q I h
 refine Subscript_ (thn (he pins s σ H _ I h) fun v s1 ⟨x, H1, I1, r1, q1⟩ => ?_)
 refine wpAny_Slice (thn (hl pins s1 σ H1 _ I1 q1) fun vl s2 ⟨l, H2, I2, pl, q2⟩ => thn (hu pins s2 σ H2 _ I2 q2) fun vu s3 ⟨u, H3, I3, pu, q3⟩ => ?_)
 rw [evalPart_none]
 refine wpAny_pure ?_
 have I4 : Inv X pins σ H3 { s3 with heap := s3.heap.push { cls := .type "slice", data := .fields #[vl, vu, .none] } } := I3.kept (t' := s3.toks) fun b ob q => ZcM _ q
 obtain ⟨T, id, hT, ht, hg⟩ := hr pins { s3 with heap := s3.heap.push { cls := .type "slice", data := .fields #[vl, vu, .none] } } σ H3 x v vl vu l u s3.heap.objs.size Q I4 r1 (Heap.IsSliceOf.new ..) pl pu q3
 show wpAny (model X.prog X.w) X.A (subscriptTail e (.Slice lo hi none p2) v (.ref s3.heap.objs.size)) (EP X pins σ Q) X.xe { s3 with heap := s3.heap.push { cls := .type "slice", data := .fields #[vl, vu, .none] } }
 exact tail_any (ops := [.ref s3.heap.objs.size, v]) ht hT hg (by with_unfolding_all rfl)
noncomputable def Zi0 (xs : List V) (lo hi : Option Int) : List V := (xs.drop (HT.Internal.sIx xs.length 0 lo)).take (HT.Internal.sIx xs.length xs.length hi - HT.Internal.sIx xs.length 0 lo)
theorem Zhl (xs : List V) (lo hi : Option Int) : (Zi0 xs lo hi).length <= xs.length := by
 unfold Zi0
 rw [Zav, ZaE]
 omega
noncomputable def rSlT (K : PySem.W.Frag) : V -> Option Int -> Option Int -> Hp -> VK -> Prop := fun x lo hi H Q => ∃ a xs, x = .ref a /\ SqT K H a xs /\
 ¬ (HT.Internal.sIx xs.length 0 lo = 0 /\ HT.Internal.sIx xs.length xs.length hi = xs.length) /\ ∀ p, H p = none -> Q (.ref p) (upd H p (.tup (Zi0 xs lo hi)))
theorem ZpK : SlR X (rSlT X.K) := by
 intro pins s σ H x v vl vu lo hi sl Q I rx hs pl pu h
 obtain ⟨a, xs, rfl, hx, hw, q⟩ := h
 cases rx
 obtain ⟨its, r, ht, hz⟩ := I.tuple hx
 have hlen : its.toArray.size = xs.length := by rw [ZaD]; exact r.length.symm
 refine ⟨"tuple", _, ZcQ.lookup, ht.typeIs, ?_⟩
 refine HT.Internal.getItem_tuple_cut ht hs pl pu (by rw [hlen]; exact hw) ?_ (by rw [hlen]; exact hz)
 rw [hlen]
 refine ⟨.ref s.heap.objs.size, _, I.laid (t' := s.toks) (o := .tup (Zi0 xs lo hi)) (fun b ob q => ZcM _ q) (Zbz _) ?_, rfl, q _ (I.hok.fresh (Zbz _))⟩
 exact ⟨Zbw (Zhl xs lo hi) hz, _, (r.drop (HT.Internal.sIx xs.length 0 lo)).take (HT.Internal.sIx xs.length xs.length hi - HT.Internal.sIx xs.length 0 lo), Zlz.new _ _⟩
noncomputable def Zq9 (K : PySem.W.Frag) : R2 := fun x y H Q => ∃ a b xs ys, x = .ref a /\ y = .ref b /\ SqT K H a xs /\ SqT K H b ys /\ xs ≠ [] /\ xs.length + ys.length <= sizeLine /\
 (ys = [] -> Q (.ref a) H) /\ (ys ≠ [] -> ∀ p, H p = none -> Q (.ref p) (upd H p (.tup (xs ++ ys))))
theorem ZdT.nil_iff {xs : List V} {us : List Value} (r : ZdT xs us) : us = [] ↔ xs = [] := by
 cases r with
 | nil => simp
 | cons _ _ => simp
theorem Zox : OpR X (binaryOp .Add) (Zq9 X.K) := by
 intro pins s σ H x y v u Q I rx ry h
 obtain ⟨a, b, xs, ys, rfl, rfl, ha, hb, hx, hz, q1, q2⟩ := h
 cases rx
 cases ry
 obtain ⟨its, r1, p1, _⟩ := I.tuple ha
 obtain ⟨its2, r2, p2, _⟩ := I.tuple hb
 refine HT.Internal.cat_tup p1 p2 (fun z => hx (r1.nil_iff.mp z)) (fun z => ⟨.ref a, H, I, rfl, q1 (r2.nil_iff.mp z)⟩) (fun z => ?_) (by rw [<- r1.length, <- r2.length]; exact hz)
 refine ⟨.ref s.heap.objs.size, _, I.laid (t' := s.toks) (o := .tup (xs ++ ys)) (fun b ob q => ZcM _ q) (Zbz _) ?_, rfl, q2 (fun w => z (r2.nil_iff.mpr w)) _ (I.hok.fresh (Zbz _))⟩
 exact ⟨by rw [ZaA]; exact hz, _, r1.append r2, Zlz.new _ _⟩
end
end L2.Internal
namespace L2.Internal
open PySem PySem.Spec PyProof.Rows
noncomputable def ixN (n : Nat) (i : Int) : Option Nat := if 0 <= i then (if i < n then some i.toNat else none) else if -(n : Int) <= i then some (i + n).toNat else none
noncomputable def atI {α : Type} (xs : List α) (i : Int) : Option α := (ixN xs.length i).bind fun j => xs[j]?
theorem ZlV {n : Nat} {i : Int} {j : Nat} (h : ixN n i = some j) : seqIndex? i n = some j /\ j < n /\ -(n : Int) <= i /\ i < n := by
 unfold ixN at h
 by_cases h0 : 0 <= i
 ·rw [if_pos h0] at h
  by_cases h1 : i < n
  ·rw [if_pos h1] at h
   have e : i.toNat = j := ZbM.inj h
   exact ⟨by rw [seqIndex_of h0 h1, e], by omega, by omega, h1⟩
  ·rw [if_neg h1] at h; cases h
 ·rw [if_neg h0] at h
  by_cases h1 : -(n : Int) <= i
  ·rw [if_pos h1] at h
   have e : (i + n).toNat = j := ZbM.inj h
   exact ⟨by rw [seqIndex_neg (by omega) h1, e], by omega, h1, by omega⟩
  ·rw [if_neg h1] at h; cases h
theorem ZjQ {α : Type} {xs : List α} {i : Int} {v : α} (h : atI xs i = some v) : ∃ j, seqIndex? i xs.length = some j /\ xs[j]? = some v /\ j < xs.length /\ -(xs.length : Int) <= i /\ i < xs.length := by
 unfold atI at h
 cases e : ixN xs.length i with
 | none => rw [e] at h; cases h
 | some j =>
  rw [e] at h
  obtain ⟨h1, h2, h3, h4⟩ := ZlV e
  exact ⟨j, h1, h, h2, h3, h4⟩
theorem Zdi {α : Type} {xs : List α} {j : Nat} {v : α} (h : xs[j]? = some v) : atI xs (j : Int) = some v := by
 have hj : j < xs.length := (Zai.mp h).1
 have e : ixN xs.length (j : Int) = some j := by
  unfold ixN
  rw [if_pos (by omega), if_pos (by omega)]; simp
 unfold atI; rw [e]; exact h
theorem Zis {α : Type} (xs : List α) (v : α) : atI (xs ++ [v]) (-1) = some v := by
 have hl : (xs ++ [v]).length = xs.length + 1 := by simp
 have e : ixN (xs ++ [v]).length (-1) = some xs.length := by
  unfold ixN
  rw [hl, if_neg (by decide), if_pos (by omega)]
  congr 1
  omega
 unfold atI
 rw [e]
 show (xs ++ [v])[xs.length]? = some v
 simp
noncomputable def Zoy (b : Expr) : Prop := ∀ o i, subscripted b false o i = operate [o, i] (getItem o i)
noncomputable def IxR (X : Cx) (r : R2) : Prop :=
 ∀ (value slice : Expr) (pins : List (Addr × Obj)) (s : Shared) (σ : St) (H : Hp) (x y : V) (v u : Value) (Q : VK), Inv X pins σ H s -> Zel x v -> Zel y u -> r x y H Q ->
  subscripted slice false v u = operate [v, u] (getItem v u) -> wpAny (model X.prog X.w) X.A (subscriptTail value slice v u) (EP X pins σ Q) X.xe s
noncomputable def MtR (X : Cx) (id : String) (r : V -> List V -> Hp -> VK -> Prop) : Prop :=
 ∀ (pins : List (Addr × Obj)) (s : Shared) (σ : St) (H : Hp) (x : V) (xs : List V) (v : Value) (us : List Value) (Q : VK), Inv X pins σ H s -> Zel x v -> ZdT xs us -> r x xs H Q ->
  wpAny (model X.prog X.w) X.A (call (.builtin id) (v :: us)) (EP X pins σ Q) X.xe s
section
variable {X : Cx} {a b : Expr} {ta tb : TE} {pos : Pos}
theorem ZdR {r : R2} (hr : IxR X r) (ha : PE X a ta) (hb : PE X b tb) (hs : Zoy b) : PE X (.Subscript a b pos) (tOp r ta tb) := by
 intro pins s σ H Q I h
 exact Subscript_ (Zq0 ha hb I h fun v u s2 x y H2 I2 rx ry q => hr a b pins s2 σ H2 x y v u Q I2 rx ry q (hs _ _))
noncomputable def rIxL (K : PySem.W.Frag) : R2 := fun x y H Q => ∃ p xs i v, x = .ref p /\ y = .int i /\ SqL K H p xs /\ atI xs i = some v /\ Q v H
noncomputable def rIxT (K : PySem.W.Frag) : R2 := fun x y H Q => ∃ p xs i v, x = .ref p /\ y = .int i /\ SqT K H p xs /\ atI xs i = some v /\ Q v H
noncomputable def rIxS : R2 := fun x y H Q => ∃ z i c, x = .str z /\ y = .int i /\ z.length <= sizeLine /\ atI z.cps.toList i = some c /\ Q (.str ⟨#[c]⟩) H
theorem ZlW : IxR X (rIxL X.K) := by
 intro value slice pins s σ H x y v u Q I rx ry h hs
 obtain ⟨p, xs, i, z, rfl, rfl, hq, he, q⟩ := h
 cases rx
 obtain ⟨t, rfl⟩ := ry
 obtain ⟨its, r, pl, hz⟩ := I.list hq
 obtain ⟨j, h1, h2, h3, h4, h5⟩ := ZjQ he
 obtain ⟨w, ew, rw'⟩ := r.get h2
 have hl := r.length
 have hn := Zh0
 have fin : EP X pins σ Q w s := ⟨z, H, I, rw', q⟩
 by_cases h0 : 0 <= i
 ·have hj : i.toNat = j := by
   rw [seqIndex_of h0 h5] at h1
   exact ZbM.inj h1
  exact item_listR pl.isList h0 (by omega) (by rw [hj]; simpa using ew) fin hs
 ·have hj : (i + (its.toArray.size : Int)).toNat = j := by
   rw [seqIndex_neg (by omega) h4] at h1
   rw [ZaD, <- hl]
   exact ZbM.inj h1
  exact subscriptTail_builtinR (x := w) pl.isList.typeIs slot_list_getitem.lookup
   (wpAny_getItem_list_neg (Q := fun r s' => r = w /\ EP X pins σ Q r s') pl.isList (by omega) (by rw [ZaD] <;> omega) (by omega) (by rw [hj]; simpa using ew) ⟨rfl, fin⟩) hs
theorem ZpL : IxR X (rIxT X.K) := by
 intro value slice pins s σ H x y v u Q I rx ry h hs
 obtain ⟨p, xs, i, z, rfl, rfl, hq, he, q⟩ := h
 cases rx
 obtain ⟨t, rfl⟩ := ry
 obtain ⟨its, r, pl, hz⟩ := I.tuple hq
 obtain ⟨j, h1, h2, h3, h4, h5⟩ := ZjQ he
 obtain ⟨w, ew, rw'⟩ := r.get h2
 have hl := r.length
 have hn := Zh0
 have fin : EP X pins σ Q w s := ⟨z, H, I, rw', q⟩
 exact subscriptTail_builtinR (x := w) pl.typeIs slot_tuple_getitem.lookup
  (getItem_tuple (j := j) (Q := fun r s' => r = w /\ EP X pins σ Q r s') pl (by omega) (by omega) (by rw [ZaD, <- hl]; exact h1) (by simpa using ew) ⟨rfl, fin⟩) hs
theorem ZlX : IxR X rIxS := by
 intro value slice pins s σ H x y v u Q I rx ry h hs
 obtain ⟨z, i, c, rfl, rfl, hz, he, q⟩ := h
 obtain ⟨t, rfl⟩ := rx
 obtain ⟨t', rfl⟩ := ry
 obtain ⟨j, h1, h2, h3, h4, h5⟩ := ZjQ he
 have hl : z.cps.toList.length = z.length := by simp [Str.length]
 rw [hl] at h1 h4 h5
 have hn := Zh0
 exact tail_any (typeIs_str s z t) slot_str_getitem.lookup (getItem_str (c := c) (by
  have e1 : decide (i < -(2 ^ 63 : Int)) = false := decide_eq_false (by omega)
  have e2 : decide (i ≥ 2 ^ 63) = false := decide_eq_false (by omega)
  rw [e1, e2, Bool.or_false]) (by rw [h1]; simpa using h2) ⟨.str ⟨#[c]⟩, H, I.tok _, ⟨_, rfl⟩, q⟩) hs
theorem Zle (its : List Value) (n j : Nat) (u : Value) : Obj.mapSeq (·.setIfInBounds j u) { cls := .type "list", data := .seq its.toArray n } = { cls := .type "list", data := .seq (its.set j u).toArray n } := by
 simp [Obj.mapSeq]
theorem Inv.lst {pins : List (Addr × Obj)} {σ : St} {H : Hp} {s : Shared} {p : Addr} {xs : List V} (I : Inv X pins σ H s) (h : H p = some (.lst xs)) :
  ∃ (its : List Value) (n : Nat), ZdT xs its /\ s.heap.get? p = some { cls := .type "list", data := .seq its.toArray n } /\ xs.length <= sizeLine := by
 obtain ⟨z, its, n, r, e⟩ := I.hok p _ h
 exact ⟨its, n, r, e, z⟩
theorem Inv.lstUpd {pins : List (Addr × Obj)} {σ : St} {H : Hp} {s : Shared} {p : Addr} {xs ys : List V} {its its' : List Value} {n n' : Nat} {f : Obj -> Obj} (I : Inv X pins σ H s) (h : H p = some (.lst xs))
  (ho : s.heap.get? p = some { cls := .type "list", data := .seq its.toArray n }) (hf : f { cls := .type "list", data := .seq its.toArray n } = { cls := .type "list", data := .seq its'.toArray n' }) (r : ZdT ys its') (hz : ys.length <= sizeLine) (t : Nat) :
  Inv X pins σ (upd H p (.lst ys)) { s with heap := s.heap.update p f, toks := t } := by
 have e : (s.heap.update p f).get? p = some { cls := .type "list", data := .seq its'.toArray n' } := by
  rw [Heap.get?_update_self f ho (by rw [hf] <;> rfl), hf]
 refine I.write (x := p) (e := p) (by rw [h]; trivial) (.inl rfl) (fun b u hb q => (ZcO _ _ (Ne.symm hb)).trans q) ⟨_, e⟩ ?_
 exact ⟨hz, its', n', r, e⟩
noncomputable def Zra : V -> V -> V -> Hp -> (Hp -> Prop) -> Prop := fun o i v H Q => ∃ p xs k j, o = .ref p /\ i = .int k /\ H p = some (.lst xs) /\ ixN xs.length k = some j /\ Q (upd H p (.lst (xs.set j v)))
theorem Zg7 : ZrG X Zra := by
 intro pins s σ H o i v ov iv u Q I ro ri rv h
 obtain ⟨p, xs, k, j, rfl, rfl, hp, hj, q⟩ := h
 cases ro
 obtain ⟨t, rfl⟩ := ri
 obtain ⟨its, n, r, ho, hz⟩ := I.lst hp
 obtain ⟨h1, h2, h3, h4⟩ := ZlV hj
 have hl := r.length
 have hn := Zh0
 have I' : Inv X pins σ (upd H p (.lst (xs.set j v))) { s with heap := s.heap.update p (Obj.mapSeq (·.setIfInBounds j u)) } :=
  I.lstUpd hp ho (Zle its n j u) (r.set rv j) (by rw [ZaG]; exact hz) s.toks
 by_cases h0 : 0 <= k
 ·have hk : k.toNat = j := by
   rw [seqIndex_of h0 h4] at h1
   exact ZbM.inj h1
  exact PySem.W.ki_setAt ho h0 (by omega) (by rw [ZaD, <- hl]; exact h4) (by rw [hk]; exact ⟨_, I', q⟩)
 ·have hk : (k + (its.toArray.size : Int)).toNat = j := by
   rw [seqIndex_neg (by omega) h3] at h1
   rw [ZaD, <- hl]
   exact ZbM.inj h1
  exact PySem.W.ki_setBack ho (by omega) (by rw [ZaD, <- hl]; exact h3) (by omega) (by rw [hk]; exact ⟨_, I', q⟩)
theorem Zi1 (lo hi : Option Int) (n : Nat) : (sliceBounds lo hi none n).1 = ((HT.Internal.sIx n 0 lo : Nat) : Int) /\ (sliceBounds lo hi none n).2.1 = ((HT.Internal.sIx n n hi : Nat) : Int) /\ (sliceBounds lo hi none n).2.2 = 1 := by
 refine ⟨?_, ?_, rfl⟩
 ·cases lo with
  | none => simp [sliceBounds, HT.Internal.sIx]
  | some i =>
   simp only [sliceBounds, HT.Internal.sIx, Option.getD_none, show (1 : Int) > 0 by decide, if_true]
   by_cases h : i < 0
   ·simp only [h, if_true] <;> omega
   ·simp only [h, if_false] <;> omega
 ·cases hi with
  | none => simp [sliceBounds, HT.Internal.sIx]
  | some i =>
   simp only [sliceBounds, HT.Internal.sIx, Option.getD_none, show (1 : Int) > 0 by decide, if_true]
   by_cases h : i < 0
   ·simp only [h, if_true] <;> omega
   ·simp only [h, if_false] <;> omega
theorem Zit (its : List Value) (lo hi : Option Int) : slicePick its.toArray lo hi none = ((its.drop (HT.Internal.sIx its.length 0 lo)).take (HT.Internal.sIx its.length its.length hi - HT.Internal.sIx its.length 0 lo)).toArray := by
 obtain ⟨h1, h2, h3⟩ := Zi1 lo hi its.toArray.size
 unfold slicePick
 rw [h1, h2, h3]
 simp only [sliceRange_one, pick_run, ZaD] <;> rfl
noncomputable def rSlL (K : PySem.W.Frag) : V -> Option Int -> Option Int -> Hp -> VK -> Prop := fun x lo hi H Q => ∃ a xs, x = .ref a /\ SqL K H a xs /\ ∀ p, H p = none -> Q (.ref p) (upd H p (.lst (Zi0 xs lo hi)))
theorem ZjR : SlR X (rSlL X.K) := by
 intro pins s σ H x v vl vu lo hi sl Q I rx hs pl pu h
 obtain ⟨a, xs, rfl, hx, q⟩ := h
 cases rx
 obtain ⟨its, r, ht, hz⟩ := I.list hx
 have hlen := r.length
 refine ⟨"list", _, slot_list_getitem.lookup, ht.isList.typeIs, ?_⟩
 refine wpAny_getItem_list_slice ht.isList hs pl pu .none (by simp) ?_ (by rw [ZaD] <;> omega)
 rw [Zit, <- hlen]
 refine ⟨.ref s.heap.objs.size, _, I.laid (t' := s.toks) (o := .lst (Zi0 xs lo hi)) (fun b ob q => ZcM _ q) (Zbz _) ?_, rfl, q _ (I.hok.fresh (Zbz _))⟩
 exact ⟨Zbw (Zhl xs lo hi) hz, _, 0, (r.drop (HT.Internal.sIx xs.length 0 lo)).take (HT.Internal.sIx xs.length xs.length hi - HT.Internal.sIx xs.length 0 lo), ZcL _ rfl⟩
noncomputable def ZgI : V -> Bool
 | .non => true
 | .bl _ => true
 | .int _ => true
 | .str _ => true
 | _ => false
noncomputable def eqV : V -> V -> Bool
 | .non, .non => true
 | .bl a, .bl b => a == b
 | .bl a, .int b => (if a then 1 else 0) == b
 | .int a, .bl b => a == (if b then 1 else 0)
 | .int a, .int b => a == b
 | .str a, .str b => a == b
 | _, _ => false
theorem ZlY {A : Around} {s : Shared} {y x : V} {u v : Value} (ry : Zel y u) (rx : Zel x v) (fy : ZgI y = true) (fx : ZgI x = true) : SeqAt.EqAt A s u v (eqV y x) := by
 cases y with
 | non =>
  cases ry
  cases x with
  | non => cases rx; exact SeqAt.EqAt.same _
  | bl b => cases rx; exact SeqAt.EqAt.none_bool b
  | int b => obtain ⟨t, rfl⟩ := rx; exact SeqAt.EqAt.none_int b t
  | str b => obtain ⟨t, rfl⟩ := rx; exact SeqAt.EqAt.none_str b t
  | _ => exact absurd (show false = true from fx) Zcw
 | bl a =>
  cases ry
  cases x with
  | non => cases rx; exact SeqAt.EqAt.bool_none a
  | bl b => cases rx; exact SeqAt.EqAt.bool_bool a b
  | int b => obtain ⟨t, rfl⟩ := rx; exact SeqAt.EqAt.bool_int a b t
  | str b => obtain ⟨t, rfl⟩ := rx; exact SeqAt.EqAt.bool_str a b t
  | _ => exact absurd (show false = true from fx) Zcw
 | int a =>
  obtain ⟨t', rfl⟩ := ry
  cases x with
  | non => cases rx; exact SeqAt.EqAt.int_none a t'
  | bl b => cases rx; exact SeqAt.EqAt.int_bool a t' b
  | int b => obtain ⟨t, rfl⟩ := rx; exact SeqAt.EqAt.int_int a t' b t
  | str b => obtain ⟨t, rfl⟩ := rx; exact SeqAt.EqAt.int_str a t' b t
  | _ => exact absurd (show false = true from fx) Zcw
 | str a =>
  obtain ⟨t', rfl⟩ := ry
  cases x with
  | non => cases rx; exact SeqAt.EqAt.str_none a t'
  | bl b => cases rx; exact SeqAt.EqAt.str_bool a t' b
  | int b => obtain ⟨t, rfl⟩ := rx; exact SeqAt.EqAt.str_int a t' b t
  | str b => obtain ⟨t, rfl⟩ := rx; exact SeqAt.EqAt.str_str a t' b t
  | _ => exact absurd (show false = true from fx) Zcw
 | _ => exact absurd (show false = true from fy) Zcw
noncomputable def eqU (x : V) (u : Value) : Bool := match u with
 | .none => eqV .non x
 | .bool b => eqV (.bl b) x
 | .int i _ => eqV (.int i) x
 | .str z _ => eqV (.str z) x
 | _ => false
theorem Zkz {x y : V} {u : Value} (r : Zel y u) (f : ZgI y = true) : eqU x u = eqV y x := by
 cases y with
 | non => cases r; rfl
 | bl b => cases r; rfl
 | int i => obtain ⟨t, rfl⟩ := r; rfl
 | str z => obtain ⟨t, rfl⟩ := r; rfl
 | _ => exact absurd (show false = true from f) Zcw
theorem Zhm {x : V} : ∀ {xs : List V} {us : List Value}, ZdT xs us -> xs.all ZgI = true -> us.any (eqU x) = xs.any fun y => eqV y x
 | _, _, .nil, _ => rfl
 | y :: xs, u :: us, .cons r t, f => by
  rw [ZaH, Zcy] at f
  rw [List.any_cons, List.any_cons, Zkz r f.1, Zhm t f.2]
theorem Zgn {A : Around} {s : Shared} {x : V} {v : Value} (rx : Zel x v) (fx : ZgI x = true) : ∀ {xs : List V} {us : List Value}, ZdT xs us -> xs.all ZgI = true -> ∀ u ∈ us, SeqAt.EqAt A s u v (eqU x u)
 | _, _, .nil, _ => fun u hu => by cases hu
 | y :: xs, u :: us, .cons r t, f => fun u' hu => by
  rw [ZaH, Zcy] at f
  rcases Zaf.mp hu with rfl | hu
  ·rw [Zkz r f.1]; exact ZlY r rx f.1 fx
  ·exact Zgn rx fx t f.2 u' hu
noncomputable def inV (x : V) (xs : List V) : Bool := xs.any fun y => eqV y x
noncomputable def rIn (K : PySem.W.Frag) (neg : Bool) : R2 := fun x y H Q => ∃ p xs, y = .ref p /\ (SqL K H p xs \/ SqT K H p xs) /\ ZgI x = true /\ xs.all ZgI = true /\ Q (.bl (if neg then !inV x xs else inV x xs)) H
theorem Zhn : OpR X (compareOp .In) (rIn X.K false) := by
 intro pins s σ H x y v u Q I rx ry h
 obtain ⟨p, xs, rfl, hq, fx, fs, q⟩ := h
 cases ry
 rcases hq with hq | hq
 ·obtain ⟨its, r, pl, hz⟩ := I.list hq
  refine SeqAt.in_listAt (eqU x) pl.isList (fun w hw => Zgn rx fx r fs w (by simpa using hw)) ⟨.bl _, H, I, rfl, ?_⟩
  rw [show its.toArray.any (eqU x) = its.any (eqU x) by simp, Zhm r fs]
  exact q
 ·obtain ⟨its, r, pl, hz⟩ := I.tuple hq
  refine SeqAt.in_tupleAt (eqU x) pl (fun w hw => Zgn rx fx r fs w (by simpa using hw)) ⟨.bl _, H, I, rfl, ?_⟩
  rw [show its.toArray.any (eqU x) = its.any (eqU x) by simp, Zhm r fs]
  exact q
theorem Zi2 : OpR X (compareOp .NotIn) (rIn X.K true) := by
 intro pins s σ H x y v u Q I rx ry h
 obtain ⟨p, xs, rfl, hq, fx, fs, q⟩ := h
 cases ry
 rcases hq with hq | hq
 ·obtain ⟨its, r, pl, hz⟩ := I.list hq
  refine SeqAt.notIn_listAt (eqU x) pl.isList (fun w hw => Zgn rx fx r fs w (by simpa using hw)) ⟨.bl _, H, I, rfl, ?_⟩
  rw [show its.toArray.any (eqU x) = its.any (eqU x) by simp, Zhm r fs]
  exact q
 ·obtain ⟨its, r, pl, hz⟩ := I.tuple hq
  refine SeqAt.notIn_tupleAt (eqU x) pl (fun w hw => Zgn rx fx r fs w (by simpa using hw)) ⟨.bl _, H, I, rfl, ?_⟩
  rw [show its.toArray.any (eqU x) = its.any (eqU x) by simp, Zhm r fs]
  exact q
theorem Zda : Zgj X (.builtin "len") (fun xs H Q => ∃ p ys, xs = [.ref p] /\ (SqL X.K H p ys \/ SqT X.K H p ys) /\ Q (.int ys.length) H) := by
 intro pins s σ H xs us Q I r h
 obtain ⟨p, ys, rfl, hq, q⟩ := h
 obtain ⟨u, rfl, rx⟩ := Zgk r
 cases rx
 have hn := Zh0
 rcases hq with hq | hq
 ·obtain ⟨its, r', pl, hz⟩ := I.list hq
  have hlen := r'.length
  exact Calls.call_len_list pl.isList (by simp only [ZaD] <;> omega) ⟨.int ys.length, H, I.tok _, ⟨s.toks + 1, by rw [ZaD, hlen]⟩, q⟩
 ·obtain ⟨its, r', pl, hz⟩ := I.tuple hq
  have hlen := r'.length
  exact len_tuple pl (by simp only [ZaD] <;> omega) ⟨.int ys.length, H, I.tok _, ⟨s.toks + 1, by rw [ZaD, hlen]⟩, q⟩
theorem ZgT : Zgj X (.builtin "len") (fun xs H Q => ∃ z, xs = [.str z] /\ z.length <= sizeLine /\ Q (.int z.length) H) := by
 intro pins s σ H xs us Q I r h
 obtain ⟨z, rfl, hz, q⟩ := h
 obtain ⟨u, rfl, t, rfl⟩ := Zgk r
 have hn := Zh0
 exact len_str (by omega) ⟨.int z.length, H, I.tok _, ⟨_, rfl⟩, q⟩
theorem ZfG : Zgj X (.type "list") (fun xs H Q => ∃ p ys, xs = [.ref p] /\ (SqL X.K H p ys \/ SqT X.K H p ys) /\ ∀ l, H l = none -> Q (.ref l) (upd H l (.lst ys))) := by
 intro pins s σ H xs us Q I r h
 obtain ⟨p, ys, rfl, hq, q⟩ := h
 obtain ⟨u, rfl, rx⟩ := Zgk r
 cases rx
 have fin : ∀ (its : List Value), ZdT ys its -> ys.length <= sizeLine -> ∀ (h' : Heap) (c' : Nat), (∀ b o', s.heap.get? b = some o' -> h'.get? b = some o') ->
   h'.get? s.heap.objs.size = some { cls := .type "list", dict := none, data := .seq its.toArray c', slots := #[] } -> EP X pins σ Q (.ref s.heap.objs.size) { s with heap := h' } := fun its r' hz h' c' kp e =>
  ⟨.ref s.heap.objs.size, _, I.laid (t' := s.toks) kp (Zbz _) (show ZeV X.prog X.w _ h' _ (.lst ys) from ⟨hz, its, c', r', e⟩), rfl, q _ (I.hok.fresh (Zbz _))⟩
 rcases hq with hq | hq
 ·obtain ⟨its, r', pl, hz⟩ := I.list hq
  have hlen := r'.length
  obtain ⟨o, ho, hc, n, hd⟩ := pl.isList
  exact call_list_seq p (.inl rfl) ho hc hd (fun h' c' kp e => fin its r' hz h' c' kp e) (by simp only [ZaD] <;> omega)
 ·obtain ⟨its, r', pl, hz⟩ := I.tuple hq
  have hlen := r'.length
  obtain ⟨o, ho, hc, n, hd⟩ := pl
  exact call_list_seq p (.inr rfl) ho hc hd (fun h' c' kp e => fin its r' hz h' c' kp e) (by simp only [ZaD] <;> omega)
theorem Zdj : Zgj X (.type "tuple") (fun xs H Q => ∃ p ys, xs = [.ref p] /\ ((SqL X.K H p ys /\ ∀ l, H l = none -> Q (.ref l) (upd H l (.tup ys))) \/ (SqT X.K H p ys /\ Q (.ref p) H))) := by
 intro pins s σ H xs us Q I r h
 obtain ⟨p, ys, rfl, h⟩ := h
 obtain ⟨u, rfl, rx⟩ := Zgk r
 cases rx
 rcases h with ⟨hq, q⟩ | ⟨hq, q⟩
 ·obtain ⟨its, r', pl, hz⟩ := I.list hq
  have hlen := r'.length
  refine call_tuple_list pl.isList (fun h' kp => ?_) (by simp only [ZaD] <;> omega)
  have I1 : Inv X pins σ H { s with heap := h' } := I.kept (t' := s.toks) kp
  have I2 : Inv X pins σ (upd H h'.objs.size (.tup ys)) { s with heap := h'.push { cls := .type "tuple", data := .seq its.toArray } } :=
   I1.laid (t' := s.toks) (fun b o e => ZcM _ e) (Zbz _) (show ZeV X.prog X.w _ _ _ (.tup ys) from ⟨hz, its, r', Zlz.new _ _⟩)
  exact ⟨.ref h'.objs.size, _, I2, rfl, q _ (I1.hok.fresh (Zbz _))⟩
 ·obtain ⟨its, r', pl, hz⟩ := I.tuple hq
  exact call_tuple_same pl ⟨.ref p, H, I, rfl, q⟩
noncomputable def tyV (K : PySem.W.Frag) (T : String) (x : V) (H : Hp) : Prop := match x with
 | .str _ => T = "str"
 | .int _ => T = "int"
 | .ref p => (T = "list" /\ ∃ xs, SqL K H p xs) \/ (T = "tuple" /\ ∃ o, K.lookup p = some o /\ o.cls = .type "tuple" /\ o.dict = none) \/
   (T = "dict" /\ ((∃ kvs, H p = some (.dK kvs)) \/ ∃ kvs, H p = some (.dT kvs))) \/ (T = "set" /\ ∃ S n, H p = some (.set S n))
 | _ => False
theorem ZnP {pins : List (Addr × Obj)} {σ : St} {H : Hp} {s : Shared} {T : String} {x : V} {v : Value} (I : Inv X pins σ H s) (r : Zel x v) (ty : tyV X.K T x H) :
  s.TypeIs v T /\ ∀ a, v = .ref a -> ∃ ob, s.heap.get? a = some ob /\ ob.dict = none := by
 cases x with
 | str z =>
  obtain ⟨t, rfl⟩ := r
  cases (show T = "str" from ty)
  exact ⟨typeIs_str s z t, fun _ e => nomatch e⟩
 | int i =>
  obtain ⟨t, rfl⟩ := r
  cases (show T = "int" from ty)
  exact ⟨typeIs_int s i t, fun _ e => nomatch e⟩
 | ref p =>
  cases r
  rcases ty with ⟨rfl, xs, hq⟩ | ⟨rfl, o, hk, hc, hd⟩ | ⟨rfl, hk⟩ | ⟨rfl, S, n, hk⟩
  ·obtain ⟨its, _, pl, _⟩ := I.list hq
   refine ⟨pl.isList.typeIs, fun a e => ?_⟩
   cases e
   obtain ⟨o, n, e, c, hd, _⟩ := pl
   exact ⟨o, e, hd⟩
  ·refine ⟨⟨o, I.kIn p o hk, hc⟩, fun a e => ?_⟩
   cases e
   exact ⟨o, I.kIn _ o hk, hd⟩
  ·have z : ∃ o, s.heap.get? p = some o /\ o.ExactDict := by
    rcases hk with ⟨kvs, hk⟩ | ⟨kvs, hk⟩
    ·obtain ⟨_, _, _, _, o, _, _, e, ex, _⟩ := I.hok p _ hk
     exact ⟨o, e, ex⟩
    ·obtain ⟨_, _, _, _, o, _, _, e, ex, _⟩ := I.hok p _ hk
     exact ⟨o, e, ex⟩
   obtain ⟨o, e, ex⟩ := z
   refine ⟨⟨o, e, ex.1⟩, fun a e2 => ?_⟩
   cases e2
   exact ⟨o, e, ex.2.1⟩
  ·obtain ⟨o, _, _, _, e, ex, _⟩ := I.hok p _ hk
   refine ⟨⟨o, e, ex.1⟩, fun a e2 => ?_⟩
   cases e2
   exact ⟨o, e, ex.2.1⟩
 | _ => exact False.elim ty
noncomputable def tBM0 (K : PySem.W.Frag) (T : String) (r : V -> List V -> Hp -> VK -> Prop) (to : TE) : TE := fun σ H Q => to σ H fun x H1 => tyV K T x H1 /\ r x [] H1 Q
noncomputable def tBM (K : PySem.W.Frag) (T : String) (r : V -> List V -> Hp -> VK -> Prop) (to : TE) (t : TA) : TE := fun σ H Q => to σ H fun x H1 => tyV K T x H1 /\ t σ H1 fun xs H2 => r x xs H2 Q
variable {o e : Expr} {es : List Expr} {to : TE} {t : TA} {name : Str} {apos cpos : Pos} {T id : String} {r : V -> List V -> Hp -> VK -> Prop}
theorem ZnQ (pa : PlainAttrs T) (slot : Slot T name id) (hty : typeOf (.builtin id) = pure (.type "method_descriptor")) (hm : MtR X id r) (ho : PE X o to)
  (hbase : autoParam (attributeBase o name X.env (eval o X.env) = eval o X.env) L2.Internal.auR._auto_1) (hline : autoParam ((apos.endLine == cpos.line) = true) L2.Internal.auR._auto_1) : PE X (.Call (.Attribute o name apos) [] [] cpos) (tBM0 X.K T r to) := by
 intro pins s σ H Q I h
 refine wpAny_Call_method0_late hbase hline (thn (ho pins s σ H _ I h) fun v s1 ⟨x, H1, I1, r1, ty, q1⟩ => ?_)
 obtain ⟨h1, h2⟩ := ZnP I1 r1 ty
 exact ⟨T, id, pa, slot, hty, h1, h2, Calls.callWith_builtin rfl (PySem.evalArgs_none (hm pins s1 σ H1 x [] v [] Q I1 r1 .nil q1))⟩
theorem ZeD (pa : PlainAttrs T) (slot : Slot T name id) (hty : typeOf (.builtin id) = pure (.type "method_descriptor")) (hm : MtR X id r) (ho : PE X o to) (ha : PA X (e :: es) t)
  (hbase : autoParam (attributeBase o name X.env (eval o X.env) = eval o X.env) L2.Internal.auR._auto_1)
  (hfew : ((backTo cpos (starEach (e :: es) X.env)).all (fun x => !x.1) && (backToKw cpos (keywordEach [] X.env)).all (fun x => x.1.isSome)
   && decide ((e :: es).length + ([] : List Keyword).length + (if ([] : List Keyword).isEmpty then 0 else 1) < 30)) = true := by rfl)
  (hline : autoParam ((apos.endLine == cpos.line) = true) L2.Internal.auR._auto_1) (hs : autoParam (starEach (e :: es) X.env = (false, eval e X.env) :: starEach es X.env) L2.Internal.auR._auto_1) (hplain : autoParam ((backTo cpos (starEach es X.env)).any (·.1) = false) L2.Internal.auR._auto_1) :
  PE X (.Call (.Attribute o name apos) (e :: es) [] cpos) (tBM X.K T r to t) := by
 intro pins s σ H Q I h
 refine wpAny_Call_method_late hbase hfew hline rfl (thn (ho pins s σ H _ I h) fun v s1 ⟨x, H1, I1, r1, ty, q1⟩ => ?_)
 obtain ⟨h1, h2⟩ := ZnP I1 r1 ty
 refine ⟨T, id, pa, slot, hty, h1, h2, ?_⟩
 have hA := ha cpos pins s1 σ H1 _ I1 q1
 rw [hs] at hA ⊢
 refine Calls.callWith_builtin (by show (false || (backTo cpos (starEach es X.env)).any (·.1)) = false; rw [hplain] <;> rfl) (Calls.evalArgs_plain ?_)
 exact thn hA fun us s2 ⟨vs, H2, I2, r2, q2⟩ => hm pins s2 σ H2 x vs v us Q I2 r1 r2 q2
end
end L2.Internal
namespace L2.Internal
open PySem PySem.Spec PyProof.Rows
noncomputable def MtM (X : Cx) (id : String) (r : V -> List V -> Hp -> VK -> Prop) : Prop :=
 ∀ (pins : List (Addr × Obj)) (s : Shared) (σ : St) (H : Hp) (x : V) (xs : List V) (v : Value) (us : List Value) (Q : VK), Inv X pins σ H s -> Zel x v -> ZdT xs us -> r x xs H Q ->
  wpAny (model X.prog X.w) X.A (call (.builtin id) (v :: us)) (EP X pins σ Q) X.xe s
theorem ZdT.one : ∀ {x : V} {us : List Value}, ZdT [x] us -> ∃ u, us = [u] /\ Zel x u
 | _, _, .cons r .nil => ⟨_, rfl, r⟩
theorem ZdT.zero : ∀ {us : List Value}, ZdT [] us -> us = []
 | _, .nil => rfl
theorem ZdT.dropLast {xs : List V} {us : List Value} (h : ZdT xs us) : ZdT xs.dropLast us.dropLast := by
 induction h with
 | nil => exact .nil
 | cons r t ih =>
  cases t with
  | nil => exact .nil
  | cons q t' => exact .cons r ih
theorem ZdT.reverse {xs : List V} {us : List Value} (h : ZdT xs us) : ZdT xs.reverse us.reverse := by
 induction h with
 | nil => exact .nil
 | cons r t ih => rw [List.reverse_cons, List.reverse_cons]; exact ZdT.append ih (.cons r .nil)
theorem ZdT.rep {xs : List V} {us : List Value} (h : ZdT xs us) : ∀ k : Nat, ZdT (Zau k xs).flatten (Zau k us).flatten
 | 0 => .nil
 | k + 1 => by
  rw [ZaI, ZaI, ZaJ, ZaJ]
  exact ZdT.append h (ZdT.rep h k)
theorem Zlf {α : Type} (l : List α) : l.eraseIdx (l.length - 1) = l.dropLast := by
 induction l with
 | nil => rfl
 | cons a r ih =>
  cases r with
  | nil => rfl
  | cons b r =>
   have e : (a :: b :: r).length - 1 = ((b :: r).length - 1) + 1 := by
    have h1 : (a :: b :: r).length = r.length + 2 := rfl
    have h2 : (b :: r).length = r.length + 1 := rfl
    omega
   rw [e, List.eraseIdx_cons_succ, ih]
   all_goals rfl
theorem Zi3 (its : List Value) : ∀ (k : Nat) (acc : List Value),
  List.foldl (fun x1 x2 => x1 ++ x2) acc.toArray (Zau k its.toArray) = (acc ++ (Zau k its).flatten).toArray
 | 0, acc => by simp
 | k + 1, acc => by
  have e : acc.toArray ++ its.toArray = (acc ++ its).toArray := by simp
  have e2 : (acc ++ its) ++ (Zau k its).flatten = acc ++ (Zau (k + 1) its).flatten := by
   rw [ZaI, ZaJ, ZaK]
  rw [<- e2, <- Zi3 its k (acc ++ its), <- e, ZaI, List.foldl_cons]
section
variable {X : Cx} {pins : List (Addr × Obj)} {σ : St} {H : Hp} {s : Shared} {l b : Addr} {xs ys zs : List V}
theorem Inv.lset {its its' : List Value} {n : Nat} {f : Array Value -> Array Value} {t' : Nat} (I : Inv X pins σ H s) (hH : H l = some (.lst xs))
  (e : s.heap.get? l = some { cls := .type "list", data := .seq its.toArray n }) (hf : f its.toArray = its'.toArray) (hv : ZdT ys its') (hz : ys.length <= sizeLine) :
  Inv X pins σ (upd H l (.lst ys)) { s with heap := s.heap.update l (Obj.mapSeq f), toks := t' } := by
 have q := PySem.IsL.update e f
 rw [hf] at q
 refine I.write (x := l) (e := l) (by rw [hH]; exact trivial) (.inl rfl) (fun b' u hb hu => (ZcO s.heap (Obj.mapSeq f) (Ne.symm hb)).trans hu) ⟨_, q⟩ ?_
 exact ⟨hz, its', _, hv, q⟩
theorem Inv.lnew {its : List Value} {t' : Nat} (I : Inv X pins σ H s) (hv : ZdT ys its) (hz : ys.length <= sizeLine) :
  Inv X pins σ (upd H s.heap.objs.size (.lst ys)) { s with heap := s.heap.push { cls := .type "list", data := .seq its.toArray }, toks := t' } :=
 I.laid (fun _ _ q => ZcM _ q) (Zbz _) ⟨hz, its, 0, hv, ZcL _ rfl⟩
theorem Inv.fresh (I : Inv X pins σ H s) : H s.heap.objs.size = none := I.hok.fresh (Zbz _)
theorem Inv.lstM (I : Inv X pins σ H s) (hH : H l = some (.lst xs)) : xs.length <= sizeLine /\ ∃ (its : List Value) (n : Nat), ZdT xs its /\ xs.length = its.length /\ s.heap.get? l = some { cls := .type "list", data := .seq its.toArray n } := by
 obtain ⟨z, its, n, r, e⟩ := I.hok l _ hH
 exact ⟨z, its, n, r, r.length, e⟩
theorem ZkA {n : Nat} (h : n <= sizeLine) : Builtin.List.listTooLong n = false := by
 unfold Builtin.List.listTooLong
 exact decide_eq_false (by omega)
end
section
variable {X : Cx}
noncomputable def ZlZ : V -> List V -> Hp -> VK -> Prop := fun x vs H Q => ∃ l xs y, x = .ref l /\ vs = [y] /\ H l = some (.lst xs) /\ xs.length < sizeLine /\ Q .non (upd H l (.lst (xs ++ [y])))
theorem Zdr : MtM X "list.append" ZlZ := by
 intro pins s σ H x vs v us Q I rx rv h
 obtain ⟨l, xs, y, rfl, rfl, hH, hz, q⟩ := h
 cases rx
 obtain ⟨u, rfl, ru⟩ := rv.one
 obtain ⟨z, its, n, r, hl, e⟩ := I.lstM hH
 refine call_meets F.slot_list_append ⟨_, e, rfl⟩ F.entry_list_append (F.args_list_append_2 _ _) (PySem.list_append l its.toArray n u (by rw [ZaD]; omega)) ⟨e, ?_⟩
 refine ⟨.non, _, I.lset (its' := its ++ [u]) hH e (by simp) (r.append (.cons ru .nil)) ?_, rfl, q⟩
 rw [ZaA, ZaL]
 omega
noncomputable def Zoz : V -> List V -> Hp -> VK -> Prop := fun x vs H Q => ∃ l b xs zs, x = .ref l /\ vs = [.ref b] /\ H l = some (.lst xs) /\ H b = some (.lst zs) /\ xs.length + zs.length <= sizeLine /\ Q .non (upd H l (.lst (xs ++ zs)))
theorem Zl0 : MtM X "list.extend" Zoz := by
 intro pins s σ H x vs v us Q I rx rv h
 obtain ⟨l, b, xs, zs, rfl, rfl, hH, hB, hz, q⟩ := h
 cases rx
 obtain ⟨u, rfl, ru⟩ := rv.one
 cases ru
 obtain ⟨z, its, n, r, hl, e⟩ := I.lstM hH
 obtain ⟨z2, its2, n2, r2, hl2, e2⟩ := I.lstM hB
 have hsz : its.toArray.size + its2.toArray.size <= sizeLine := by rw [ZaD, ZaD]; omega
 have hlong : ¬ (!its.toArray.isEmpty && Builtin.List.listTooLong (its.toArray.size + its2.toArray.size)) = true := by
  rw [ZkA hsz, Zcz]
  exact Zcw
 refine call_meets F.slot_list_extend ⟨_, e, rfl⟩ F.entry_list_extend (F.args_list_extend_2 _ _)
  (AutoSeq1.list_extend_list_list_0 l its.toArray n b its2.toArray n2 hlong (by rw [ZaD]; omega) (by omega)) ⟨e, e2, ?_⟩
 refine ⟨.non, _, I.lset (its' := its ++ its2) hH e (by simp) (r.append r2) ?_, rfl, q⟩
 rw [ZaA]
 omega
noncomputable def rPop : V -> List V -> Hp -> VK -> Prop := fun x vs H Q => ∃ l xs y, x = .ref l /\ vs = [] /\ H l = some (.lst xs) /\ xs[xs.length - 1]? = some y /\ Q y (upd H l (.lst xs.dropLast))
theorem ZpM : MtM X "list.pop" rPop := by
 intro pins s σ H x vs v us Q I rx rv h
 obtain ⟨l, xs, y, rfl, rfl, hH, hy, q⟩ := h
 cases rx
 have hus := rv.zero
 subst hus
 obtain ⟨z, its, n, r, hl, e⟩ := I.lstM hH
 obtain ⟨u, hu, ru⟩ := r.get hy
 have hy' : its.toArray[its.toArray.size - 1]? = some u := by
  show its.toArray[its.length - 1]? = some u
  rw [<- ZcE, <- hl]
  exact hu
 refine call_meets F.slot_list_pop ⟨_, e, rfl⟩ F.entry_list_pop (F.args_list_pop_1 _) (MeetsSeq.list_pop_last l its.toArray n u hy' (by rw [ZaD]; omega)) ⟨e, ?_⟩
 refine ⟨y, _, I.lset (its' := its.dropLast) hH e ?_ r.dropLast ?_, ru, q⟩
 ·show its.toArray.eraseIdxIfInBounds (its.toArray.size - 1) = its.dropLast.toArray
  rw [ZaD, List.eraseIdxIfInBounds_toArray, Zlf]
 ·rw [List.length_dropLast]
  omega
noncomputable def Zm0 : V -> List V -> Hp -> VK -> Prop := fun x vs H Q => ∃ l xs, x = .ref l /\ vs = [] /\ H l = some (.lst xs) /\ Q .non (upd H l (.lst xs.reverse))
theorem Zlg : MtM X "list.reverse" Zm0 := by
 intro pins s σ H x vs v us Q I rx rv h
 obtain ⟨l, xs, rfl, rfl, hH, q⟩ := h
 cases rx
 have hus := rv.zero
 subst hus
 obtain ⟨z, its, n, r, hl, e⟩ := I.lstM hH
 refine call_meets F.slot_list_reverse ⟨_, e, rfl⟩ F.entry_list_reverse (F.args_list_reverse_1 _) (AutoSeq1.list_reverse_list_0 l its.toArray n (by rw [ZaD]; omega)) ⟨e, ?_⟩
 refine ⟨.non, _, I.lset (its' := its.reverse) hH e (by simp) r.reverse ?_, rfl, q⟩
 rw [List.length_reverse]
 omega
noncomputable def rCat : R2 := fun x y H Q => ∃ l b xs zs, x = .ref l /\ y = .ref b /\ H l = some (.lst xs) /\ H b = some (.lst zs) /\ xs.length + zs.length <= sizeLine /\ ∀ p, H p = none -> Q (.ref p) (upd H p (.lst (xs ++ zs)))
theorem Zho : OpR X (binaryOp .Add) rCat := by
 intro pins s σ H x y v u Q I rx ry h
 obtain ⟨l, b, xs, zs, rfl, rfl, hH, hB, hz, q⟩ := h
 cases rx
 cases ry
 obtain ⟨z, its, n, r, hl, e⟩ := I.lstM hH
 obtain ⟨z2, its2, n2, r2, hl2, e2⟩ := I.lstM hB
 refine PySem.P.add_list e e2 ?_ (by rw [ZaD, ZaD]; omega)
 have ea : its.toArray ++ its2.toArray = (its ++ its2).toArray := by simp
 rw [ea]
 exact ⟨.ref _, _, I.lnew (t' := s.toks) (r.append r2) (by rw [ZaA]; omega), rfl, q _ I.fresh⟩
noncomputable def rRep : R2 := fun x y H Q => ∃ l k xs, x = .ref l /\ y = .int k /\ H l = some (.lst xs) /\ -(2 ^ 63) <= k /\ k < 2 ^ 63 /\ xs.length * k.toNat <= sizeLine /\
 ∀ p, H p = none -> Q (.ref p) (upd H p (.lst (Zau k.toNat xs).flatten))
theorem ZoA {α : Type} (xs : List α) (k : Nat) : (Zau k xs).flatten.length = k * xs.length := by
 induction k with
 | zero => simp
 | succ k ih => rw [ZaI, ZaJ, ZaA, ih, Nat.succ_mul, Nat.add_comm]
theorem ZpN : OpR X (binaryOp .Mult) rRep := by
 intro pins s σ H x y v u Q I rx ry h
 obtain ⟨l, k, xs, rfl, rfl, hH, h1, h2, hz, q⟩ := h
 cases rx
 obtain ⟨t, rfl⟩ := ry
 obtain ⟨z, its, n, r, hl, e⟩ := I.lstM hH
 have hlen : its.toArray.size * k.toNat <= sizeLine := by rw [ZaD, <- hl]; exact hz
 have hcap : ¬ its.toArray.size * k.toNat > (2 ^ 63 - 1) / 8 := by
  have : (sizeLine : Nat) <= (2 ^ 63 - 1) / 8 := by decide
  omega
 have hfit : ¬ (!Builtin.List.listFitsIndex k) = true := by
  rw [fitsIndex_both h1 h2]
  exact Zcw
 have hlong : ¬ Builtin.List.listTooLong (its.toArray.size * k.toNat) = true := by
  rw [ZkA hlen]
  exact Zcw
 have hnew : List.foldl (fun x1 x2 => x1 ++ x2) #[] (Zau (if its.toArray.isEmpty = true then 0 else k.toNat) its.toArray) = (Zau k.toNat its).flatten.toArray := by
  have f0 : ∀ m : Nat, List.foldl (fun x1 x2 => x1 ++ x2) #[] (Zau m its.toArray) = (Zau m its).flatten.toArray := fun m => by
   have := Zi3 its m []
   rw [ZaM] at this
   exact this
  rw [f0]
  cases its with
  | nil => simp
  | cons a r' => rw [if_neg (by simp)]
 refine wpAny_binaryOp_repeat_ref (T := "list") (U := "int") (by decide) ⟨_, e, rfl⟩ (fun s' => typeIs_int s' k t) noFill_list_mul F.fills_int_mul F.slot_int_rmul repeat_list F.slot_int_index.lookup
  (call_meets F.slot_int_rmul (typeIs_int s k t) F.entry_int_rmul (F.args_int_rmul_2 _ _) (int___rmul___int_list k t l its.toArray n)
   ⟨e, rfl, ⟨_, e, rfl⟩, call_meets F.slot_list_mul ⟨_, e, rfl⟩ F.entry_list_mul (F.args_list_mul_2 _ _) (AutoListH.list___mul___list_int_3 l its.toArray n k t hfit hcap hlong) ⟨e, ?_⟩⟩)
 rw [hnew]
 exact ⟨.ref _, _, I.lnew (t' := s.toks) (r.rep k.toNat) (by rw [ZoA, Nat.mul_comm]; exact hz), rfl, q _ I.fresh⟩
end
section
variable {prog : Program} {w : World} {A : Around} {E : Value -> Shared -> Prop} {s : Shared}
set_option maxRecDepth 100000 in
end
section
variable {X : Cx}
end
end L2.Internal
namespace Att.Internal
open PySem PySem.W PySem.Calls PyProof.Rows
theorem Zhp {P : Params} {h : Heap} : ∀ (ns : List Int) (vs : List Value), WellAll P h vs (ns.map WData.int) -> IntsAre vs ns := by
 intro ns
 induction ns with
 | nil =>
  intro vs w
  rw [ZaF] at w
  cases w
  exact .nil
 | cons n ns ih =>
  intro vs w
  rw [Zap] at w
  cases w with
  | cons a b =>
   cases a
   exact .cons _ _ (ih _ b)
theorem Zl1 {l : OpenLaw} {n : Nat} (hn : l.most = some n) {P : Params} {h : Heap} {args : List WData} {vals : List Value}
  (hpre : l.row.toRowW.claim.pre args = true) (hwl : WellAll P h vals args) :
  ∃ a vs ns, vals = [Value.ref a] /\ args = [WData.list (ns.map WData.int)] /\ h.get? a = some { cls := .type "list", data := .seq vs.toArray } /\ IntsAre vs ns /\ ns.length <= n := by
 have hsh : WShape.hasAll [] args [.list .int] = true := (pre_splitW hpre).1
 have hc : l.pre.holds [] { args := args } = true := (pre_splitW hpre).2
 obtain ⟨d, r, rfl, h1, h2⟩ := hasAllW_cons hsh
 obtain rfl := hasAllW_nil h2
 obtain ⟨xs, rfl, h3⟩ := hasW_list h1
 obtain ⟨ns, rfl⟩ := items_int h3
 have hlen : ns.length <= n := by
  unfold OpenLaw.pre at hc
  have h4 : (WTm.not (.lt (.lit (.int (n : Int))) (.len (.arg 0)))).holds [] { args := [.list (ns.map .int)] } = true := by
   have h4 := (holds_andW hc).1
   rw [hn] at h4
   exact h4
  have h5 := condW_of h4 (w_not (w_lt w_lit (w_len_list (w_arg rfl))))
  rw [Zaq] at h5
  refine Nat.le_of_not_lt fun q => ?_
  have q' : (n : Int) < ((ns.length : Nat) : Int) := by omega
  first
   | (rw [decide_eq_true q'] at h5; exact absurd h5 (by decide))
   | (simp at h5; omega)
 cases hwl with
 | cons w1 w2 =>
  cases w2
  cases w1 with
  | list ho hall => exact ⟨_, _, ns, rfl, rfl, ho, Zhp ns _ hall, hlen⟩
theorem Zl2 (l : OpenLaw) (args : List WData) : l.row.toRowW.claim.post args (.bool true) args = true :=
 postW_of (r := l.row.toRowW) (X := (true == true))
  (show WShape.has [] (.bool true) .bool = true by first | rfl | decide | simp [WShape.has, WShape.arms, WShape.armsAll])
  (show (WTm.eq .res (.lit (.bool true))).value [] { args := args, res := some (.bool true), after := args } = some (.bool (true == true)) from w_eq_bool (w_res rfl) w_lit) rfl
theorem attach_call {l : OpenLaw} {n : Nat} {q : Program} {loose : List Str} {XP : (Str -> Option Value) -> Heap -> Prop} {YP : World -> Heap -> Prop} {d : DefRec}
  (hn : l.most = some n) (hdf : d.params.defaults = [])
  (call : ∀ (w : World) (s₀ s₁ : Shared) (mg mb : Str -> Option Value) (fa : Addr) (o : Obj) (pm cd doc : Value) (a : Addr) (vs : List Value) (ns : List Int),
   Ground q loose [] XP w s₀ mg mb s₁.heap -> YP w s₁.heap ->
   s₁.heap.get? fa = some o -> o.data = .func (docDef d.name d.params d.body d.scope pm cd doc) -> s₁.heap.CodeRec cd d.name -> mg d.name = some (.ref fa) ->
   s₁.heap.get? a = some { cls := .type "list", data := .seq vs.toArray } -> IntsAre vs ns -> ns.length <= n -> s₁.gens = #[] ->
   codeAny (model l.prog w) callerA (.call (.ref fa) ⟨[.ref a], []⟩) (fun r s' => r = .ok (.ret (.bool true)) /\ OldK s₁.heap s'.heap /\ s'.os = s₁.os /\ AllBare s'.gens) s₁) :
  WalkO q loose XP YP l.row.toRowW d [] (fun f vs => PySem.call f vs) := by
 intro w s₀ s₁ mg mb G Y fa o pm cd doc dV kV ho hd hcd hD hmg hg args vals as hpre hlay hrd hwl hlo
 obtain rfl : dV = .none := Dflts.none hD hdf
 obtain rfl : kV = .none := Dflts.noKw hD
 obtain ⟨a, vs, ns, rfl, rfl, hobj, hints, hlen⟩ := Zl1 hn hpre hwl
 refine enter_call (codeAny_mono (call w s₀ s₁ mg mb fa o pm cd doc a vs ns G Y ho (fd_plain hd) hcd hmg hobj hints hlen hg) fun r s' hq => ?_)
 obtain ⟨rfl, h2, h3, h4⟩ := hq
 exact ⟨.inl ⟨.bool true, .bool true, [], rfl, fun _ => rfl, .bool true, Zl2 l _, fun _ => ⟨List.Pairwise.nil, fun _ hm => (nomatch hm)⟩⟩, h2, h3, h4⟩
section
variable {prog : Program} {w : World} {A : Around} {E : Value -> Shared -> Prop} {s : Shared} {K : Frag}
end
end Att.Internal
namespace L2.Internal
open PySem PySem.Spec PyProof.Rows
theorem Zi4 : ∀ {vs : List Value} {ns : List Int}, IntsAre vs ns -> ZdT (ns.map V.int) vs
 | _, _, .nil => .nil
 | _, _, .cons n t h => .cons ⟨t, rfl⟩ (Zi4 h)
noncomputable def Zrb (H : Hp) : Prop := ∀ b, H b = none \/ ∃ o xs, H b = some (.frz o (.lst xs))
theorem Zm1 {P : Program} {w : World} {K : PySem.W.Frag} {mg mb : Str -> Option Value} {CX : CXT} {k : Nat} {fa a : Addr} {fd : FuncData} {x : Str} {sp : Sp} {s₁ : Shared} {vs : List Value} {ns : List Int}
  (KX : K.In s₁.heap) (hns : s₁.heap.Ns mainGlobals mg) (hb : s₁.heap.Ns builtinsNs mb) (hbb : ∀ x : Str, x ≠ "__name__" -> mb x = bootBuiltins x) (hlim : s₁.heap.NoLimit) (hg : s₁.gens = #[])
  (ha : s₁.heap.get? a = some { cls := .type "list", data := .seq vs.toArray }) (hi : IntsAre vs ns) (hl : ns.length <= sizeLine) (hr : ZgS k callerA)
  (F : ∀ base : Heap, K.In base -> base.Ns mainGlobals mg -> ZdK P w K mg base CX k fa fd [x] sp) (hbind : ∀ (s : Shared) (u : Value), BindsTo s fd ⟨[u], []⟩ [(x, u)])
  (hsp : ∀ H : Hp, Zrb H -> SqL K H a (ns.map V.int) -> sp [.ref a] H (fun v _ => v = .bl true) fun _ _ _ => False)
  (hCX : ∀ H e s', CX [] H s₁ (fun _ _ _ => False) e s' -> False) :
  codeAny (model P w) callerA (.call (.ref fa) ⟨[.ref a], []⟩) (fun r s' => r = .ok (.ret (.bool true)) /\ OldK s₁.heap s'.heap /\ s'.os = s₁.os /\ AllBare s'.gens) s₁ := by
 have rv := Zi4 hi
 have lenV := hi.length
 have core : ∀ H : Hp, Zrb H -> SqL K H a (ns.map V.int) -> HOk P w H s₁.heap -> (∀ b, H b ≠ none -> b = a) -> (H a ≠ none -> K.lookup a = none) ->
   codeAny (model P w) callerA (.call (.ref fa) ⟨[.ref a], []⟩) (fun r s' => r = .ok (.ret (.bool true)) /\ OldK s₁.heap s'.heap /\ s'.os = s₁.os /\ AllBare s'.gens) s₁ := by
  intro H hO hS hok hA hK
  have base_of : ∀ {b : Addr} {o : Obj}, s₁.heap.get? b = some o -> H b = none -> (ZmQ s₁.heap H).get? b = some o := fun e n => ZmR e n
  have noA : ∀ {b : Addr} {o : Obj} {es : Array DictEntry} {ep : Nat}, s₁.heap.get? b = some o -> o.data = .dict es ep -> H b = none := fun {b o es ep} e d => by
   cases q : H b with
   | none => rfl
   | some u =>
    have e' : b = a := hA b (by rw [q]; simp)
    subst e'
    rw [ha] at e; cases e
    have d' : Data.seq vs.toArray _ = Data.dict es ep := d
    cases d'
  have nsK : ∀ {b : Addr} {m : Str -> Option Value}, s₁.heap.Ns b m -> (ZmQ s₁.heap H).Ns b m := fun {b m} ⟨o, es, ep, e, d, r⟩ => ⟨o, es, ep, base_of e (noA e d), d, r⟩
  have hKb : K.In (ZmQ s₁.heap H) := fun b o e => base_of (KX b o e) (by
   cases q : H b with
   | none => rfl
   | some u =>
    have e' : b = a := hA b (by rw [q]; simp)
    subst e'
    rw [hK (by rw [q]; simp)] at e; cases e)
  have hM : Mod K mg (ZmQ s₁.heap H) := ⟨hKb, nsK hns, ⟨mb, nsK hb, hbb⟩, let ⟨mc, h1, h2⟩ := hlim; ⟨mc, nsK h1, h2⟩⟩
  have e0 : Zou P w K mg (ZmQ s₁.heap H) callerA [] s₁ H := ⟨rfl, hM, fun b o e => Zok e, Nat.le_of_eq (ZlD _ _), trivial, fun b hb => absurd (show b ∈ ([] : List Addr) from hb) (by simp), hok, .of_eq hg⟩
  refine codeAny_mono ((F _ hKb (nsK hns)).run callerA [] s₁ H ⟨[.ref a], []⟩ [.ref a] [.ref a] _ _ hr e0 (hbind s₁ (.ref a)) (.cons rfl .nil) (hsp H hO hS)) fun r s' h => ?_
  cases r with
  | error e => exact (hCX H e s' h).elim
  | ok fl =>
   cases fl with
   | next => exact False.elim h
   | brk => exact False.elim h
   | cont => exact False.elim h
   | ret u =>
    obtain ⟨v, H', os, bare, un, hok', r', q⟩ := h
    have q' : v = .bl true := q
    subst q'
    obtain rfl : u = Value.bool true := r'
    refine ⟨rfl, OldK.of_keep fun b o e => ?_, os, bare⟩
    cases q : H b with
    | none => exact un.keep b o e q (by intro z; exact absurd (show b ∈ ([] : List Addr) from z) (by simp)) (by simp)
    | some u =>
     rcases hO b with z | ⟨ob, xs, z⟩
     ·rw [q] at z; cases z
     ·have z2 := un.frzs b ob _ z
      obtain ⟨e1, _⟩ := hok b _ z
      obtain ⟨e2, _⟩ := hok' b _ z2
      rw [e] at e1; cases e1
      exact e2
 cases hk : K.lookup a with
 | some o =>
  have e := KX a o hk
  rw [ha] at e
  cases e
  refine core (fun _ => none) (fun _ => .inl rfl) (.inr ⟨_, vs.toArray, _, hk, rfl, rfl, rfl, by rw [ZaD, lenV]; exact hl, by simpa using rv⟩) (fun b u z => by have z' : (none : Option HO) = some u := z; cases z') (fun b z => absurd rfl z) fun z => absurd rfl z
 | none =>
  refine core (fun b => if b = a then some (.frz { cls := .type "list", data := .seq vs.toArray } (.lst (ns.map V.int))) else none) (fun b => ?_) (.inl (.inr ⟨{ cls := .type "list", data := .seq vs.toArray }, if_pos rfl⟩)) (fun b u z => ?_) (fun b z => ?_) fun _ => hk
  ·by_cases hb : b = a
   ·exact .inr ⟨_, _, if_pos hb⟩
   ·exact .inl (if_neg hb)
  ·by_cases hb : b = a
   ·have z' := (if_pos hb).symm.trans z
    cases z'
    subst hb
    exact ⟨ha, by rw [Zaq]; exact hl, vs, _, rv, ha⟩
   ·have z' := (if_neg hb).symm.trans z
    cases z'
  ·by_cases hb : b = a
   ·exact hb
   ·exact absurd (if_neg hb) z
end L2.Internal
namespace L2.Internal
open PySem PySem.Spec PyProof.Rows
theorem walk_of {l : PySem.W.OpenLaw} {n k : Nat} {q : Program} {loose : List Str} {XP : (Str -> Option Value) -> Heap -> Prop} {YP : World -> Heap -> Prop} {d : DefRec} {K : Params -> PySem.W.Frag} {CX : World -> CXT} {sp : World -> Sp} {x : Str}
  (hn : l.most = some n) (hn2 : n <= sizeLine) (hdf : d.params.defaults = []) (hr : ZgS k callerA)
  (hY : ∀ (w : World) (h : Heap), YP w h -> (K w.params).In h)
  (F : ∀ (w : World) (mg : Str -> Option Value) (fa : Addr) (h : Heap), (K w.params).In h -> h.Ns mainGlobals mg -> mg d.name = some (.ref fa) ->
   ∃ fd : FuncData, (∀ (s : Shared) (u : Value), BindsTo s fd ⟨[u], []⟩ [(x, u)]) /\
    ∀ base : Heap, (K w.params).In base -> base.Ns mainGlobals mg -> ZdK l.prog w (K w.params) mg base (CX w) k fa fd [x] (sp w))
  (hsp : ∀ (w : World) (H : Hp) (a : Addr) (ns : List Int), ns.length <= n -> Zrb H -> SqL (K w.params) H a (ns.map V.int) -> sp w [.ref a] H (fun v _ => v = .bl true) fun _ _ _ => False)
  (hCX : ∀ (w : World) (H : Hp) (s : Shared) (e : Value) (s' : Shared), CX w [] H s (fun _ _ _ => False) e s' -> False) :
  PySem.W.WalkO q loose XP YP l.row.toRowW d [] (fun f vs => PySem.call f vs) := by
 refine Att.Internal.attach_call hn hdf fun w s₀ s₁ mg mb fa o pm cd doc a vs ns G Y ho hd hcd hmg hobj hints hlen hg => ?_
 have KX := hY w _ Y
 obtain ⟨fd, hb, hF⟩ := F w mg fa _ KX G.T.g hmg
 exact Zm1 KX G.T.g G.T.b G.T.builtins G.T.nolimit hg hobj hints (Zbw hlen hn2) hr hF hb (fun H hO hS => hsp w H a ns hlen hO hS) fun H e s' => hCX w H s₁ e s'
end L2.Internal
namespace L2.Internal
open PySem PySem.Spec PyProof.Rows
noncomputable def ZeJ (s : Stmt) (j : Nat) : Stmt := match s with
 | .ClassDef _ _ _ body _ _ _ _ _ _ _ => body.getD j (.Pass ⟨0, 0, 0, 0⟩)
 | _ => .Pass ⟨0, 0, 0, 0⟩
noncomputable def Zdg (s : Stmt) : Arguments := match s with
 | .FunctionDef _ a _ _ _ _ _ _ _ _ => a
 | _ => { posonlyargs := [], args := [], vararg := none, kwonlyargs := [], kw_defaults := [], kwarg := none, defaults := [] }
noncomputable def Zdb (s : Stmt) : List Stmt := match s with
 | .FunctionDef _ _ b _ _ _ _ _ _ _ => b
 | _ => []
noncomputable def ZcX (s : Stmt) : Scope := match s with
 | .FunctionDef _ _ _ _ _ _ sc _ _ _ => sc
 | _ => { kind := .function, names := [], isGenerator := false, isCoroutine := false }
noncomputable abbrev CX0 : CXT := fun _ _ _ _ _ _ => False
noncomputable abbrev E0 : XK := fun _ _ _ => False
theorem ZdL {X : Cx} : Zgm CX0 X E0 := fun _ _ _ _ _ _ _ h => h.elim
structure Fun (K : PySem.W.Frag) (x qual : Str) (st : Stmt) (f : Addr) (fd : FuncData) : Prop where
 ex : ∃ (oc : Value) (od : Option Addr) (kV doc pm : Value) (an : Option Addr) (cdv ct : Value) (osl : Array (Option Value)),
  fd = Zce x qual (Zdg st) (Zdb st) (ZcX st) .none kV doc pm an cdv ct /\ K.lookup f = some ⟨oc, od, .func fd, osl⟩ /\ Zcf K cdv qual = true
 kp : Zb4 K (.ref f) = true
section
variable {P : Program} {w : World} {K : PySem.W.Frag} {mg : Str -> Option Value} {base : Heap}
theorem Fun.ok {x qual : Str} {st : Stmt} {f : Addr} {fd : FuncData} {N ps : List Str} {k : Nat} {sp : Sp} (F : Fun K x qual st f fd) (S : Zdf N ps (ZcX st)) (len : ∀ vs H Q E, sp vs H Q E -> vs.length = ps.length)
  (hbody : ∀ (cdv : Value) (A : Around) (outer : List Env) (s : Shared) (H : Hp) (vs : List V) (Q : VK) (E : XK), ZgS k (A.deeper (envOfC qual (ZcX st) s.heap.objs.size f cdv)) -> sp vs H Q E ->
   ∃ t, PSs (ZjP CX0 P w K mg base N qual (ZcX st) f cdv A outer s H E).nox (Zdb st) t /\ t { nx := fun _ H' => Q .non H', rt := Q } (ZgZ N vs) H) : ZdK P w K mg base CX0 (k + 1) f fd ps sp := by
 obtain ⟨oc, od, kV, doc, pm, an, cdv, ct, osl, rfl, lk, hcd⟩ := F.ex
 refine ZpG lk hcd S len fun A outer s H vs Q E hr hsp => ?_
 obtain ⟨t, h, q⟩ := hbody cdv A outer s H vs Q E hr hsp
 exact ⟨t, h.nox, q⟩
theorem Fun.binds {x qual : Str} {st : Stmt} {f : Addr} {fd : FuncData} {ps : List Str} (F : Fun K x qual st f fd)
  (h : ∀ (kV doc pm : Value) (an : Option Addr) (cdv ct : Value) (us : List Value), us.length = ps.length -> bindArgs (Zce x qual (Zdg st) (Zdb st) (ZcX st) .none kV doc pm an cdv ct) ⟨us, []⟩ = pure (ps.zip us)) : ZdQ K fd ps [] := by
 obtain ⟨oc, od, kV, doc, pm, an, cdv, ct, osl, rfl, lk, hcd⟩ := F.ex
 exact .all (h kV doc pm an cdv ct)
theorem Zc2 {x qual : Str} {st : Stmt} {f : Addr} {oc : Value} {od an : Option Addr} {osl : Array (Option Value)} {kV doc pm cdv ct : Value} (l : K.lookup f = some ⟨oc, od, .func (Zce x qual (Zdg st) (Zdb st) (ZcX st) .none kV doc pm an cdv ct), osl⟩)
  (c : Zcf K cdv qual = true) (k : Zb4 K (.ref f) = true) : Fun K x qual st f (Zce x qual (Zdg st) (Zdb st) (ZcX st) .none kV doc pm an cdv ct) := ⟨⟨oc, od, kV, doc, pm, an, cdv, ct, osl, rfl, l, c⟩, k⟩
end
section
variable {X : Cx}
theorem pv (i : Nat) {x : Str} {pos : Pos} (hN : autoParam (X.N[i]? = some x) L2.Internal.auR._auto_1) (hv : Vis X.env.scope x := by first | exact Or.inl rfl | exact Or.inr (Or.inl rfl) | exact Or.inr (Or.inr rfl)) (hd : autoParam ((x == ("__debug__" : Str)) = false) L2.Internal.auD._auto_1)
  (hcd : autoParam ((x == ("__classdict__" : Str)) = false) L2.Internal.auD._auto_1) : PE X (.Name x pos) (Zpg i) := Zpq hN hv hd hcd
end
theorem Zeq {A B : Prop} (h : B) : if false = true then A else B := by
 rw [if_neg Zcw]
 exact h
theorem ZeI {A B : Prop} (h : A) : if true = true then A else B := by
 rw [if_pos rfl]
 exact h
theorem ZqL {c A B : Prop} [Decidable c] (h1 : c -> A) (h2 : ¬ c -> B) : if c then A else B := by
 by_cases h : c
 ·rw [if_pos h]
  exact h1 h
 ·rw [if_neg h]
  exact h2 h
theorem Zrc {c A B : Prop} [Decidable c] (hc : c) (h : B) : if (!decide c) = true then A else B := by
 rw [decide_eq_true hc]
 exact Zeq h
noncomputable def Same (H H' : Hp) : Prop := ∀ b o, H b = some o -> H' b = some o
theorem Same.refl (H : Hp) : Same H H := fun _ _ h => h
theorem Same.trans {H H1 H2 : Hp} (a : Same H H1) (b : Same H1 H2) : Same H H2 := fun c o h => b c o (a c o h)
theorem Same.free {H H' : Hp} (e : Same H H') {l : Addr} (h : H' l = Option.none) : H l = Option.none := by
 cases q : H l with
 | none => rfl
 | some o =>
  rw [e l o q] at h
  cases h
theorem Same.seq {K : PySem.W.Frag} {H H' : Hp} {a : Addr} {xs : List V} (e : Same H H') (h : SqL K H a xs) : SqL K H' a xs := by
 rcases h with (h | ⟨o, h⟩) | h
 ·exact .inl (.inl (e _ _ h))
 ·exact .inl (.inr ⟨o, e _ _ h⟩)
 ·exact .inr h
section
variable {X : Cx}
end
section
variable {κ : Type} [DecidableEq κ]
end
end L2.Internal
namespace L2.Internal
open PySem PySem.Spec PyProof.Rows
section
variable {X : Cx}
theorem Zg1 {x : Str} {i : Int} {t : Tok} {pos : Pos} (hg : Gl X x) (hm : X.mg x = some (.int i t)) (hd : autoParam ((x == ("__debug__" : Str)) = false) L2.Internal.auD._auto_1) : PE X (.Name x pos) (tC (.int i)) := ZjK hg hm (show Zel (.int i) _ from ⟨t, rfl⟩) hd
theorem Zm2 {x y : Str} {t : Tok} {pos : Pos} (hg : Gl X x) (hm : X.mg x = some (.str y t)) (hd : autoParam ((x == ("__debug__" : Str)) = false) L2.Internal.auD._auto_1) : PE X (.Name x pos) (tC (.str y)) := ZjK hg hm (show Zel (.str y) _ from ⟨t, rfl⟩) hd
theorem Zm3 {x : Str} {a : Addr} {pos : Pos} (hg : Gl X x) (hm : X.mg x = some (.ref a)) (hd : autoParam ((x == ("__debug__" : Str)) = false) L2.Internal.auD._auto_1) : PE X (.Name x pos) (tC (.ref a)) := ZjK hg hm (show Zel (.ref a) _ from rfl) hd
theorem ZeY {x : Str} {n : String} {pos : Pos} (hg : Gl X x) (hm : X.mg x = none) (hv : bootBuiltins x = some (.type n)) (hn : autoParam (x ≠ "__name__") L2.Internal.auD._auto_1) (hd : autoParam ((x == ("__debug__" : Str)) = false) L2.Internal.auD._auto_1) : PE X (.Name x pos) (tC (.ty n)) := Zol hg hm hv (show Zel (.ty n) _ from rfl) hn hd
end
theorem Zeo : bootBuiltins "len" = some (.builtin "len") := by decide +kernel
theorem ZnR : bootBuiltins "all" = some (.builtin "all") := by decide +kernel
theorem ZnS : bootBuiltins "sum" = some (.builtin "sum") := by decide +kernel
theorem Zdc : bootBuiltins "isinstance" = some (.builtin "isinstance") := by decide +kernel
theorem ZnT : bootBuiltins "int" = some (.type "int") := by decide +kernel
theorem Zhq : bootBuiltins "str" = some (.type "str") := by decide +kernel
theorem ZoB : bootBuiltins "bool" = some (.type "bool") := by decide +kernel
theorem ZfH : bootBuiltins "list" = some (.type "list") := by decide +kernel
theorem ZdJ : bootBuiltins "tuple" = some (.type "tuple") := by decide +kernel
noncomputable def Zl3 : List Expr -> Option (List Str)
 | [] => some []
 | .Constant (.str x) _ _ :: r => (Zl3 r).map (x :: ·)
 | _ => none
noncomputable def ZpO (xs : List Str) : TA := fun _ H Q => Q (xs.map V.str) H
theorem Zl4 {X : Cx} : ∀ {es : List Expr} {xs : List Str}, Zl3 es = some xs -> PA X es (ZpO xs)
 | [], xs, h => by
  have e : xs = [] := (ZbM.inj h).symm
  subst e
  exact ZcT
 | .Constant (.str x) k p :: r, xs, h => by
  have h' : (Zl3 r).map (x :: ·) = some xs := h
  obtain ⟨ys, hy, e⟩ := ZbN.mp h'
  subst e
  have ih := Zl4 (X := X) hy
  intro pos pins s σ H Q I q
  exact ZcR (te := tC (.str x)) (t := ZpO ys) Zc0 ih rfl pos pins s σ H Q I q
noncomputable def Its (x : Str) : It := ⟨fun i _ => i < x.cps.size, fun i H v H' => H' = H /\ ∃ c, x.cps[i]? = some c /\ v = .str ⟨#[c]⟩, fun i _ => i = x.cps.size⟩
theorem ZkB {P : Program} {w : World} {K : PySem.W.Frag} {tg : Expr} (it : Addr) (T : String) (x : Str) (t : Tok)
  (hT : ["enumerate", "zip", "dict_itemiterator", "dict_reverseitemiterator", "odict_iterator", "itertools.zip_longest", "itertools.pairwise"].contains T = false)
  (W : ∀ A : Around, A.handled = none -> Walks P w A it [it] [it] x.cps.size (SignAt x) (fun i h => h.IsStrIter it T x t i))
  (hself : ∀ (A : Around) (i : Nat) (s : Shared) (Q : Value -> Shared -> Prop) (E : Value -> Shared -> Prop), s.heap.IsStrIter it T x t i -> Q (.ref it) s -> wpAny (model P w) A (pyIter (.ref it)) Q E s) :
  Zom P w K tg (Its x) [it] it (fun i h => h.IsStrIter it T x t i) where
 mem := by simp
 obj := fun i h st b hb => by
  have e : b = it := by simpa using hb
  subst e
  obtain ⟨o, e, c, d⟩ := st
  exact ⟨o, e, fun v z => by rw [d] at z; cases z⟩
 keep := fun i h h' st k => by
  obtain ⟨o, e, r⟩ := st
  exact ⟨o, k it (by simp) o e, r⟩
 item := by
  intro X hP hw hK hc i pins s σ H E I hf st hg
  subst hP hw hK
  obtain ⟨f0, f1, f2, f3, f4, f5⟩ := hf it (by simp)
  refine (W X.A (I.ok.hd hc)).item i s _ _ hg st fun v h' tk hv st' kk => ?_
  obtain ⟨c, u, hc', rfl⟩ := hv
  have I1 : Inv X pins σ H { s with heap := h', toks := tk } := I.turned (fun b o hb e => kk b o (by simpa using hb) e) f0 f1 f3 f4 f5
  obtain ⟨o, e, c1, d⟩ := id st'
  exact ⟨_, rfl, ZlH (s := { s with heap := h', toks := tk }) e c1 d hT ⟨.str ⟨#[c]⟩, H, I1, ⟨u, rfl⟩, ⟨rfl, c, hc', rfl⟩, st', fun b hb => (hf b hb).1⟩⟩
 done := by
  intro X hP hw hK hc i pins s σ H E I hf st hg
  subst hP hw hK
  obtain ⟨f0, f1, f2, f3, f4, f5⟩ := hf it (by simp)
  have hg' : i = x.cps.size := hg
  subst hg'
  exact (W X.A (I.ok.hd hc)).done s _ _ st fun h' tk kk => ⟨rfl, I.turned (fun b o hb e => kk b o (by simpa using hb) e) f0 f1 f3 f4 f5⟩
 self := fun A i s Q E st h => hself A i s Q E st h
section
variable {X : Cx} {tg : Expr}
noncomputable def iStr (tl : TE) : TI := fun σ H R => tl σ H fun v H1 => ∃ x, v = .str x /\ R (Its x) H1
theorem Zl5 {l : Expr} {tl : TE} (hl : PE X l tl) : PI X tg l (iStr tl) := by
 intro pins s σ H R I h
 refine thn (hl pins s σ H _ I h) fun v s1 ⟨y, H1, I1, r1, q1⟩ => ?_
 obtain ⟨x, e, q⟩ := q1
 subst e
 obtain ⟨t, rfl⟩ := r1
 have fp : ∀ b ∈ [s1.heap.objs.size], Zku X pins H1 b := fun b hb => by
  have e : b = s1.heap.objs.size := by simpa using hb
  subst e
  exact I1.fpOk (Zbz _) (I1.hok.fresh (Zbz _))
 cases ha : x.cps.all (· < 128)
 ·refine wpAny_pyIter_wide ha ?_
  exact ⟨s1.heap.objs.size, [s1.heap.objs.size], _, _, H1, rfl, I1.kept (t' := s1.toks) fun b o e => ZcM _ e,
   ZkB _ "str_iterator" x t (by decide) (fun A hA => Walks.strWide hA _ x t) (fun _ _ _ _ _ st h => wpAny_pyIter_striter_wide st h), ⟨_, ZcL _ rfl, rfl, rfl⟩, fp, q⟩
 ·refine wpAny_pyIter_ascii ha ?_
  exact ⟨s1.heap.objs.size, [s1.heap.objs.size], _, _, H1, rfl, I1.kept (t' := s1.toks) fun b o e => ZcM _ e,
   ZkB _ "str_ascii_iterator" x t (by decide) (fun A hA => Walks.strAscii hA _ x t) (fun _ _ _ _ _ st h => wpAny_pyIter_striter_ascii st h), ⟨_, ZcL _ rfl, rfl, rfl⟩, fp, q⟩
end
theorem ZoC {x : Str} {g : TG} {tb : TS} {D : Zih} {σ : St} {H : Hp} (Pv : Nat -> St -> Hp -> Prop) (h0 : Pv 0 σ H)
  (hs : ∀ i c σ H, x.cps[i]? = some c -> Pv i σ H -> g (.str ⟨#[c]⟩) σ H fun σ2 H2 => tb { D with nx := Pv (i + 1), ct := Pv (i + 1), bk := D.nx } σ2 H2) (hd : ∀ σ H, Pv x.cps.size σ H -> D.nx σ H) :
  ∃ W : Nat -> Nat -> St -> Hp -> Prop, (∃ m, W 0 m σ H) /\ ∀ i m σ H, W i m σ H ->
   ((Its x).stop i H /\ D.nx σ H) \/ ((Its x).go i H /\ ∃ N : St -> Hp -> Prop, (∀ σ' H', N σ' H' -> ∃ m', m' < m /\ W (i + 1) m' σ' H') /\ ∀ v H', (Its x).yld i H v H' -> g v σ H' fun σ2 H2 => tb { D with nx := N, ct := N, bk := D.nx } σ2 H2) := by
 refine ⟨fun i m σ H => m = x.cps.size - i /\ i <= x.cps.size /\ Pv i σ H, ⟨x.cps.size, by simp, ZbA _, h0⟩, ?_⟩
 rintro i m σ H ⟨rfl, hi, p⟩
 by_cases hlt : i < x.cps.size
 ·refine .inr ⟨hlt, Pv (i + 1), fun σ' H' p' => ⟨x.cps.size - (i + 1), by omega, rfl, hlt, p'⟩, fun v H' y => ?_⟩
  obtain ⟨e, c, hc, rfl⟩ := y
  subst e
  exact hs i c σ _ hc p
 ·have e : i = x.cps.size := by omega
  subst e
  exact .inl ⟨rfl, hd σ H p⟩
noncomputable def blk (X : Cx) (N : List Str) (scope : Scope) (cl : List (Str × Addr)) (C : Addr) (s₀ : Shared) (H₀ : Hp) (ex : List Addr) (pins : List (Addr × Obj)) : Cx :=
 { X with N := N, s₀ := s₀, H₀ := H₀, env := compEnvC scope cl C X.env, outer := X.stack, stack := X.stack, ex := ex, fn := fun _ => false, pn := X.pn ++ pins, xe := fun _ _ => False }
noncomputable def PTs (X : Cx) (cs : List Expr) (t : TT) : Prop :=
 ∀ (pins : List (Addr × Obj)) (s : Shared) (σ : St) (H : Hp) (Q : Bool -> Hp -> Prop), Inv X pins σ H s -> t σ H Q ->
  wpAny (model X.prog X.w) X.A (forIn cs true fun c r => if r = true then do let ok <- isTrue c X.env (eval c X.env); pure (ForInStep.yield ok) else pure (ForInStep.yield r)) (TP X pins σ Q) X.xe s
noncomputable def ZgJ : TT := fun _ H Q => Q true H
theorem ZeK {X : Cx} : PTs X [] ZgJ := fun pins s σ H Q I h => wpAny_pure ⟨H, I, h⟩
theorem Zl6 {X : Cx} {c : Expr} {t : TT} (h : PT X c t) : PTs X [c] t := fun pins s σ H Q I hw => wpAny_tests_one (h pins s σ H Q I hw)
structure Zlh (X : Cx) (N : List Str) (scope : Scope) (cl : List (Str × Addr)) (f : St -> St) (i : Nat) (x : Str) : Prop where
 kind : scope.kind = .function
 cell : ∀ y ∈ scope.names, y.2 ≠ .cell
 names : ∀ y ∈ scope.names, y.2 = .local -> scope.names.lookup y.1 = some .local
 clos : closureFor scope X.env = pure cl
 lk : ∀ y c, cl.lookup y = some c -> X.env.cells.lookup y = some c
 has : ∀ y, ((relabel scope X.env).names.lookup y = some .cell \/ (relabel scope X.env).names.lookup y = some .free) -> ∃ c, cl.lookup y = some c
 nd : N.Nodup
 ix : N[i]? = some x
 loc : scope.names.lookup x = some .local
 len : ∀ σ, σ.length = X.N.length -> (f σ).length = N.length
 val : ∀ (σ : St) (k : Nat) (y : Str) (v : V), N[k]? = some y -> (f σ)[k]? = some (some v) -> ∃ j : Nat, X.N[j]? = some y /\ σ[j]? = some (some v) /\ X.env.scope.names.lookup y = some .cell /\ (relabel scope X.env).names.lookup y = some .cell
theorem Zl7 {X : Cx} {N : List Str} {scope : Scope} {cl : List (Str × Addr)} {f : St -> St} {i : Nat} {x : Str} (B : Zlh X N scope cl f i x) {pins : List (Addr × Obj)} {σ : St} {H : Hp} {s : Shared} {h₁ : Heap} {tk : Nat} {m : Str -> Option Value} {ex : List Addr}
  (I : Inv X pins σ H s) (hex : ∀ b ∈ ex, Zku X pins H b /\ b < s.heap.objs.size) (keep : ∀ b o, s.heap.get? b = some o -> h₁.get? b = some o) (hn : h₁.Ns s.heap.objs.size m) :
  Inv (blk X N scope cl s.heap.objs.size s H ex pins) [] (f σ) H { s with heap := h₁, toks := tk } := by
 have nst : ∀ b, b ≠ X.env.locals -> b ∉ X.fs -> b ∉ frs X.stack := fun b h1 h2 hb => (Zaf.mp (I.stkSub b hb)).elim h1 h2
 have ltC : ∀ y c, X.env.cells.lookup y = some c -> c < s.heap.objs.size := fun y c e => by
  obtain ⟨v, o, ho, _⟩ := I.cell y c e
  exact ZcK ho
 refine ⟨⟨I.ok.mod, B.kind, I.ok.glob, I.ok.blt, Zbz _, fun y z c h1 h2 => I.ok.inj y z c (B.lk y c h1) (B.lk z c h2), fun y hy => B.has y hy, fun y c h => (nomatch h), I.ok.hd, I.ok.frames, .inl rfl, fun b hb => ?_, I.bs, Zbw I.ok.bsz I.sz, fun b o e hb => ?_, fun b hb => ?_, I.stack, I.stkFree⟩,
  rfl, I.bare, Un.kept keep, ⟨m, hn, fun k y v e1 e2 e3 => ?_⟩, fun y c e => ?_, I.hok.fresh (Zbz _), fun y c e => I.freeC y c (B.lk y c e), fun p hp => ?_, I.hok.kept keep, B.len σ I.len⟩
 ·obtain ⟨⟨_, _, _, _, hc, _⟩, lt⟩ := hex b hb
  exact ⟨Zbv lt, fun y c e => hc y c (B.lk y c e)⟩
 ·obtain ⟨⟨_, _, _, h4, _, _⟩, _⟩ := hex b hb
  rcases h4 with z | z
  ·exact I.ok.noex b o e z
  ·exact absurd (Zbt (ZcK (I.ok.bs b o e).1) z) (Zbu _)
 ·obtain ⟨⟨_, h2, h3, _, _, _⟩, _⟩ := hex b hb
  exact nst b h2 h3
 ·obtain ⟨j, h1, h2, h3, h4⟩ := B.val σ k y v e1 e2
  obtain ⟨m', _, hl⟩ := I.loc
  obtain ⟨u, r, l⟩ := hl j y v h1 h2 (.inr (.inl h3))
  refine ⟨u, r, ?_⟩
  rcases l with ⟨hk, _⟩ | ⟨_, c, hc, z⟩
  ·have hk' : X.env.scope.names.lookup y = some .local := hk
   rw [h3] at hk'
   cases hk'
  ·obtain ⟨c', hc'⟩ := B.has y (.inl h4)
   have e : c' = c := ZbM.inj ((B.lk y c' hc').symm.trans hc)
   subst e
   obtain ⟨o, ho, hd⟩ := z
   exact .inr ⟨.inl h4, c', hc', o, keep _ o ho, hd⟩
 ·obtain ⟨v, o, ho, hd⟩ := I.cell y c (B.lk y c e)
  exact ⟨v, o, keep _ o ho, hd⟩
 ·rw [Zar] at hp
  obtain ⟨e, n, ne, nf, d⟩ := I.pin p hp
  exact ⟨keep _ _ e, n, Zbv (ZcK e), nst _ ne nf, d⟩
theorem ZdU {env : Env} : ∀ {names : List (Str × NameKind)} {x : Str} {k : NameKind},
  (names.map fun (n, k) => if (k == NameKind.free && env.scope.kind == .function && env.kindOf n == some .cell) then (n, NameKind.cell) else (n, k)).lookup x = some k ->
  ∃ k0, names.lookup x = some k0 /\ (k = k0 \/ (k0 = .free /\ k = .cell))
 | [], _, _, h => by simp at h
 | (n, k0) :: r, x, k, h => by
  have ih := @ZdU env r x k
  have h : Zao x ((if (k0 == NameKind.free && env.scope.kind == .function && env.kindOf n == some .cell) = true then (n, NameKind.cell) else (n, k0)) :: (r.map fun (n, k) => if (k == NameKind.free && env.scope.kind == .function && env.kindOf n == some .cell) then (n, NameKind.cell) else (n, k))) = some k := h
  cases hx : x == n with
  | true =>
   by_cases hc : (k0 == NameKind.free && env.scope.kind == .function && env.kindOf n == some .cell) = true
   ·rw [if_pos hc] at h
    simp only [ZaN, hx] at h ⊢
    have hf : k0 = .free := by
     have hc' := hc
     simp only [Zcy] at hc'
     exact eq_of_beq hc'.1.1
    exact ⟨k0, rfl, .inr ⟨hf, (ZbM.inj h).symm⟩⟩
   ·rw [if_neg hc] at h
    simp only [ZaN, hx] at h ⊢
    exact ⟨k0, rfl, .inl (ZbM.inj h).symm⟩
  | false =>
   have h2 : (r.map fun (n, k) => if (k == NameKind.free && env.scope.kind == .function && env.kindOf n == some .cell) then (n, NameKind.cell) else (n, k)).lookup x = some k := by
    by_cases hc : (k0 == NameKind.free && env.scope.kind == .function && env.kindOf n == some .cell) = true
    ·rw [if_pos hc] at h; simp only [ZaN, hx] at h; exact h
    ·rw [if_neg hc] at h; simp only [ZaN, hx] at h; exact h
   obtain ⟨k1, e1, e2⟩ := ih h2
   exact ⟨k1, by simp only [ZaN, hx]; exact e1, e2⟩
theorem Zer {env : Env} (hk : env.scope.kind = .function) : ∀ {names : List (Str × NameKind)} {x : Str}, env.scope.names.lookup x = some .cell -> names.lookup x = some .free ->
  (names.map fun (n, k) => if (k == NameKind.free && env.scope.kind == .function && env.kindOf n == some .cell) then (n, NameKind.cell) else (n, k)).lookup x = some .cell
 | [], _, _, h => by simp at h
 | (n, k0) :: r, x, hc, h => by
  have ih := @Zer env hk r x hc
  show Zao x ((if (k0 == NameKind.free && env.scope.kind == .function && env.kindOf n == some .cell) = true then (n, NameKind.cell) else (n, k0)) :: _) = _
  cases hx : x == n with
  | true =>
   simp only [ZaN, hx] at h
   cases h
   have e : x = n := eq_of_beq hx
   have hc' : env.kindOf n = some .cell := by rw [<- e]; exact hc
   simp [ZaN, hx, hk, hc']
  | false =>
   simp only [ZaN, hx] at h
   by_cases hq : (k0 == NameKind.free && env.scope.kind == .function && env.kindOf n == some .cell) = true
   ·rw [if_pos hq]; simp only [ZaN, hx]; exact ih h
   ·rw [if_neg hq]; simp only [ZaN, hx]; exact ih h
theorem ZnU {X : Cx} {scope : Scope} {x : Str} (hk : scope.kind = .function) (hn : ∀ p ∈ scope.names, p.2 ≠ .cell /\ p.2 ≠ .free) (hl : ∀ y ∈ scope.names, y.2 = .local -> scope.names.lookup y.1 = some .local)
  (hx : scope.names.lookup x = some .local) (hc : closureFor scope X.env = pure []) : Zlh X [x] scope [] (fun _ => [none]) 0 x where
 kind := hk
 cell := fun y hy => (hn y hy).1
 names := hl
 clos := hc
 lk := fun y c h => by simp at h
 has := fun y h => by
  rcases h with h | h
  ·obtain ⟨k0, e, z⟩ := ZdU h
   have m := hn _ (PySem.mem_of_lookup e)
   rcases z with z | ⟨z, _⟩
   ·exact absurd z.symm m.1
   ·exact absurd z m.2
  ·obtain ⟨k0, e, z⟩ := ZdU h
   have m := hn _ (PySem.mem_of_lookup e)
   rcases z with z | ⟨z, _⟩
   ·exact absurd z.symm m.2
   ·exact absurd z m.2
 nd := by simp
 ix := rfl
 loc := hx
 len := fun _ _ => rfl
 val := fun σ k y v h1 h2 => by
  cases k with
  | zero => simp at h2
  | succ k => simp at h2
theorem blk1 {X : Cx} {scope : Scope} {x y : Str} {j : Nat} {c0 : Addr} (hk : scope.kind = .function) (hn : ∀ p ∈ scope.names, p.2 ≠ .cell /\ (p.2 = .free -> p.1 = y)) (hl : ∀ y ∈ scope.names, y.2 = .local -> scope.names.lookup y.1 = some .local)
  (hx : scope.names.lookup x = some .local) (hy : scope.names.lookup y = some .free) (hc : closureFor scope X.env = pure [(y, c0)]) (hc0 : X.env.cells.lookup y = some c0) (hok : X.env.scope.kind = .function) (hyo : X.env.scope.names.lookup y = some .cell)
  (hj : X.N[j]? = some y) : Zlh X [x, y] scope [(y, c0)] (fun σ => [none, σ.getD j none]) 0 x where
 kind := hk
 cell := fun y hy => (hn y hy).1
 names := hl
 clos := hc
 lk := fun z c h => by
  cases e : z == y with
  | true =>
   simp only [ZaN, e] at h
   have ez : z = y := eq_of_beq e
   rw [ez, hc0]
   exact h
  | false => simp only [ZaN, e, List.lookup_nil] at h; cases h
 has := fun z h => by
  have ez : z = y := by
   rcases h with h | h
   ·obtain ⟨k0, e, q⟩ := ZdU h
    have m := hn _ (PySem.mem_of_lookup e)
    rcases q with q | ⟨q, _⟩
    ·exact absurd q.symm m.1
    ·exact m.2 q
   ·obtain ⟨k0, e, q⟩ := ZdU h
    have m := hn _ (PySem.mem_of_lookup e)
    rcases q with q | ⟨q, _⟩
    ·exact m.2 q.symm
    ·exact m.2 q
  exact ⟨c0, by rw [ez]; simp [ZaN]⟩
 nd := by
  have e : x ≠ y := fun e => by rw [e, hy] at hx; cases hx
  simp [e]
 ix := rfl
 loc := hx
 len := fun _ _ => rfl
 val := fun σ k z v h1 h2 => by
  cases k with
  | zero => simp at h2
  | succ k =>
   cases k with
   | zero =>
    have ez : z = y := by simpa using h1.symm
    subst ez
    have e : σ.getD j none = some v := by simpa using h2
    rw [ZaO] at e
    refine ⟨j, hj, ?_, hyo, Zer hok hyo hy⟩
    cases q : σ[j]? with
    | none => rw [q] at e; cases e
    | some o => rw [q] at e; exact congrArg some e
   | succ k => simp at h2
noncomputable def LcP (J : It) (i : Nat) (tt : TT) (te : TE) (Q : VK) (τ : St) (H1 : Hp) (D : Addr) : Prop :=
 ∃ W : Nat -> Nat -> St -> Hp -> Prop, (∃ m, W 0 m τ (upd H1 D (.lst []))) /\ ∀ k m σ' H2, W k m σ' H2 ->
  (J.stop k H2 /\ Q (.ref D) H2) \/ (J.go k H2 /\ ∀ v H3, J.yld k H2 v H3 -> tt (σ'.set i (some v)) H3 fun ok H4 => if ok = true
   then te (σ'.set i (some v)) H4 fun y H5 => ∃ xs, H5 D = some (.lst xs) /\ xs.length < sizeLine /\ ∃ m', m' < m /\ W (k + 1) m' (σ'.set i (some v)) (upd H5 D (.lst (xs ++ [y])))
   else ∃ m', m' < m /\ W (k + 1) m' (σ'.set i (some v)) H4)
noncomputable def tLC (wi : TI) (f : St -> St) (i : Nat) (tt : TT) (te : TE) : TE := fun σ H Q => wi σ H fun J H1 => ∀ D, H1 D = none -> LcP J i tt te Q (f σ) H1 D
theorem Zgo {X : Cx} {elt iter : Expr} {x : Str} {px : Pos} {ifs : List Expr} {scope : Scope} {pos : Pos} {N : List Str} {cl : List (Str × Addr)} {f : St -> St} {i : Nat} {wi : TI} {tt : TT} {te : TE}
  (hc : X.calm = true) (B : Zlh X N scope cl f i x) (hi : PI X (.Name x px) iter wi)
  (htt : ∀ C s₀ H₀ ex pins, PTs (blk X N scope cl C s₀ H₀ ex pins) ifs tt) (hte : ∀ C s₀ H₀ ex pins, PE (blk X N scope cl C s₀ H₀ ex pins) elt te)
  (hs : autoParam (∀ x, foldedSetIterable iter X.env x = pure x) L2.Internal.auI._auto_1) : PE X (.ListComp elt [⟨.Name x px, iter, ifs, 0⟩] scope pos) (tLC wi f i tt te) := by
 intro pins s σ H Q I h
 rw [eval_ListComp]
 refine wpAny_comprehension_free (use := none) rfl hs B.clos B.kind B.names (thn (hi pins s σ H _ I h) fun xv s1 h1 => thn h1 fun itv s2 h2 => ?_)
 obtain ⟨it, fp, tn, J, H2, rfl, I2, T, st2, f2, q⟩ := h2
 have hD : H2 s2.heap.objs.size = none := I2.fresh
 obtain ⟨W, ⟨m0, w0⟩, turn⟩ := q _ hD
 refine wpAny_newObj_type (wpAny_newFunctionEnv B.cell (by intro y hy; simp at hy) (fun h₁ hns₁ hsb₁ => ?_) B.kind)
 have I3 : Inv X pins σ (upd H2 s2.heap.objs.size (.lst [])) { s2 with heap := s2.heap.push { cls := .type "list", data := .seq ([] : List Value).toArray } } := I2.lnew (its := []) (ys := []) (t' := s2.toks) .nil (ZbA _)
 have lt2 : ∀ b ∈ fp, b < s2.heap.objs.size := fun b hb => by
  obtain ⟨o, ho, _⟩ := T.obj _ _ st2 b hb
  exact ZcK ho
 have fp3 : ∀ b ∈ fp, Zku X pins (upd H2 s2.heap.objs.size (.lst [])) b := fun b hb => by
  refine ⟨?_, (f2 b hb).2⟩
  rw [Zc1 (Zbv (lt2 b hb))]
  exact (f2 b hb).1
 generalize hs3 : ({ s2 with heap := s2.heap.push { cls := .type "list", data := .seq ([] : List Value).toArray } } : Shared) = s3 at I3 hns₁ hsb₁ ⊢
 have eh : s2.heap.push { cls := .type "list", data := .seq ([] : List Value).toArray } = s3.heap := by rw [<- hs3]
 have lt3 : ∀ b ∈ fp, b < s3.heap.objs.size := fun b hb => by
  rw [<- eh, ZcN]
  exact Nat.lt_succ_of_lt (lt2 b hb)
 have old : ∀ b o, s3.heap.get? b = some o -> h₁.get? b = some o := fun b o e => hsb₁.extBut b o (Zbv (ZcK e)) (ZcM _ e)
 have I4 := Zl7 (tk := s3.toks + ([] : List (Str × Value)).length) B I3 (ex := fp) (fun b hb => ⟨fp3 b hb, lt3 b hb⟩) old hns₁
 have st4 : tn 0 h₁ := T.keep _ _ _ st2 fun b _ o e => old b o (by rw [<- eh]; exact ZcM _ e)
 have fpB : ∀ {H' : Hp}, (∀ b ∈ fp, H' b = none) -> ∀ b ∈ fp, Zku (blk X N scope cl s3.heap.objs.size s3 (upd H2 s2.heap.objs.size (.lst [])) fp pins) [] H' b := fun {H'} hn b hb => by
  obtain ⟨_, g2, g3, g4, g5, g6⟩ := f2 b hb
  refine ⟨hn b hb, Zbv (lt3 b hb), fun z => (Zaf.mp (I3.stkSub b z)).elim g2 g3, .inl hb, fun y c e => g5 y c (B.lk y c e), fun p hp => ?_⟩
  rw [Zar] at hp
  exact g6 p hp
 have loop : ∀ s4 : Shared, s4 = { s3 with heap := h₁, toks := s3.toks + ([] : List (Str × Value)).length } ->
   codeAny (model X.prog X.w) X.A (.compLoop (.ListComp elt [⟨.Name x px, iter, ifs, 0⟩] scope pos) 0 (.ref it) (.ref s2.heap.objs.size) (compEnvC scope cl s3.heap.objs.size X.env))
    (compPost (model X.prog X.w) X.A X.xe none (EP X pins σ Q) (.ref s2.heap.objs.size) s3.heap.objs.size) s4 := by
  rintro s4 rfl
  refine codeAny_compLoop_tests (I := fun n s' => ∃ k σ' H', Inv (blk X N scope cl s3.heap.objs.size s3 (upd H2 s2.heap.objs.size (.lst [])) fp pins) [] σ' H' s' /\ tn k s'.heap /\ (∀ b ∈ fp, H' b = none) /\ W k n σ' H') ?_ m0
   ⟨0, f σ, _, I4, st4, fun b hb => (fp3 b hb).1, w0⟩
  rintro n s5 ⟨k, σ5, H5, I5, st5, fr5, w5⟩
  rcases turn k n σ5 H5 w5 with ⟨stop, qn⟩ | ⟨go, step⟩
  ·refine wpAny_mono (T.done (blk X N scope cl s3.heap.objs.size s3 (upd H2 s2.heap.objs.size (.lst [])) fp pins) rfl rfl rfl hc k [] s5 σ5 H5 _ I5 (fpB fr5) st5 stop) (fun r s6 h6 => ?_) fun _ _ z => z
   obtain ⟨hr, I6⟩ := h6
   subst hr
   obtain ⟨m6, hn6, _⟩ := id I6.loc
   refine ⟨m6, hn6, fun h' sb => ?_⟩
   have nC : ∀ b o, s3.heap.get? b = some o -> b ≠ s3.heap.objs.size := fun b o e => Zbv (ZcK e)
   have u6 : Un (frs X.stack) fp (upd H2 s2.heap.objs.size (.lst [])) H5 s3.heap s6.heap := I6.base
   have u7 : Un (frs X.stack) fp (upd H2 s2.heap.objs.size (.lst [])) H5 s3.heap h' :=
    ⟨fun b o e z1 z2 z3 => (sb.2 b (nC b o e)).trans (u6.keep b o e z1 z2 z3), fun b o e z1 z2 z3 => by
     obtain ⟨sl, e1⟩ := u6.slot b o e z1 z2 z3
     exact ⟨sl, (sb.2 b (nC b o e)).trans e1⟩, u6.free, fun b o e z => by
     obtain ⟨o', e1⟩ := u6.there b o e z
     exact ⟨o', (sb.2 b (nC b o e)).trans e1⟩, u6.tups, u6.frzs, u6.tbls⟩
   have hok7 : HOk X.prog X.w H5 h' := fun b o e => (I6.hok b o e).stay (fun c w' hcc e1 => (sb.2 c (fun z => by
     have fr : H5 s3.heap.objs.size = none := I6.free
     rcases hcc with y | y
     ·rw [<- y, z, fr] at e; cases e
     ·rw [z, fr] at y; cases y)).trans e1) (fun _ z => z) fun _ _ z => z
   have I7 : Inv X pins σ H5 { s6 with heap := h' } := I3.call' (s' := { s6 with heap := h' }) (ch := fp) I6.os u7 hok7 I6.bare fun b hb => by
    obtain ⟨_, g2, g3, g4, g5, g6⟩ := f2 b hb
    exact ⟨g4, g2, g5, g6⟩
   exact ⟨.ref s2.heap.objs.size, H5, I7, rfl, qn⟩
  ·refine wpAny_mono (T.item (blk X N scope cl s3.heap.objs.size s3 (upd H2 s2.heap.objs.size (.lst [])) fp pins) rfl rfl rfl hc k [] s5 σ5 H5 _ I5 (fpB fr5) st5 go) (fun r s6 h6 => ?_) fun _ _ z => z
   obtain ⟨u, hr, h6⟩ := h6
   subst hr
   show wpAny _ _ (pure () >>= fun _ => assign (.Name x px) (compEnvC scope cl s3.heap.objs.size X.env) u) _ _ s6
   refine wpAny_bind (wpAny_mono (show wpAny _ _ (pure ()) _ _ s6 from h6) (fun _ s7 h7 => ?_) fun _ _ z => z)
   obtain ⟨v, H7, I7, r7, y7, st7, fr7⟩ := h7
   have I7' := I7.pinned (fpB fr7) (T.obj _ _ st7)
   refine wpAny_assign_Name (ZfS (X := blk X N scope cl s3.heap.objs.size s3 (upd H2 s2.heap.objs.size (.lst [])) fp pins) I7' B.nd B.ix (.inl (lookup_relabel_local B.loc)) r7 (fun s8 I8 => ?_) (.inr (lookup_relabel_local B.loc)))
   have back : ∀ {σ9 : St} {H9 : Hp} {s9 : Shared}, Inv (blk X N scope cl s3.heap.objs.size s3 (upd H2 s2.heap.objs.size (.lst [])) fp pins) ([] ++ ZhY fp s7.heap) σ9 H9 s9 -> (∃ m', m' < n /\ W (k + 1) m' σ9 H9) ->
     ∃ m', m' < n /\ ∃ k σ' H', Inv (blk X N scope cl s3.heap.objs.size s3 (upd H2 s2.heap.objs.size (.lst [])) fp pins) [] σ' H' s9 /\ tn k s9.heap /\ (∀ b ∈ fp, H' b = none) /\ W k m' σ' H' := fun {σ9 H9 s9} I9 q9 => by
    obtain ⟨m', hm, w9⟩ := q9
    refine ⟨m', hm, k + 1, σ9, H9, I9.unpinned, T.keep _ _ _ st7 fun b hb o e => (I9.pin (b, o) (Zam _ (Zam _ (Ze2 hb e)))).1, fun b hb => ?_, w9⟩
    obtain ⟨o, e, d⟩ := T.obj _ _ st7 b hb
    exact (I9.pin (b, o) (Zam _ (Zam _ (Ze2 hb e)))).2.1
   refine wpAny_mono (htt _ _ _ _ _ _ s8 _ H7 _ I8 (step v H7 y7)) (fun ok s9 h9 => ?_) fun _ _ z => False.elim z
   obtain ⟨H9, I9, q9⟩ := h9
   cases ok with
   | false =>
    rw [if_neg Zcw]
    rw [if_neg Zcw] at q9
    exact back I9 q9
   | true =>
    rw [if_pos rfl]
    rw [if_pos rfl] at q9
    refine wpAny_mono (hte _ _ _ _ _ _ s9 _ H9 _ I9 q9) (fun y s10 h10 => ?_) fun _ _ z => False.elim z
    obtain ⟨v10, H10, I10, r10, xs, hx10, hz, q10⟩ := h10
    refine wpAny_mono (Zdr (X := blk X N scope cl s3.heap.objs.size s3 (upd H2 s2.heap.objs.size (.lst [])) fp pins) _ s10 _ H10 (.ref s2.heap.objs.size) [v10] _ [y] (fun _ H11 => H11 = upd H10 s2.heap.objs.size (.lst (xs ++ [v10]))) I10 rfl (.cons r10 .nil) ⟨_, xs, v10, rfl, rfl, hx10, hz, rfl⟩) (fun _ s11 h11 => ?_) fun _ _ z => False.elim z
    obtain ⟨_, H11, I11, _, e11⟩ := h11
    subst e11
    exact back I11 q10
 exact codeAny_compStart_list (loop _ rfl) (T.self _ 0 _ _ _ st4 (loop _ rfl))
theorem ZoD {J : It} {xs : List V} {i : Nat} {tt : TT} {te : TE} {Q : VK} {τ : St} {H1 : Hp} {D : Addr} (p : V -> Bool) (g : V -> V) (hD : H1 D = none) (hz : xs.length <= sizeLine) (hτ : τ.set i none = τ)
  (hgo : ∀ k H, Same H1 H -> k < xs.length -> J.go k H) (hy : ∀ k H v H', Same H1 H -> J.yld k H v H' -> H' = H /\ xs[k]? = some v) (hst : ∀ H, Same H1 H -> J.stop xs.length H)
  (htt : ∀ (k : Nat) v H R, xs[k]? = some v -> Same H1 H -> R (p v) H -> tt (τ.set i (some v)) H R)
  (hte : ∀ (k : Nat) v H R, xs[k]? = some v -> p v = true -> Same H1 H -> R (g v) H -> te (τ.set i (some v)) H R)
  (hq : ∀ H', Same H1 H' -> H' D = some (.lst ((xs.filter p).map g)) -> Q (.ref D) H') : LcP J i tt te Q τ H1 D := by
 have sm : ∀ o, Same H1 (upd H1 D o) := fun o b u e => by rw [Zc1 (ZcY e hD)]; exact e
 refine ⟨fun k m σ' H2 => m = xs.length - k /\ k <= xs.length /\ (∃ o, σ' = τ.set i o) /\ H2 = upd H1 D (.lst (((xs.take k).filter p).map g)), ⟨xs.length, by simp, ZbA _, ⟨none, hτ.symm⟩, by simp⟩, ?_⟩
 rintro k m σ' H2 ⟨rfl, hk, ⟨o, rfl⟩, rfl⟩
 by_cases hlt : k < xs.length
 ·refine .inr ⟨hgo k _ (sm _) hlt, fun v H3 y => ?_⟩
  obtain ⟨e, hv⟩ := hy k _ v H3 (sm _) y
  subst e
  rw [ZaP]
  refine htt k v _ _ hv (sm _) ?_
  have tk : (xs.take (k + 1)).filter p = (xs.take k).filter p ++ (if p v then [v] else []) := take_succ_filter p xs k v hv
  have ll : ((xs.take k).filter p).length <= k := by
   refine Zbw (List.length_filter_le _ _) ?_
   rw [Zav]
   omega
  cases hp : p v with
  | true =>
   rw [if_pos rfl]
   refine hte k v _ _ hv hp (sm _) ?_
   refine ⟨_, ZcS, by rw [Zaq]; omega, xs.length - (k + 1), by omega, rfl, hlt, ⟨some v, rfl⟩, ?_⟩
   rw [Zoj, tk, hp, if_pos rfl, ZaQ]
   rfl
  | false =>
   rw [if_neg Zcw]
   refine ⟨xs.length - (k + 1), by omega, rfl, hlt, ⟨some v, rfl⟩, ?_⟩
   rw [tk, hp, if_neg Zcw, Zar]
 ·have e : k = xs.length := by omega
  subst e
  refine .inl ⟨hst _ (sm _), hq _ (sm _) ?_⟩
  rw [ZcS, ZaR]
section
variable {X : Cx}
theorem Zm4 {bs : List Bool} : ∀ {us : List Value}, ZdT (bs.map V.bl) us -> us = bs.map Value.bool := by
 induction bs with
 | nil => intro us r; rw [ZaF] at r; cases r; rfl
 | cons n ns ih =>
  intro us r
  rw [Zap] at r
  cases r with
  | cons r1 r2 =>
   cases (show _ = Value.bool n from r1)
   rw [ih r2]
   rfl
theorem Zli (bs : List Bool) : ((Zaa bs.length).all fun i => (bs[i]?).getD true) = bs.all id := by
 induction bs with
 | nil => rfl
 | cons b r ih =>
  rw [Zan, ZaS, ZaH, ZaT, ZaH, <- ih]
  rfl
theorem Zlj {h h' : Heap} {o : Obj} (hk : ∀ b x, b ∉ [h.objs.size] -> (h.push o).get? b = some x -> h'.get? b = some x) : ∀ b x, h.get? b = some x -> h'.get? b = some x :=
 fun b x e => hk b x (fun hm => by rw [ZaU.mp hm] at e; exact Zbu _ (ZcK e)) (ZcM _ e)
theorem ZkC (hc : X.calm = true) : Zgj X (.builtin "all") (fun xs H Q => ∃ (a : Addr) (bs : List Bool), xs = [.ref a] /\ SqL X.K H a (bs.map V.bl) /\ Q (.bl (bs.all id)) H) := by
 intro pins s σ H xs us Q I r h
 obtain ⟨a, bs, rfl, ha, q⟩ := h
 obtain ⟨u, rfl, ru⟩ := Zgk r
 cases ru
 obtain ⟨its, rv, pl, hz⟩ := I.list ha
 have ei := Zm4 rv
 subst ei
 have hl : s.heap.IsList a (bs.map Value.bool).toArray := pl.isList
 have hlt : a < s.heap.objs.size := by obtain ⟨_, e, _⟩ := hl; exact ZcK e
 refine call_all_walk (wpAny_pyIter_list hl ?_)
 refine ⟨s.heap.objs.size, [s.heap.objs.size, a], [s.heap.objs.size], (bs.map Value.bool).toArray.size, _, _, fun i => (bs[i]?).getD true, rfl, Walks.list (A := X.A.in1) (I.ok.hd hc) _ a (Zbv hlt) (bs.map Value.bool).toArray,
  ⟨⟨_, ZcL _ rfl, rfl, rfl⟩, hl.push _⟩, fun i v s' Q' E' hP hQ => ?_, fun h' tk hk => ?_⟩
 ·have hv : (bs.map Value.bool)[i]? = some v := by simpa using hP
  rw [Zay] at hv
  cases e : bs[i]? with
  | none => rw [e] at hv; cases hv
  | some b =>
   rw [e] at hv
   have e2 : v = Value.bool b := (ZbM.inj hv).symm
   subst e2
   simp only [e, Option.getD_some] at hQ
   exact wpAny_truthy_bool hQ
 ·have e : ((Zaa (bs.map Value.bool).toArray.size).all fun i => (bs[i]?).getD true) = bs.all id := by
   rw [ZaD, Zaq]; exact Zli bs
  rw [e]
  exact ⟨.bl (bs.all id), H, I.kept (Zlj hk), rfl, q⟩
theorem ZdS : Zgj X (.builtin "isinstance") (fun xs H Q => ∃ x v c t b, xs = [x, v] /\ (∀ u, Zel v u -> u = c) /\ ZjN X.K H x t /\ Zb7 X.K t c = some b /\ Q (.bl b) H) := by
 intro pins s σ H xs us Q I r h
 obtain ⟨x, v, c, t, b, rfl, hc, ht, hk, q⟩ := h
 obtain ⟨u, u', rfl, ru, ru'⟩ := ZpD r
 cases hc u' ru'
 exact ZlS I ru ht hk fun tk => ⟨.bl b, H, I.tok tk, rfl, q⟩
end
end L2.Internal
namespace L2.Internal
open PySem PySem.Spec PyProof.Rows
section
variable {X : Cx}
open Builtin Builtin.Str in
theorem ZpP {prog : Program} {w : World} {A : Around} {E : Value -> Shared -> Prop} {s : Shared} {x y : Str} {t u : Tok} {Q : Value -> Shared -> Prop} (hy : (y.length == 0) = false)
  (h : ∀ l k, l.map (·.1) = Txt.split x y -> Q (.ref s.heap.objs.size) { s with heap := s.heap.push { cls := .type "list", data := .seq (strValues l).toArray }, toks := k }) (hsz : x.length + 2 <= sizeLine) :
  wpAny (model prog w) A (call (.builtin "str.split") [.str x t, .str y u]) Q E s := by
 have hn : (partsBetween x (occurrences x y 0 x.length (x.length + 1)) y.length).length <= sizeLine := by
  have e1 := StrLaws.occ_length_le x y 0 x.length (x.length + 1)
  rw [length_partsBetween]; omega
 cases h1 : (decide (x.length < y.length) || decide (strKind x < strKind y))
 ·cases hf : (occurrences x y 0 x.length (x.length + 1)).isEmpty
  ·refine call_meets F.slot_str_split (typeIs_str _ _ _) F.entry_str_split (F.args_str_split_2 _ _) (meets_str_split_sep x y t u h1 hy hf (by omega) hn) ?_
   show wants Q E _ { s with toks := _, heap := s.heap.push { cls := .type "list", data := .seq (strsFrom s.toks (partsBetween x (occurrences x y 0 x.length (x.length + 1)) y.length)).toArray } }
   rw [strsFrom_eq]
   exact h (numbered s.toks _) _ ((numbered_texts _ _).trans ((if_neg (ne_true_of_eq_false h1)).trans (if_neg (ne_true_of_eq_false hf))).symm)
  ·exact call_meets F.slot_str_split (typeIs_str _ _ _) F.entry_str_split (F.args_str_split_2 _ _) (meets_str_split_not_found x y t u h1 hy hf)
    (h [(x, t)] s.toks ((if_neg (ne_true_of_eq_false h1)).trans (if_pos hf)).symm)
 ·exact call_meets F.slot_str_split (typeIs_str _ _ _) F.entry_str_split (F.args_str_split_2 _ _) (meets_str_split_cannot_occur x y t u h1)
   (h [(x, t)] s.toks (if_pos h1).symm)
theorem Zi5 : ∀ l : List (Str × Tok), ZdT ((l.map (·.1)).map V.str) (strValues l)
 | [] => .nil
 | p :: r => .cons ⟨p.2, rfl⟩ (Zi5 r)
theorem Zhr (x y : Str) : (Txt.split x y).length <= x.length + 2 := by
 unfold Txt.split
 split
 ·show 1 <= _; omega
 ·split
  ·show 1 <= _; omega
  ·have e1 := StrLaws.occ_length_le x y 0 x.length (x.length + 1)
   rw [length_partsBetween]; omega
noncomputable def ZpQ : V -> List V -> Hp -> VK -> Prop := fun x xs H Q => ∃ z y, x = .str z /\ xs = [.str y] /\ (y.length == 0) = false /\ z.length + 2 <= sizeLine /\ ∀ l, H l = none -> Q (.ref l) (upd H l (.lst ((Txt.split z y).map V.str)))
theorem Zm5 : MtR X "str.split" ZpQ := by
 intro pins s σ H x xs v us Q I rx rs h
 obtain ⟨z, y, rfl, rfl, hy, hz, q⟩ := h
 obtain ⟨t, rfl⟩ := rx
 obtain ⟨u, rfl, ru⟩ := Zgk rs
 obtain ⟨t', rfl⟩ := ru
 refine ZpP hy (fun l k hl => ?_) hz
 have hv := Zi5 l
 rw [hl] at hv
 exact ⟨.ref s.heap.objs.size, _, I.lnew hv (by rw [Zaq]; exact Zbw (Zhr z y) hz), rfl, q _ I.fresh⟩
noncomputable def PE1 (X : Cx) (e : Expr) (t : TE) : Prop :=
 ∀ (pins : List (Addr × Obj)) (s : Shared) (σ : St) (H : Hp) (Q : VK), Inv X pins σ H s -> 1 <= s.toks -> t σ H Q -> wpAny (model X.prog X.w) X.A (eval e X.env) (fun u s' => 1 <= s'.toks /\ EP X pins σ Q u s') X.xe s
theorem PE.one {e : Expr} {t : TE} (h : PE X e t) : PE1 X e t := fun pins s σ H Q I ht hw => wpAny_mono (wpAny_toks_of ht (h pins s σ H Q I hw)) (fun _ _ z => z) fun _ _ z => z.2
noncomputable def Zrd (to : TE) (y z : Str) : TE := fun σ H Q => to σ H fun v H1 => ∃ x, v = .str x /\ x.length + (x.length + 1) * z.length <= 16777216 /\ Q (.str (Txt.replace x y z)) H1
theorem Ziu {o : Expr} {to : TE} {y z : Str} {k1 k2 p1 p2 apos cpos} (ho : PE1 X o to) (hyz : (y == z) = false)
  (hbase : autoParam (attributeBase o "replace" X.env (eval o X.env) = eval o X.env) L2.Internal.auR._auto_1)
  (hfew : ((backTo cpos (starEach [.Constant (.str y) k1 p1, .Constant (.str z) k2 p2] X.env)).all (fun x => !x.1) && (backToKw cpos (keywordEach [] X.env)).all (fun x => x.1.isSome)
   && decide (([.Constant (.str y) k1 p1, .Constant (.str z) k2 p2] : List Expr).length + ([] : List Keyword).length + (if ([] : List Keyword).isEmpty then 0 else 1) < 30)) = true := by rfl)
  (hline : autoParam ((apos.endLine == cpos.line) = true) L2.Internal.auR._auto_1) : PE1 X (.Call (.Attribute o "replace" apos) [.Constant (.str y) k1 p1, .Constant (.str z) k2 p2] [] cpos) (Zrd to y z) := by
 intro pins s σ H Q I ht h
 refine wpAny_Call_method_late hbase hfew hline rfl (thn (ho pins s σ H _ I ht h) fun v s1 q1 => ?_)
 obtain ⟨ht1, v1, H1, I1, r1, x, rfl, hb, q⟩ := q1
 obtain ⟨t, rfl⟩ := r1
 refine ⟨"str", "str.replace", F.plainAttrs_str, F.slot_str_replace, F.type_str_replace, typeIs_str _ _ _, (fun _ e => nomatch e), ?_⟩
 refine Calls.callWith_builtin rfl (Calls.evalArgs_plain ?_)
 show wpAny _ _ (spliced ((false, eval (.Constant (.str y) k1 p1) X.env) :: backTo cpos (starEach [.Constant (.str z) k2 p2] X.env))) _ _ s1
 refine Calls.spliced_cons (Calls.Constant_str ?_)
 show wpAny _ _ (spliced ((false, eval (.Constant (.str z) k2 p2) X.env) :: backTo cpos (starEach [] X.env))) _ _ _
 refine Calls.spliced_cons (Calls.Constant_str (Calls.spliced_nil ?_))
 refine wpAny_mono (wpAny_toks_of (n := 1) (by show 1 <= s1.toks + 1 + 1; omega) (SC.replace (Q := EP X pins σ Q) (E := X.xe) (u := s1.toks) (v := s1.toks + 1) (Nat.pos_iff_ne_zero.mp ht1) (Nat.succ_ne_zero _) (Zbv (ZbB _)) hyz hb fun t' k => ⟨.str _, H1, ?_, ⟨t', rfl⟩, q⟩)) (fun _ _ z => z) fun _ _ z => z.2
 exact I1.tok k
noncomputable def Zpi (X : Cx) (st : List Stmt) (t : TS) : Prop :=
 ∀ (pins : List (Addr × Obj)) (s : Shared) (σ : St) (H : Hp) (D : Zih), Inv X pins σ H s -> 1 <= s.toks -> t D σ H -> wpAny (model X.prog X.w) X.A (execs st X.env) (SP X pins D) X.xe s
theorem Zm6 {i : Nat} {x : Str} {e : Expr} {te : TE} {pos pos' : Pos} {rest : List Stmt} {u : TS} (hN : X.N.Nodup) (hi : X.N[i]? = some x) (hx : Loc X.env.scope x) (he : PE1 X e te) (hr : PSs X rest u)
  (hs : autoParam (swapsWith e (some (.Name x pos')) pos.line X.env = pure false) L2.Internal.auR._auto_1) (hf : autoParam (X.fn x = true \/ X.env.scope.names.lookup x = some .local) L2.Internal.auL._auto_1) :
  Zpi X (.Assign [.Name x pos'] e pos :: rest) (ZnL (Zpv te (Zeb i)) u) := by
 intro pins s σ H D I ht h
 refine wpAny_execs_cons (wpAny_Assign_Name (thn (he pins s σ H _ I ht h) fun v s1 q1 => ?_) hs)
 obtain ⟨_, y, H1, I1, r1, q⟩ := q1
 exact ZfS I1 hN hi hx r1 (fun s2 I2 => hr pins s2 _ H1 D I2 q) hf
theorem Zpi.nox {st : List Stmt} {t : TS} (h : Zpi X.nox st t) : Zpi X st t := fun pins s σ H D I ht hw =>
 wpAny_mono (h pins s σ H D (I.wish _) ht hw) (fun _ _ q => q.unwish) fun _ _ z => False.elim z
end
theorem ZpR {CX : CXT} {P : Program} {w : World} {K : PySem.W.Frag} {mg : Str -> Option Value} {base : Heap} {k : Nat} {f : Addr} {name qual p : Str} {params : Arguments} {body : List Stmt} {scope : Scope} {dV kV doc pm cdv ct oc : Value} {an od : Option Addr}
  {osl : Array (Option Value)} {N : List Str} {sp : Sp} (lk : K.lookup f = some ⟨oc, od, .func (Zce name qual params body scope dV kV doc pm an cdv ct), osl⟩) (hcd : Zcf K cdv qual = true) (S : Zdf N [p] scope)
  (nc : ∀ x ∈ scope.names, x.2 ≠ .cell) (nc2 : ∀ n, cellsFrom n scope.names [] = []) (len : ∀ vs H Q E, sp vs H Q E -> vs.length = 1)
  (hbody : ∀ (A : Around) (outer : List Env) (s : Shared) (H : Hp) (vs : List V) (Q : VK) (E : XK), ZgS k (A.deeper (envOfC qual scope s.heap.objs.size f cdv)) -> sp vs H Q E ->
   ∃ t, Zpi (ZjP CX P w K mg base N qual scope f cdv A outer s H E) body t /\ t { nx := fun _ H' => Q .non H', rt := Q } (ZgZ N vs) H) :
  ZdK P w K mg base CX (k + 1) f (Zce name qual params body scope dV kV doc pm an cdv ct) [p] sp := by
 refine ⟨len, fun A outer s H args us vs Q E hr e0 hb r hsp => ?_⟩
 have hl := len _ _ _ _ hsp
 have hul : us.length = 1 := by rw [<- r.length]; exact hl
 obtain ⟨u, rfl⟩ : ∃ u, us = [u] := by
  match us, hul with
  | [u], _ => exact ⟨u, rfl⟩
 have KX : K.In s.heap := e0.mod.kin.keeps fun b o e => (e0.bs b o e).1
 have lim : s.heap.NoLimit := e0.mod.nolimit.keeps fun b o e => (e0.bs b o e).1
 have hpl : scope.names.lookup p = some .local := by
  rcases S.par p (by simp) with q | q
  ·exact q
  ·exact absurd rfl (nc _ (PySem.mem_of_lookup q))
 refine codeAny_call_function hr.depth (KX _ _ lk) rfl S.co S.gen rfl (Zcg KX hcd) (hb _ _ _ _ ?_)
 refine wpAny_newFunctionEnv nc (fun x hx => ?_) (fun h' hn hs => ?_) S.kind
 ·have e : x = (p, u) := by simpa using hx
  rw [e]
  exact hpl
 have keep : ∀ b o, s.heap.get? b = some o -> h'.get? b = some o := fun b o e => hs.extBut b o (Zbv (ZcK e)) (ZcM _ e)
 refine ⟨lim.keeps keep, codeAny_func ?_⟩
 obtain ⟨t, ht, hq⟩ := hbody A outer s H vs Q E (hr.deeper _) hsp
 have em : (fun x => (ZaV [p] [u]).reverse.lookup x) = bindL (envOfC qual scope s.heap.objs.size f cdv).kindOf (ZaV [p] [u]) fun _ => none := by
  funext x
  show (match x == p with | true => some u | false => none) = (if (envOfC qual scope s.heap.objs.size f cdv).kindOf p = some .local then fun y => if y = p then some u else none else fun _ => none) x
  rw [if_pos (show (envOfC qual scope s.heap.objs.size f cdv).kindOf p = some .local from hpl)]
  cases e : x == p with
  | true => rw [if_pos (eq_of_beq e)]
  | false => rw [if_neg (ne_of_beq_false e)]
 have x : InCallC s s.heap.objs.size (bindL (envOfC qual scope s.heap.objs.size f cdv).kindOf (ZaV [p] [u]) fun _ => none) (cellsFrom (s.heap.objs.size + 1) scope.names []) (bindC (envOfC qual scope s.heap.objs.size f cdv).kindOf (ZaV [p] [u]) fun _ => none)
   { s with heap := h', toks := s.toks + (ZaV [p] [u]).length } := by
  rw [nc2]
  refine ⟨⟨⟨h', _, rfl⟩, ?_, keep, Zbz _⟩, fun n c e => by simp at e, List.Pairwise.nil, fun n c e => by simp at e⟩
  rw [<- em]
  exact hn
 have I : Inv (ZjP CX P w K mg base N qual scope f cdv A outer s H E) [] (ZgZ N vs) H { s with heap := h', toks := s.toks + (ZaV [p] [u]).length } := ZiZ S hr.hd e0 hl r x
 have eenv : newEnv (Zce name qual params body scope dV kV doc pm an cdv ct).scope s.heap.objs.size (Zce name qual params body scope dV kV doc pm an cdv ct).globals (Zce name qual params body scope dV kV doc pm an cdv ct).closure
   ((Zce name qual params body scope dV kV doc pm an cdv ct).qualname ++ ".<locals>.") (some f) (Zce name qual params body scope dV kV doc pm an cdv ct).code none (Zce name qual params body scope dV kV doc pm an cdv ct).builtins = envOfC qual scope s.heap.objs.size f cdv := by
  unfold envOfC
  rw [nc2]
  rfl
 rw [eenv]
 have go := ht [] _ (ZgZ N vs) H _ I (by show 1 <= s.toks + 1; omega) hq
 refine wpAny_mono go (fun fl s' hs => ?_) fun e s' hs => hs
 have fin : ∀ {σ' : St} {H' : Hp} {v : V} {u : Value}, Inv (ZjP CX P w K mg base N qual scope f cdv A outer s H E) [] σ' H' s' -> Zel v u -> Q v H' -> CE outer P w H s Q u s' :=
  fun {σ' H' v u} J rv q => ⟨v, H', J.os, J.bare, J.base, J.hok, rv, q⟩
 cases fl with
 | ret u =>
  obtain ⟨v, σ', H', J, rv, q⟩ := hs
  exact fin J rv q
 | next =>
  obtain ⟨σ', H', J, q⟩ := hs
  exact fin (v := V.non) (u := Value.none) J rfl q
 | brk =>
  obtain ⟨_, _, _, q⟩ := hs
  exact False.elim q
 | cont =>
  obtain ⟨_, _, _, q⟩ := hs
  exact False.elim q
end L2.Internal
namespace L2.Internal
open PySem PySem.Spec PyProof.Rows
section
variable {X : Cx} {st : Stmt} {rest : List Stmt} {t u : TS}
end
end L2.Internal
namespace L2.Internal
open PySem PySem.Spec PyProof.Rows
section
variable {P : Program} {w : World} {H H' : Hp} {h h' : Heap} {a : Addr} {o : HO}
theorem ZeV.there (x : ZeV P w H h a o) : ∃ ob, h.get? a = some ob := by
 cases o with
 | lst xs => obtain ⟨_, _, _, _, e⟩ := x; exact ⟨_, e⟩
 | tup xs => obtain ⟨_, _, _, ⟨ob, e, _⟩⟩ := x; exact ⟨ob, e⟩
 | dK kvs => obtain ⟨_, _, _, _, ob, _, _, e, _⟩ := x; exact ⟨ob, e⟩
 | dT kvs => obtain ⟨_, _, _, _, ob, _, _, e, _⟩ := x; exact ⟨ob, e⟩
 | set S n => obtain ⟨ob, _, _, _, e, _⟩ := x; exact ⟨ob, e⟩
 | ins C dx fs => obtain ⟨_, _, _, e, _⟩ := x; exact ⟨_, e⟩
 | own y => exact x
 | xd fs => obtain ⟨_, ⟨ob, _, _, e, _⟩, _⟩ := x; exact ⟨ob, e⟩
 | rng lo hi => obtain ⟨_, _, _, e⟩ := x; exact ⟨_, e⟩
 | frz ob u => obtain ⟨e, _⟩ := x; exact ⟨_, e⟩
 | tbl ps => exact ⟨_, x⟩
 | met f y => exact ⟨_, x⟩
 | ext φ => exact x.2.1
end
structure Fl (P : Program) (w : World) (outer : List Env) (H : Hp) (s : Shared) (B : Heap) (H' : Hp) (s' : Shared) : Prop where
 os : s'.os = s.os
 bare : AllBare s'.gens
 un : Un (frs outer) [] H H' s.heap s'.heap
 hok : HOk P w H' s'.heap
 stay : B.StaysIn s'.heap
 trk : ∀ b u, H' b = some u -> ∃ o, B.get? b = some o
 old : ∀ b o, s.heap.get? b = some o -> b ∉ frs outer -> ∃ o', B.get? b = some o'
noncomputable def CXE (P : Program) (w : World) : CXT := fun outer H s E e s' => ∃ (ea : Addr) (cls a0 : Value) (B : Heap) (H' : Hp), e = .ref ea /\ Fl P w outer H s B H' s' /\ Heap.FlyingW B outer ea cls a0 s'.heap /\ E cls none H'
section
variable {X : Cx} {pins : List (Addr × Obj)} {σ : St} {H H' : Hp} {s s' : Shared} {B h : Heap}
theorem Inv.nst (I : Inv X pins σ H s) {b : Addr} (h1 : b ≠ X.env.locals) (h2 : b ∉ X.fs) : b ∉ frs X.stack := fun hb => (Zaf.mp (I.stkSub b hb)).elim h1 h2
theorem Inv.oldNe (I : Inv X pins σ H s) {b : Addr} {o : Obj} (e : X.s₀.heap.get? b = some o) : b ≠ X.env.locals := Zbv (Zbt (ZcK e) I.ok.above)
theorem Inv.flown (I : Inv X pins σ H s) (F : Fl X.prog X.w X.stack H s B H' s') (st : B.StaysIn h) (up : s'.heap.UpToSlots h) : Inv X pins σ H' { s' with heap := h } := by
 have J : Inv X pins σ H' s' := I.call' (ch := []) F.os F.un F.hok F.bare (fun b hb => nomatch hb)
 have ex : ∀ b o o0, s'.heap.get? b = some o -> s.heap.get? b = some o0 -> b ∉ frs X.stack -> h.get? b = some o := fun b o o0 e e0 hb => by
  obtain ⟨o1, e1⟩ := F.old b o0 e0 hb
  have e2 := F.stay b o1 e1
  rw [e] at e2
  cases e2
  exact st b o e1
 have fr : ∀ b o, b ∈ frs X.stack -> s'.heap.get? b = some o -> ∃ sl, h.get? b = some { o with slots := sl } := fun b o hb e => by
  obtain ⟨_, o1, e1, hd⟩ := J.stack.mem hb
  rw [e] at e1
  cases e1
  exact up b o e hd
 have cellK : ∀ c v, s'.heap.IsCell c v -> h.IsCell c v := fun c v ⟨o, ho, hd⟩ => by
  obtain ⟨sl, e⟩ := up c o ho (fun vs z => by rw [hd] at z; cases z)
  exact ⟨_, e, hd⟩
 refine ⟨J.ok, J.os, J.bare, ⟨fun b o e n hf hx => ?_, fun b o e n hf hx => ?_, J.base.free, fun b o e hx => ?_, J.base.tups, J.base.frzs, J.base.tbls⟩, ?_, fun y c e => ?_, J.free, J.freeC, fun p hp => ?_, fun b u e => ?_, J.len⟩
 ·exact ex b o o (J.base.keep b o e n hf hx) (I.base.keep b o e n hf hx) (I.nst (I.oldNe e) hf)
 ·obtain ⟨sl, e1⟩ := J.base.slot b o e n hf hx
  obtain ⟨_, o1, e2, hd⟩ := J.funs.mem hf
  rw [e1] at e2
  cases e2
  obtain ⟨sl', e3⟩ := up b _ e1 hd
  exact ⟨sl', e3⟩
 ·obtain ⟨o', e1⟩ := J.base.there b o e hx
  by_cases hb : b ∈ frs X.stack
  ·obtain ⟨sl, e2⟩ := fr b o' hb e1
   exact ⟨_, e2⟩
  ·obtain ⟨o0, e0⟩ := I.base.there b o e hx
   exact ⟨o', ex b o' o0 e1 e0 hb⟩
 ·obtain ⟨m, hn, hl⟩ := J.loc
  refine ⟨m, up.ns hn, fun i x v e1 e2 e3 => ?_⟩
  obtain ⟨u, r, l⟩ := hl i x v e1 e2 e3
  refine ⟨u, r, ?_⟩
  rcases l with l | ⟨k, c, e, z⟩
  ·exact .inl l
  ·exact .inr ⟨k, c, e, cellK _ _ z⟩
 ·obtain ⟨v, z⟩ := J.cell y c e
  exact ⟨v, cellK _ _ z⟩
 ·obtain ⟨e, n, ne, nf, d⟩ := J.pin p hp
  exact ⟨ex p.1 p.2 p.2 e (I.pin p hp).1 (I.nst ne nf), n, ne, nf, d⟩
 ·refine (J.hok b u e).stay (fun c v hc q => ?_) (fun _ z => z) fun _ _ z => z
  have tr : ∃ u', H' c = some u' := by
   rcases hc with z | z
   ·rw [z]; exact ⟨u, e⟩
   ·exact ⟨_, z⟩
  obtain ⟨u', hu⟩ := tr
  obtain ⟨o1, e1⟩ := F.trk c u' hu
  have e2 := F.stay c o1 e1
  rw [q] at e2
  cases e2
  exact st c v e1
theorem Inv.track {ea : Addr} {o : HO} (I : Inv X pins σ H s) (hn : H ea = none) (h0 : X.s₀.heap.get? ea = none) (hL : ea ≠ X.env.locals) (hC : ∀ x c, X.env.cells.lookup x = some c -> c ≠ ea) (hP : ∀ p ∈ X.pn ++ pins, p.1 ≠ ea)
  (new : ZeV X.prog X.w (upd H ea o) s.heap ea o) : Inv X pins σ (upd H ea o) s := by
 have ne : ∀ b u, H b = some u -> b ≠ ea := fun b u e z => by rw [z, hn] at e; cases e
 refine ⟨I.ok, I.os, I.bare, ⟨I.base.keep, I.base.slot, fun b ob e n hx => ?_, I.base.there, fun b xs e => ?_, fun b ob u e => ?_, fun b ps e => ?_⟩, I.loc, I.cell, ?_, fun x c e => ?_, fun p hp => ?_, fun b u e => ?_, I.len⟩
 ·rw [Zc1 (fun z => by rw [z, h0] at e; cases e)]
  exact I.base.free b ob e n hx
 ·have e1 := I.base.tups b xs e
  rw [Zc1 (ne b _ e1)]
  exact e1
 ·have e1 := I.base.frzs b ob u e
  rw [Zc1 (ne b _ e1)]
  exact e1
 ·obtain ⟨more, e1⟩ := I.base.tbls b ps e
  exact ⟨more, by rw [Zc1 (ne b _ e1)]; exact e1⟩
 ·rw [Zc1 (Ne.symm hL)]
  exact I.free
 ·rw [Zc1 (hC x c e)]
  exact I.freeC x c e
 ·obtain ⟨e, n, n2, nf, d⟩ := I.pin p hp
  exact ⟨e, by rw [Zc1 (hP p hp)]; exact n, n2, nf, d⟩
 ·by_cases hb : b = ea
  ·subst hb
   rw [ZcS] at e
   cases e
   exact new
  ·rw [Zc1 hb] at e
   exact (I.hok b u e).stay (fun _ _ _ q => q) (fun c z => by rw [Zc1 (ne c _ z)]; exact z) fun c xs z => by rw [Zc1 (ne c _ z)]; exact z
end
section
variable {P : Program} {w : World} {K : PySem.W.Frag} {mg : Str -> Option Value} {base : Heap} {N : List Str} {qual : Str} {scope : Scope} {f : Addr} {cd : Value} {A : Around} {outer : List Env} {s₀ : Shared} {H₀ : Hp} {E : XK}
theorem ZeQ : Zgm (CXE P w) (ZjP (CXE P w) P w K mg base N qual scope f cd A outer s₀ H₀ E) E := by
 intro pins σ H s e s' I hx
 obtain ⟨ea, cls, a0, B, H', rfl, F, fl, q⟩ := hx
 show wpAny _ _ (leaving _ (.ref ea)) _ _ s'
 refine wpAny_leaves_onW (outer := outer) I.ok.frames rfl fl fun h' fl' up => ?_
 have J := I.flown F fl'.1 up
 refine ⟨ea, cls, a0, B, H', rfl, ⟨J.os, J.bare, J.base, J.hok, fl'.1, F.trk, fun b o e hb => ?_⟩, fl', q⟩
 obtain ⟨o1, e1⟩ := I.base.there b o e (fun z => nomatch z)
 exact F.old b o1 e1 (I.nst (I.oldNe e) hb)
theorem ZpS {pins : List (Addr × Obj)} {σ : St} {H : Hp} {s : Shared} {h' : Heap} {ea : Addr} {cls : Value} {vs : List Value}
  (I : Inv (ZjP (CXE P w) P w K mg base N qual scope f cd A outer s₀ H₀ E) pins σ H s) (hx : Heap.MadeExcOf s.heap h' ea cls vs) (q : E cls none H) :
  (ZjP (CXE P w) P w K mg base N qual scope f cd A outer s₀ H₀ E).xe (.ref ea) { s with heap := h' } := by
 generalize hX : ZjP (CXE P w) P w K mg base N qual scope f cd A outer s₀ H₀ E = X at I
 have hst : X.stack = envOfC qual scope s₀.heap.objs.size f cd :: outer := by rw [<- hX]; rfl
 have B1 : ∀ b o, s.heap.get? b = some o -> b ∉ frs X.stack -> (ZbQ s.heap (frs X.stack)).get? b = some o := fun b o e hb => ZbR _ e hb
 have F : Fl X.prog X.w X.stack H s (ZbQ s.heap (frs X.stack)) H { s with heap := h' } := by
  refine ⟨rfl, I.bare, Un.kept hx.keeps, I.hok.kept hx.keeps, fun b o e => hx.keeps b o (ZbS _ e), fun b u e => ?_, fun b o e hb => ⟨o, B1 b o e hb⟩⟩
  obtain ⟨ob, eo⟩ := (I.hok b u e).there
  exact ⟨ob, B1 b ob eo fun hb => by rw [I.stkFree b hb] at e; cases e⟩
 have fr : s.heap.FunFrames (ZbQ s.heap (frs X.stack)) X.stack := PySem.W.funFrames_hide I.stack fun env he a ha => Zal.mpr ⟨env, he, ha⟩
 have hA : X.A.frames = some X.stack := I.ok.frames
 rw [hst] at fr hA F B1
 subst hX
 show wpAny _ _ (leaving _ (.ref ea)) _ _ _
 refine wpAny_leaves_madeW (outer := outer) hA rfl (fun b o e => ZbS _ e) fr hx fun h'' t fl _ _ up => ?_
 have J := I.flown F fl.1 up
 refine ⟨ea, cls, _, _, H, rfl, ⟨J.os, J.bare, J.base, J.hok, fl.1, F.trk, fun b o e hb => ?_⟩, fl, q⟩
 obtain ⟨o1, e1⟩ := I.base.there b o e (fun z => nomatch z)
 exact F.old b o1 e1 (I.nst (I.oldNe e) hb)
end
theorem ZoE {K : PySem.W.Frag} {h : Heap} {C : Addr} {bmB : List Value} {newId : String} (hk : K.In h) (z : Zch K C bmB newId = true) :
  ∃ bm N nm q bs hdct sn sub ab col dd k0 k1 k2 k3 k5 mN, h.get? C = some (excClassObj nm q C N bs bm hdct sn sub ab col dd k0 k1 k2 k3 k5 newId) /\ h.Ns N mN /\ mN "__init__" = none /\ OwnTail h bmB bm := by
 unfold Zch at z
 split at z
 case h_2 => cases z
 rename_i d1 c1 l1 look
 split at z
 case h_2 => cases z
 rename_i C1 tail a0 a1 a2 a3 nid a5 hmro hslots
 simp only [Zcy, beq_iff_eq, Bool.not_eq_true'] at z
 obtain ⟨⟨⟨⟨⟨rfl, rfl⟩, z3⟩, z4⟩, z5⟩, z6⟩ := z
 obtain ⟨x1, x2, x3, x4, x5, x6, x7, x8, x9, x10, x11⟩ := c1
 dsimp only at hmro z3 z5 z6
 subst hmro z3
 obtain ⟨ll⟩ := l1
 have hll : ll = [a0, a1, a2, a3, some (.builtin nid), a5] := hslots
 subst hll
 exact ⟨tail, x4, x1, x5, x2, x6, x7, x8, x9, x10, d1, a0, a1, a2, a3, a5, _, hk _ _ look, .of_isNs (PySem.W.isNs_of_in hk z5), PySem.W.nsMap_none_of_in hk z5 z6, PySem.W.tail_of_in hk z4⟩
noncomputable def VEbm : List Value := [.type "ValueError", .type "Exception", .type "BaseException", .type "object"]
noncomputable abbrev Zre (K : PySem.W.Frag) (C : Addr) : Prop := Zch K C VEbm "ValueError.__new__" = true
section
variable {X : Cx} {C : Addr} {E : XK} {x : Str} {np cpos pos : Pos} {e : Expr} {es : List Expr} {t : TA}
noncomputable def ZnV (X : Cx) (E : XK) : Prop := ∀ (pins : List (Addr × Obj)) (σ : St) (H : Hp) (s : Shared) (h' : Heap) (ea : Addr) (cls : Value) (vs : List Value), Inv X pins σ H s -> Heap.MadeExcOf s.heap h' ea cls vs -> E cls none H -> X.xe (.ref ea) { s with heap := h' }
theorem Zfx {P : Program} {w : World} {K : PySem.W.Frag} {mg : Str -> Option Value} {base : Heap} {N : List Str} {qual : Str} {scope : Scope} {f : Addr} {cd : Value} {A : Around} {outer : List Env} {s₀ : Shared} {H₀ : Hp} {E : XK} :
  ZnV (ZjP (CXE P w) P w K mg base N qual scope f cd A outer s₀ H₀ E) E := fun _ _ _ _ _ _ _ _ I hx q => ZpS I hx q
noncomputable def ZnW (C : Addr) (E : XK) (t : TA) : TS := fun _ σ H => t σ H fun vs H1 => vs.length <= sizeLine /\ E (.ref C) none H1
theorem ZeZ (hc : X.calm = true) (hl : ZnV X E) (xc : Zre X.K C) (hg : Gl X x) (hm : X.mg x = some (.ref C)) (ha : PA X (e :: es) t) (hst : autoParam (starEach (e :: es) X.env = (false, eval e X.env) :: starEach es X.env) L2.Internal.auR._auto_1)
  (hpl : autoParam ((backTo cpos (starEach es X.env)).any (·.1) = false) L2.Internal.auR._auto_1) (hd : autoParam ((x == ("__debug__" : Str)) = false) L2.Internal.auD._auto_1) : PS X (.Raise (some (.Call (.Name x np) (e :: es) [] cpos)) none pos) (ZnW C E t) := by
 intro pins s σ H D I h
 obtain ⟨tl, N, nm, q, bs, hdct, sn, sub, ab, col, dd, k0, k1, k2, k3, k5, mN, hC, hN, hni, T⟩ := ZoE I.mod.kin xc
 have kp : ∀ {s1 : Shared} {H1 : Hp}, Inv X pins σ H1 s1 -> ∀ b o, X.base.get? b = some o -> s1.heap.get? b = some o := fun I1 => I1.bk
 refine wpAny_Raise_call_subT (C := C) (nm := nm) (q := q) (N := N) (bs := bs) (bm := tl) (hdct := hdct) (sn := sn) (sub := sub) (ab := ab) (col := col) (dd := dd) (k0 := k0) (k1 := k1) (k2 := k2) (k3 := k3) (k5 := k5)
  Zco (mN := mN) (T.hasType Zco.hasBase) (I.ok.hd hc) ?_ hni (Zij I hg hm ⟨rfl, ?_⟩ hd)
 ·rw [hst]
  show (false || (backTo cpos (starEach es X.env)).any (·.1)) = false
  rw [hpl]
  rfl
 have h2 := ha cpos pins s σ H _ I h
 rw [hst] at h2 ⊢
 refine Calls.evalArgs_plain (wpAny_mono h2 (fun us s1 h3 => ?_) fun _ _ z => z)
 obtain ⟨vs, H1, I1, r, hz, q1⟩ := h3
 refine ⟨rfl, by rw [<- r.length]; exact hz, kp I1 _ _ hC, hN.keeps (kp I1), T.keeps (kp I1), fun h' ea hx => hl pins σ H1 s1 h' ea _ us I1 hx q1⟩
end
section
variable {P : Program} {w : World} {K : PySem.W.Frag} {mg : Str -> Option Value} {base : Heap}
theorem Fun.okE {x qual : Str} {st : Stmt} {f : Addr} {fd : FuncData} {N ps : List Str} {k : Nat} {sp : Sp} (F : Fun K x qual st f fd) (S : Zdf N ps (ZcX st)) (len : ∀ vs H Q E, sp vs H Q E -> vs.length = ps.length)
  (hbody : ∀ (cdv : Value) (A : Around) (outer : List Env) (s : Shared) (H : Hp) (vs : List V) (Q : VK) (E : XK), ZgS k (A.deeper (envOfC qual (ZcX st) s.heap.objs.size f cdv)) -> sp vs H Q E ->
   ∃ t, PSs (ZjP (CXE P w) P w K mg base N qual (ZcX st) f cdv A outer s H E) (Zdb st) t /\ t { nx := fun _ H' => Q .non H', rt := Q } (ZgZ N vs) H) : ZdK P w K mg base (CXE P w) (k + 1) f fd ps sp := by
 obtain ⟨oc, od, kV, doc, pm, an, cdv, ct, osl, efd, lk, hcd⟩ := F.ex
 subst efd
 exact ZpG lk hcd S len (fun A outer s H vs Q E hr h => hbody cdv A outer s H vs Q E hr h)
end
section
variable {X : Cx} {pins : List (Addr × Obj)} {σ : St} {H : Hp} {s : Shared}
end
section
variable {X : Cx} {CX : CXT} {k : Nat} {f Y : Addr} {fd : FuncData} {ps : List Str} {sp : Sp} {dvs : List V} {ds : List Value} {E : XK} {x y n : Str} {p pos pos' py hpos tpos : Pos} {e : Expr} {es : List Expr} {t : TA} {b₀ : Stmt} {body : List Stmt} {tb : TS} {i : Nat}
end
section
variable {X : Cx} {e : Expr} {es : List Expr} {te : TE} {pos : Pos}
noncomputable def tFV (te : TE) : TE := fun σ H Q => te σ H fun v H1 => (∃ x, v = .str x /\ x.length <= sizeLine /\ Q (.str x) H1) \/ ∃ i : Int, v = .int i /\ i.natAbs.log2 < 1920 /\ Q (.str (toString i)) H1
theorem Ziv (he : PE X e te) : PE X (.FormattedValue e (-1) none pos) (tFV te) := by
 intro pins s σ H Q I h
 refine wpAny_FormattedValue_plain (thn (he pins s σ H _ I h) fun u s1 ⟨v, H1, I1, r, q⟩ => ?_)
 rcases q with ⟨x, rfl, hz, q⟩ | ⟨i, rfl, hl, q⟩
 ·obtain ⟨t, rfl⟩ := r
  exact formatField_str (fun t' tk => ⟨.str x, H1, I1.tok tk, ⟨t', rfl⟩, q⟩) hz
 ·obtain ⟨t, rfl⟩ := r
  exact wpAny_formatField_int hl ⟨.str _, H1, I1.tok _, ⟨_, rfl⟩, q⟩
noncomputable def tFVr (te : TE) : TE := fun σ H Q => te σ H fun v H1 => ∃ x, v = .str x /\ (reprText x).length <= sizeLine /\ Q (.str (reprText x)) H1
theorem Zi6 (he : PE X e te) : PE X (.FormattedValue e 114 none pos) (tFVr te) := by
 intro pins s σ H Q I h
 refine wpAny_FormattedValue_repr (thn (he pins s σ H _ I h) fun u s1 ⟨v, H1, I1, r, q⟩ => ?_)
 obtain ⟨x, rfl, hz, q⟩ := q
 obtain ⟨t, rfl⟩ := r
 exact wpAny_pyReprObj_str (formatField_str (fun t' tk => ⟨.str _, H1, I1.tok tk, ⟨t', rfl⟩, q⟩) hz) hz
noncomputable def PJ (X : Cx) (es : List Expr) (t : Str -> TE) : Prop :=
 ∀ (pins : List (Addr × Obj)) (s : Shared) (σ : St) (H : Hp) (Q : VK) (acc : Str), Inv X pins σ H s -> t acc σ H Q -> wpAny (model X.prog X.w) X.A (joinParts acc (evalEach es X.env)) (EP X pins σ Q) X.xe s
noncomputable def tJ0 : Str -> TE := fun acc _ H Q => acc.length <= sizeLine /\ Q (.str acc) H
noncomputable def tJ (te : TE) (t : Str -> TE) : Str -> TE := fun acc σ H Q => te σ H fun v H1 => ∃ y, v = .str y /\ (acc ++ y).length <= sizeLine /\ t (acc ++ y) σ H1 Q
theorem Zgp : PJ X [] tJ0 := fun pins s σ H Q acc I h => joinParts_nil ⟨.str acc, H, I.tok _, ⟨_, rfl⟩, h.2⟩ h.1
theorem Zdu {t : Str -> TE} (he : PE X e te) (hr : PJ X es t) : PJ X (e :: es) (tJ te t) := by
 intro pins s σ H Q acc I h
 refine joinParts_cons (thn (he pins s σ H _ I h) fun u s1 ⟨v, H1, I1, r, q⟩ => ?_)
 obtain ⟨y, rfl, hz, q⟩ := q
 obtain ⟨t', rfl⟩ := r
 exact ⟨hz, hr pins s1 σ H1 Q _ I1 q⟩
theorem Zfy {e2 : Expr} {t : Str -> TE} (h : PJ X (e :: e2 :: es) t) : PE X (.JoinedStr (e :: e2 :: es) pos) (t Str.empty) := fun pins s σ H Q I hw => JoinedStr_many (h pins s σ H Q _ I hw)
end
end L2.Internal
namespace L2.Internal
open PySem PySem.Spec PyProof.Rows
theorem ZpT {P : Program} {w : World} {X : Cx} : Zgm (CXE P w) X E0 := fun _ _ _ _ _ _ _ h => by
 obtain ⟨_, _, _, _, _, _, _, _, z⟩ := h
 exact z.elim
section
variable {X : Cx}
theorem Zi7 : Zgj X (.type "int") (fun xs H Q => ∃ x n, xs = [.str x] /\ intText? x = some n /\ x.length <= 640 /\ Q (.int n) H) := by
 intro pins s σ H xs us Q I r h
 obtain ⟨x, n, rfl, hn, hl, q⟩ := h
 obtain ⟨u, rfl, rx⟩ := Zgk r
 obtain ⟨t, rfl⟩ := rx
 exact PySem.W.KIN.call_text hn hl ⟨.int n, H, I.tok _, ⟨_, rfl⟩, q⟩
end
inductive Dt where
 | flat (v : V)
 | tup (l : List Dt)
 | lst (l : List Dt)
mutual
inductive At (K : PySem.W.Frag) (H : Hp) : V -> Dt -> Prop where
 | flat {v : V} (h : ZgI v = true) : At K H v (.flat v)
 | tup {a : Addr} {xs : List V} {ds : List Dt} (h : SqT K H a xs) (hs : Ats K H xs ds) : At K H (.ref a) (.tup ds)
 | lst {a : Addr} {xs : List V} {ds : List Dt} (h : SqL K H a xs) (hs : Ats K H xs ds) : At K H (.ref a) (.lst ds)
inductive Ats (K : PySem.W.Frag) (H : Hp) : List V -> List Dt -> Prop where
 | nil : Ats K H [] []
 | cons {x : V} {d : Dt} {xs : List V} {ds : List Dt} (h : At K H x d) (hs : Ats K H xs ds) : Ats K H (x :: xs) (d :: ds)
end
mutual
noncomputable def eqD : Dt -> Dt -> Bool
 | .flat a, .flat b => eqV a b
 | .tup l, .tup m => Zlk l m
 | .lst l, .lst m => Zlk l m
 | _, _ => false
noncomputable def Zlk : List Dt -> List Dt -> Bool
 | [], [] => true
 | x :: xs, y :: ys => eqD x y && Zlk xs ys
 | _, _ => false
end
mutual
noncomputable def Zgq : Dt -> Nat
 | .flat _ => 0
 | .tup l => Zdd l + 1
 | .lst l => Zdd l + 1
noncomputable def Zdd : List Dt -> Nat
 | [] => 0
 | x :: xs => max (Zgq x) (Zdd xs)
end
theorem Ats.length {K : PySem.W.Frag} {H : Hp} : ∀ {xs : List V} {ds : List Dt}, Ats K H xs ds -> xs.length = ds.length
 | _, _, .nil => rfl
 | _, _, .cons _ t => by rw [Zan, Zan, Ats.length t]
theorem Ats.get {K : PySem.W.Frag} {H : Hp} : ∀ {xs : List V} {ds : List Dt} {j : Nat} {x : V}, Ats K H xs ds -> xs[j]? = some x -> ∃ d, ds[j]? = some d /\ At K H x d
 | _, _, 0, _, .cons h _, e => ⟨_, rfl, by cases e; exact h⟩
 | _, _, j + 1, _, .cons _ t, e => Ats.get (j := j) t e
 | _, _, _, _, .nil, e => by simp at e
theorem ZkD : ∀ (l m : List Dt), l.length ≠ m.length -> Zlk l m = false
 | [], [], h => absurd rfl h
 | x :: xs, y :: ys, h => by
  rw [Zlk, ZkD xs ys (fun e => h (by rw [Zan, Zan, e])), Zcz]
 | [], y :: ys, _ => by rw [Zlk]; all_goals simp
 | x :: xs, [], _ => by rw [Zlk]; all_goals simp
noncomputable def Zl8 (l m : List Dt) (j : Nat) : Bool := match l[j]?, m[j]? with
 | some a, some b => eqD a b
 | _, _ => false
theorem Zh7 : ∀ (l m : List Dt), l.length = m.length -> ((Zaa l.length).all fun j => Zl8 l m j) = Zlk l m
 | [], [], _ => by rw [Zlk]; rfl
 | x :: xs, y :: ys, h => by
  have ih := Zh7 xs ys (by simpa using h)
  rw [Zan, ZaS, ZaH, ZaT, Zlk, <- ih]
  rfl
 | [], _ :: _, h => by simp at h
 | _ :: _, [], h => by simp at h
theorem depDs_get : ∀ {l : List Dt} {j : Nat} {a : Dt}, l[j]? = some a -> Zgq a <= Zdd l
 | x :: xs, 0, a, e => by cases e; rw [Zdd]; exact ZbC ..
 | x :: xs, j + 1, a, e => by rw [Zdd]; exact Zbw (depDs_get (j := j) e) (ZbD ..)
 | [], _, _, e => by simp at e
theorem Zl9 {v : V} (h : ZgI v = true) : eqV v v = true := by
 cases v with
 | non => rfl
 | bl b => show (b == b) = true; simp
 | int i => show (i == i) = true; simp
 | str x => show (x == x) = true; simp
 | _ => exact absurd h Zcw
section
variable {X : Cx} {pins : List (Addr × Obj)} {σ : St} {H : Hp} {s : Shared}
noncomputable def Els (K : PySem.W.Frag) (H : Hp) (A : Around) (s : Shared) (ds es : List Dt) : Prop :=
 ∀ (j : Nat) (d1 d2 : Dt) (x y : V) (u v : Value), ds[j]? = some d1 -> es[j]? = some d2 -> Zel x u -> Zel y v -> At K H x d1 -> At K H y d2 -> SeqAt.EqAt A s u v (eqD d1 d2)
theorem els {A : Around} {xs ys : List V} {its its2 : List Value} {ds es : List Dt} (r : ZdT xs its) (r2 : ZdT ys its2) (hs : Ats X.K H xs ds) (hs' : Ats X.K H ys es) (EL : Els X.K H A s ds es) :
  ∀ j (h1 : j < its.toArray.size) (h2 : j < its2.toArray.size), SeqAt.EqAt A s its.toArray[j] its2.toArray[j] (Zl8 ds es j) := fun j h1 h2 => by
 have l1 := r.length
 have l2 := r2.length
 have h1' : j < xs.length := by simp only [ZaD] at h1; omega
 have h2' : j < ys.length := by simp only [ZaD] at h2; omega
 obtain ⟨w1, e1, q1⟩ := r.get (ZaW h1')
 obtain ⟨w2, e2, q2⟩ := r2.get (ZaW h2')
 obtain ⟨d1, f1, p1⟩ := hs.get (ZaW h1')
 obtain ⟨d2, f2, p2⟩ := hs'.get (ZaW h2')
 have g1 : its.toArray[j] = w1 := by simpa using (Zai.mp e1).2
 have g2 : its2.toArray[j] = w2 := by simpa using (Zai.mp e2).2
 have ed : Zl8 ds es j = eqD d1 d2 := by unfold Zl8; rw [f1, f2]
 rw [g1, g2, ed]
 exact EL j d1 d2 _ _ _ _ f1 f2 q1 q2 p1 p2
theorem ZoF {ds es : List Dt} {n m : Nat} (h1 : n = ds.length) (h2 : m = es.length) : ((Zaa (min n m)).all (Zl8 ds es) && n == m) = eqD (.tup ds) (.tup es) := by
 subst h1 h2
 rw [eqD]
 by_cases hl : ds.length = es.length
 ·rw [<- Zh7 ds es hl, <- hl, Nat.min_self]
  simp
 ·rw [ZkD ds es hl, beq_eq_false_iff_ne.mpr hl, Zcz]
theorem ZpU {A : Around} {a b : Addr} {xs ys : List V} {ds es : List Dt} (I : Inv X pins σ H s) (h : SqT X.K H a xs) (hs : Ats X.K H xs ds) (h' : SqT X.K H b ys) (hs' : Ats X.K H ys es) (hu : A.units < cLine) (EL : Els X.K H A.in1 s ds es) :
  SeqAt.RcAt A s (.ref a) (.ref b) (eqD (.tup ds) (.tup es)) /\ SeqAt.RcNeAt A s (.ref a) (.ref b) (!eqD (.tup ds) (.tup es)) := by
 obtain ⟨its, r, pl, _⟩ := I.tuple h
 obtain ⟨its2, r2, pl2, _⟩ := I.tuple h'
 have e := els r r2 hs hs' EL
 have l1 : its.toArray.size = ds.length := by rw [ZaD, <- r.length, hs.length]
 have l2 : its2.toArray.size = es.length := by rw [ZaD, <- r2.length, hs'.length]
 have k1 := SeqAt.RcAt.tuples (A := A) (s := s) pl pl2 hu e
 have k2 := SeqAt.RcNeAt.tuples (A := A) (s := s) pl pl2 hu e
 rw [ZoF l1 l2] at k1 k2
 exact ⟨k1, k2⟩
end
section
variable {X : Cx}
end
end L2.Internal
namespace L2.Internal
open PySem PySem.Spec PyProof.Rows
noncomputable def Zm7 (P : Program) (w : World) (K : PySem.W.Frag) (a : Addr) (kvs : List (Key × V)) : Prop := (a == sysModules) = false /\ ∃ vs, KV kvs vs /\ ∀ h : Heap, K.In h -> h.DictOf (ZfE P w) a vs
theorem Zm8 {P : Program} {w : World} {K : PySem.W.Frag} {a : Addr} {es : Array DictEntry} {n : Nat} {l : List (Str × Tok × Addr)} (ha : (a == sysModules) = false) (hl : K.lookup a = some ⟨.type "dict", none, .dict es n, #[]⟩)
  (he : es.toList = l.map fun p => ⟨PyData.keyHash w.params p.1, .str p.1 p.2.1, .ref p.2.2⟩) (hn : (l.map (·.1)).Nodup) : Zm7 P w K a (l.map fun p => (Sum.inr p.1, V.ref p.2.2)) := by
 refine ⟨ha, l.map fun p => (Sum.inr p.1, Value.ref p.2.2), ?_, fun h hk => ?_⟩
 ·clear he hn
  induction l with
  | nil => exact .nil
  | cons p r ih => exact .cons ⟨rfl, rfl⟩ ih
 ·refine ⟨_, es, n, hk _ _ hl, ⟨rfl, rfl, rfl⟩, rfl, fun e hm => ?_, ?_, ?_⟩
  ·have hm' : e ∈ es.toList := by simpa using hm
   rw [he] at hm'
   obtain ⟨p, _, rfl⟩ := ZaX.mp hm'
   exact ⟨Sum.inr p.1, Zhf p.1 p.2.1, rfl⟩
  ·rw [he]
   clear he hn
   induction l with
   | nil => exact .nil
   | cons p r ih => exact .cons (Zhf p.1 p.2.1) rfl ih
  ·rw [ZaY]
   have e : (List.map ((fun (x : Key × Value) => x.1) ∘ fun (p : Str × Tok × Addr) => ((Sum.inr p.1 : Key), Value.ref p.2.2)) l) = (l.map (·.1)).map (Sum.inr : Str -> Key) := by
    rw [ZaY]
    rfl
   rw [e]
   exact List.Pairwise.map _ (fun a b h z => h (Sum.inr.inj z)) hn
noncomputable def ZoG (a : Addr) (kvs : List (Key × V)) (ty td : TE) : TE := fun σ H Q => ty σ H fun y H1 => td σ H1 fun x H2 => ∃ k, x = .ref a /\ y = kV k /\ Q (.bl (!(Zhk kvs k).isSome)) H2
noncomputable def Zrf (a : Addr) (kvs : List (Key × V)) (td ty : TE) : TE := fun σ H Q => td σ H fun x H1 => ty σ H1 fun y H2 => ∃ k v, x = .ref a /\ y = kV k /\ Zhk kvs k = some v /\ Q v H2
section
variable {X : Cx} {o i : Expr} {pos : Pos} {td ty : TE} {a : Addr} {kvs : List (Key × V)}
theorem Zma (d : Zm7 X.prog X.w X.K a kvs) (hi : PE X i ty) (ho : PE X o td) : PC X .NotIn i o (ZoG a kvs ty td) := by
 intro pins s σ H Q I h
 refine thn (hi pins s σ H _ I h) fun iv s1 ⟨y, H1, I1, ry, q1⟩ => thn (ho pins s1 σ H1 _ I1 q1) fun u s2 ⟨x, H2, I2, rx, k, ex, ey, q2⟩ => ?_
 subst ex ey
 obtain rfl : u = Value.ref a := rx
 obtain ⟨hs, vs, rel, dd⟩ := d
 refine wpAny_notIn_of (ZpH ry) hs (dd _ I2.kIn).mapOf ?_
 rw [<- (rel.val k).isSome_eq]
 exact ⟨.bl _, H2, I2.tok _, rfl, q2⟩
theorem ZoH (d : Zm7 X.prog X.w X.K a kvs) (ho : PE X o td) (hi : PE X i ty) (hs : ZrO i) : PE X (.Subscript o i pos) (Zrf a kvs td ty) := by
 intro pins s σ H Q I h
 refine Zov PySem.F.slot_dict_getitem.lookup hs (thn (ho pins s σ H _ I h) fun u s1 ⟨x, H1, I1, rx, q1⟩ => thn (hi pins s1 σ H1 _ I1 q1) fun iv s2 ⟨y, H2, I2, ry, k, v, ex, ey, hv, q2⟩ => ?_)
 subst ex ey
 obtain rfl : u = Value.ref a := rx
 obtain ⟨_, vs, rel, dd⟩ := d
 obtain ⟨w', hw, rw'⟩ := Zkn.some_of (v := v) (o := valueAt vs k) (by rw [<- hv]; exact rel.val k)
 exact ⟨(dd _ I2.kIn).typeIs, wpAny_getItem_of (ZpH ry) (dd _ I2.kIn).mapOf hw ⟨v, H2, I2.tok _, rw', q2⟩⟩
end
end L2.Internal
namespace L2.Internal
open PySem PySem.Spec PyProof.Rows
section
variable {X : Cx}
end
section
variable {X : Cx} {k : Nat} {f Y : Addr} {fd : FuncData} {ps : List Str} {sp : Sp} {dvs : List V} {ds : List Value} {x y n : Str} {p pos pos' py hpos tpos pn : Pos} {e : Expr} {es : List Expr} {t : TA} {b₀ : Stmt} {body : List Stmt} {tb : TS} {i : Nat}
end
end L2.Internal
namespace L2.Internal
end L2.Internal
namespace L2.Internal
open PySem PySem.Spec PyProof.Rows
end L2.Internal
namespace L2.Internal
open PySem PySem.Spec PyProof.Rows
section
variable {X : Cx} {pins : List (Addr × Obj)} {σ : St} {H : Hp} {s : Shared} {h' : Heap}
theorem Inv.turnedL {t' : Nat} {ch : List Addr} (I : Inv X pins σ H s) (k : ∀ b o, b ∉ ch -> s.heap.get? b = some o -> h'.get? b = some o) (hf : ∀ b ∈ ch, Zku X pins H b) : Inv X pins σ H { s with heap := h', toks := t' } := by
 have nit : ∀ b u, H b = some u -> b ∉ ch := fun b u e z => by
  have q := (hf b z).1
  rw [q] at e; cases e
 refine I.step (g' := s.gens) (d' := s.drawn) (ch := ch) (fun b hb => ?_) (fun b o _ _ hc e _ => k b o hc e) (fun b o _ _ hc e _ => ⟨o.slots, k b o hc e⟩) (fun _ _ _ _ n => n)
  (fun b o hc e => ⟨o, k b o hc e⟩) (fun _ _ e => e) (fun _ _ _ e => e) (fun b ps e => ⟨#[], by rw [e]; simp⟩) (fun m hm => ?_) (fun b u e => ?_) I.bare
 ·obtain ⟨_, f1, _, f3, f4, f5⟩ := hf b hb
  exact ⟨f3, f1, f4, f5⟩
 ·obtain ⟨o, es, ep, ho, r⟩ := hm
  exact ⟨o, es, ep, k _ o (fun z => (hf _ z).2.1 rfl) ho, r⟩
 ·refine (I.hok b u e).stay (fun c v hc q => k c v ?_ q) (fun _ q => q) fun _ _ q => q
  rcases hc with z | z
  ·rw [z]; exact nit b u e
  ·exact nit c _ z
theorem Inv.pairNew {T : Addr} {h : Heap} {tk : Nat} {ux uy : Value} {x y : V} (I : Inv X pins σ H s) (hT : s.heap.objs.size <= T) (J : Inv X pins σ H { s with heap := h, toks := tk }) (ht : Zlz h T #[ux, uy]) (rx : Zel x ux) (ry : Zel y uy) :
  H T = none /\ Inv X pins σ (upd H T (.tup [x, y])) { s with heap := h, toks := tk } := by
 have f := I.fpOk (H' := H) hT (I.hok.fresh hT)
 refine ⟨f.1, J.track f.1 ?_ f.2.1 f.2.2.2.2.1 f.2.2.2.2.2 ⟨by show 2 <= sizeLine; decide, [ux, uy], .cons rx (.cons ry .nil), ht⟩⟩
 cases q : X.s₀.heap.get? T with
 | none => rfl
 | some o => exact absurd (Zbt (ZcK q) (Zbw I.sz hT)) (Zbu _)
end
noncomputable def Itz (K : PySem.W.Frag) (a b : Addr) : It :=
 ⟨fun i H => ∃ xs ys x y, SqL K H a xs /\ SqL K H b ys /\ xs[i]? = some x /\ ys[i]? = some y,
   fun i H v H' => ∃ T x y, v = .ref T /\ H T = none /\ H' = upd H T (.tup [x, y]) /\ (∀ xs, SqL K H a xs -> xs[i]? = some x) /\ ∀ ys, SqL K H b ys -> ys[i]? = some y,
   fun i H => ∃ xs ys, SqL K H a xs /\ SqL K H b ys /\ i = min xs.length ys.length⟩
noncomputable def ZSt (z TI TO i1 i2 a b : Addr) (i : Nat) (h : Heap) : Prop := IsZip h z TI TO .none /\ IsPair h TI (.ref i1) (.ref i2) /\ (∃ u v, IsPair h TO u v) /\ h.IsListIter i1 a i /\ h.IsListIter i2 b i
theorem Zm9 {P : Program} {w : World} {K : PySem.W.Frag} {es : List Expr} {kk : Nat} {tp : Pos} {a b z TI TO i1 i2 : Addr} (D : ZipApart z TI TO i1 i2 a b) : Zom P w K (.Tuple es kk tp) (Itz K a b) [z, TI, TO, i1, i2] z (ZSt z TI TO i1 i2 a b) where
 mem := by simp
 obj := fun i h st c hc => by
  obtain ⟨g1, g2, ⟨u, v, g3⟩, ⟨o4, g4, _, d4⟩, ⟨o5, g5, _, d5⟩⟩ := st
  simp only [Zaf, ZaZ, or_false] at hc
  rcases hc with e | e | e | e | e <;> subst e
  ·exact ⟨_, g1, fun v q => nomatch q⟩
  ·exact ⟨_, g2, fun v q => nomatch q⟩
  ·exact ⟨_, g3, fun v q => nomatch q⟩
  ·exact ⟨_, g4, fun v q => by rw [d4] at q; cases q⟩
  ·exact ⟨_, g5, fun v q => by rw [d5] at q; cases q⟩
 keep := fun i h h' st k => by
  obtain ⟨g1, g2, ⟨u, v, g3⟩, g4, g5⟩ := st
  exact ⟨k z (by simp) _ g1, k TI (by simp) _ g2, ⟨u, v, k TO (by simp) _ g3⟩, g4.at fun o e => k i1 (by simp) o e, g5.at fun o e => k i2 (by simp) o e⟩
 item := by
  intro X hP hw hK hc i pins s σ H E I hf st hg
  subst hP hw hK
  obtain ⟨xs, ys, x, y, qx, qy, ex, ey⟩ := hg
  obtain ⟨i1s, r1, p1, z1⟩ := I.list qx
  obtain ⟨i2s, r2, p2, z2⟩ := I.list qy
  obtain ⟨g1, g2, g3, g4, g5⟩ := st
  obtain ⟨u3, v3, g3'⟩ := g3
  obtain ⟨ux, hux, rr1⟩ := r1.get ex
  obtain ⟨uy, huy, rr2⟩ := r2.get ey
  have hw : ∀ c ∈ [z, TO, i1, i2], Zku X pins H c := fun c hc => hf c (by simp only [Zaf, ZaZ, or_false] at hc ⊢; rcases hc with h | h | h | h <;> simp [h])
  refine wpAny_pyNext_zip_item D g1 g2 g3' g4 g5 p1.isList p2.isList (x := ux) (y := uy) (by simpa using hux) (by simpa using huy) fun h1 a1 a2 a3 a4 a5 a6 hk => ?_
  have kk1 : ∀ c o, c ∉ [z, TO, i1, i2] -> s.heap.get? c = some o -> h1.get? c = some o := fun c o hc e => hk c o (fun q => hc (by simp [q])) (fun q => hc (by simp [q])) (fun q => hc (by simp [q])) (fun q => hc (by simp [q])) e
  have J1 : Inv X pins σ H { s with heap := h1, toks := s.toks } := I.turnedL kk1 hw
  refine ⟨.ref s.heap.objs.size, rfl, wpAny_letOwnedTupleGo_zip a1 fun h2 a1' sb => ?_⟩
  have J2 : Inv X pins σ H { s with heap := h2, toks := s.toks } := Inv.turnedL (s := { s with heap := h1, toks := s.toks }) (h' := h2) (t' := s.toks) (ch := [z]) J1 (fun c o hc e => sb.extBut _ _ (fun q => hc (by simp [q])) e) fun c hc => hf c (by simp only [Zaf, ZaZ, or_false] at hc ⊢; simp [hc])
  have zlt : z < s.heap.objs.size := ZcK g1
  have ht2 : Zlz h2 s.heap.objs.size #[ux, uy] := ⟨_, sb.extBut _ _ (Zby zlt) a5, rfl, _, rfl, rfl⟩
  obtain ⟨fT, J3⟩ := I.pairNew (Zbz _) J2 ht2 rr1 rr2
  refine ⟨.ref s.heap.objs.size, _, J3, rfl, ⟨_, x, y, rfl, fT, rfl, fun l hl => by rw [I.list_inj hl qx]; exact ex, fun l hl => by rw [I.list_inj hl qy]; exact ey⟩,
   ⟨a1', sb.extBut _ _ D.TIz (hk _ _ D.TIz D.TITO D.TIi1 D.TIi2 g2), ⟨_, _, sb.extBut _ _ D.TOz a2⟩, a3.extBut sb.extBut D.i1z, a4.extBut sb.extBut D.i2z⟩, fun c hc => ?_⟩
  rw [Zc1 (fun q => ?_)]
  ·exact (hf c hc).1
  ·have lt : c < s.heap.objs.size := by
    obtain ⟨o4, e4, _⟩ := g4
    obtain ⟨o5, e5, _⟩ := g5
    simp only [Zaf, ZaZ, or_false] at hc
    rcases hc with e | e | e | e | e <;> subst e
    ·exact ZcK g1
    ·exact ZcK g2
    ·exact ZcK g3'
    ·exact ZcK e4
    ·exact ZcK e5
   exact absurd lt (by rw [q]; exact Zbu _)
 done := by
  intro X hP hw hK hc i pins s σ H E I hf st hg
  subst hP hw hK
  obtain ⟨xs, ys, qx, qy, ei⟩ := hg
  obtain ⟨i1s, r1, p1, z1⟩ := I.list qx
  obtain ⟨i2s, r2, p2, z2⟩ := I.list qy
  obtain ⟨g1, g2, g3, g4, g5⟩ := st
  have W := WalksT.zip2 (prog := X.prog) (w := X.w) (I.ok.hd hc) z TI TO i1 i2 a b D i1s.toArray i2s.toArray
  have l1 := r1.length
  have l2 := r2.length
  have e : i = min i1s.toArray.size i2s.toArray.size := by simp only [ZaD]; omega
  subst e
  exact W.done s _ _ ⟨g1, g2, g3, g4, g5, p1.isList, p2.isList⟩ fun h1 tk hk => ⟨rfl, I.turnedL hk fun c hc => hf c (by simp only [Zaf, ZaZ, or_false] at hc ⊢; rcases hc with h | h | h | h <;> simp [h])⟩
 self := fun _ _ _ _ _ st h => wpAny_pyIter_zip st.1 h
theorem ZpV : bootBuiltins "zip" = some (.type "zip") := by decide +kernel
theorem SqL.old {X : Cx} {pins : List (Addr × Obj)} {σ : St} {H : Hp} {s : Shared} {a : Addr} {xs : List V} (I : Inv X pins σ H s) (h : SqL X.K H a xs) : a < s.heap.objs.size := by
 obtain ⟨its, _, p, _⟩ := I.list h
 obtain ⟨o, e, _⟩ := p.isList
 exact ZcK e
noncomputable def iZip (K : PySem.W.Frag) (ta : TA) : TI := fun σ H R => ta σ H fun vs H1 => ∃ a b, vs = [.ref a, .ref b] /\ (∃ xs, SqL K H1 a xs) /\ (∃ ys, SqL K H1 b ys) /\ R (Itz K a b) H1
section
variable {X : Cx}
theorem ZpW {es : List Expr} {kk : Nat} {tp : Pos} {a b : Expr} {ta : TA} {p pos : Pos} (hg : Gl X "zip") (hm : X.mg "zip" = none) (ha : PA X [a, b] ta) (hs : autoParam (starEach [a, b] X.env = [(false, eval a X.env), (false, eval b X.env)]) L2.Internal.auR._auto_1) (hs2 : autoParam (starEach [b] X.env = [(false, eval b X.env)]) L2.Internal.auR._auto_1) :
  PI X (.Tuple es kk tp) (.Call (.Name "zip" p) [a, b] [] pos) (iZip X.K ta) := by
 intro pins s σ H R I h
 refine Call_ (Zhg I hg hm ZpV (ZcP (thn (ha pos pins s σ H _ I h) fun us s1 ⟨vs, H1, I1, r1, q1⟩ => ?_) (by rw [hs, hs2]) (by rw [hs2]; rfl)))
 obtain ⟨l1, l2, e, ⟨xs, q1⟩, ⟨ys, q2⟩, q⟩ := q1
 subst e
 obtain ⟨u, v, rfl, ru, rv⟩ := ZpD r1
 cases ru
 cases rv
 obtain ⟨i1s, w1, p1, z1⟩ := I1.list q1
 obtain ⟨i2s, w2, p2, z2⟩ := I1.list q2
 have o1 : @LT.lt Nat _ l1 s1.heap.objs.size := SqL.old I1 q1
 have o2 : @LT.lt Nat _ l2 s1.heap.objs.size := SqL.old I1 q2
 refine call_zip_2 p1.isList p2.isList fun h1 hz hTI hTO hi1 hi2 hsz hk => wpAny_pyIter_zip hz ?_
 have D : ZipApart (s1.heap.objs.size + 4) (s1.heap.objs.size + 2) (s1.heap.objs.size + 3) s1.heap.objs.size (s1.heap.objs.size + 1) l1 l2 := by constructor <;> exact fun (h : @Eq Nat _ _) => by omega
 refine ⟨_, _, _, _, H1, rfl, I1.kept (t' := s1.toks) hk, Zm9 D, ⟨hz, hTI, ⟨_, _, hTO⟩, hi1, hi2⟩, fun c hc => ?_, q⟩
 have ge : s1.heap.objs.size <= c := by
  simp only [Zaf, ZaZ, or_false] at hc
  rcases hc with h | h | h | h | h <;> rw [h] <;> first | exact Zbz _ | exact Nat.le_add_right _ _
 exact I1.fpOk ge (I1.hok.fresh ge)
end
section
variable {X : Cx}
end
theorem Zh8 {z : Str} : ∀ {cap : List (Str × Nat × Addr)}, z ∈ cap.map (·.1) -> ∃ c, (cap.map fun p => (p.1, p.2.2)).lookup z = some c
 | [], h => by simp at h
 | p :: r, h => by
  cases e : z == p.1 with
  | true => exact ⟨p.2.2, by simp only [Zap, ZaN, e]⟩
  | false =>
   have q : z ∈ r.map (·.1) := by
    rcases Zaf.mp h with y | y
    ·rw [y] at e; simp at e
    ·exact y
   obtain ⟨c, hc⟩ := Zh8 q
   exact ⟨c, by simp only [Zap, ZaN, e]; exact hc⟩
theorem Zpj {X : Cx} {scope : Scope} {x : Str} (ns : List Str) (cap : List (Str × Nat × Addr)) (hns : cap.map (·.1) = ns) (hk : scope.kind = .function) (hn : ∀ p ∈ scope.names, p.2 ≠ .cell /\ (p.2 = .free -> p.1 ∈ ns)) (hl : ∀ y ∈ scope.names, y.2 = .local -> scope.names.lookup y.1 = some .local)
  (hx : scope.names.lookup x = some .local) (hnd : (x :: ns).Nodup) (hc : closureFor scope X.env = pure (cap.map fun p => (p.1, p.2.2))) (hok : X.env.scope.kind = .function)
  (h : ∀ p ∈ cap, scope.names.lookup p.1 = some .free /\ X.env.cells.lookup p.1 = some p.2.2 /\ X.env.scope.names.lookup p.1 = some .cell /\ X.N[p.2.1]? = some p.1) :
  Zlh X (x :: ns) scope (cap.map fun p => (p.1, p.2.2)) (fun σ => none :: cap.map fun p => σ.getD p.2.1 none) 0 x where
 kind := hk
 cell := fun y hy => (hn y hy).1
 names := hl
 clos := hc
 lk := fun z c q => by
  have m := PySem.mem_of_lookup q
  obtain ⟨p, hp, e⟩ := ZaX.mp m
  cases e
  exact (h p hp).2.1
 has := fun z q => by
  refine Zh8 ?_
  rw [hns]
  rcases q with q | q
  ·obtain ⟨k0, e, q⟩ := ZdU q
   have m := hn _ (PySem.mem_of_lookup e)
   rcases q with q | ⟨q, _⟩
   ·exact absurd q.symm m.1
   ·exact m.2 q
  ·obtain ⟨k0, e, q⟩ := ZdU q
   have m := hn _ (PySem.mem_of_lookup e)
   rcases q with q | ⟨q, _⟩
   ·exact m.2 q.symm
   ·exact m.2 q
 nd := hnd
 ix := rfl
 loc := hx
 len := fun _ _ => by simp [<- hns]
 val := fun σ k z v h1 h2 => by
  cases k with
  | zero => simp at h2
  | succ k =>
   rw [<- hns, Za0, Zay] at h1
   rw [Za0, Zay] at h2
   cases e : cap[k]? with
   | none => rw [e] at h1; cases h1
   | some p =>
    rw [e] at h1 h2
    have ez : p.1 = z := ZbM.inj h1
    have ev : σ.getD p.2.1 none = some v := ZbM.inj h2
    subst ez
    obtain ⟨a1, a2, a3, a4⟩ := h p (Zaz e)
    rw [ZaO] at ev
    refine ⟨p.2.1, a4, ?_, a3, Zer hok a3 a1⟩
    cases q : σ[p.2.1]? with
    | none => rw [q] at ev; cases ev
    | some o => rw [q] at ev; exact congrArg some ev
section
variable {X : Cx}
end
structure ClsM (K : PySem.W.Frag) (C : Addr) (m : Str) (f : Addr) : Prop where
 ga : Zb3 K (.ref C) "__getattribute__" = some (some (.builtin "type.__getattribute__"))
 rd : ∃ mc, PySem.W.readsIn K C mc = true /\ PySem.W.findCls K (.ref C) mc m = some (.val (.ref f))
 kp : Zb4 K (.ref f) = true
section
variable {X : Cx} {CX : CXT} {k : Nat} {f C : Addr} {fd : FuncData} {ps : List Str} {sp : Sp} {dvs : List V} {ds : List Value} {E : XK} {m : Str} {pos apos : Pos} {e o : Expr} {es : List Expr} {t : TA}
end
section
variable {X : Cx}
theorem ZpX : bootBuiltins "max" = some (.builtin "max") := by decide +kernel
theorem Zmb (hc : X.calm = true) : Zgj X (.builtin "sum") (fun xs H Q => ∃ (a : Addr) (ns : List Int), xs = [.ref a] /\ SqL X.K H a (ns.map V.int) /\ ∀ n, Q (.int n) H) := by
 intro pins s σ H xs us Q I r h
 obtain ⟨a, ns, rfl, hq, q⟩ := h
 obtain ⟨u, rfl, ru⟩ := Zgk r
 cases ru
 obtain ⟨its, rv, p, hz⟩ := I.list hq
 obtain ⟨zs, e⟩ := (ZgH rv).allInts.items
 have l := p.isList
 rw [e] at l
 exact sum_intListG (I.ok.hd hc) l fun h' tk t' hk => ⟨.int _, H, I.kept (t' := tk) hk, ⟨_, rfl⟩, q _⟩
end
theorem Zna {X : Cx} {elt iter : Expr} {x y : Str} {j : Nat} {py spos : Pos} {px : Pos} {ifs : List Expr} {scope : Scope} {pos : Pos} {N : List Str} {cl : List (Str × Addr)} {f : St -> St} {i : Nat} {wi : TI} {tt : TT} {te : TE}
  (hc : X.calm = true) (B : Zlh X N scope cl f i x) (hi : PI X (.Name x px) iter wi)
  (htt : ∀ C s₀ H₀ ex pins, PTs (blk X N scope cl C s₀ H₀ ex pins) ifs tt) (hte : ∀ C s₀ H₀ ex pins, PE (blk X N scope cl C s₀ H₀ ex pins) elt te)
  (hN : X.N.Nodup) (hj : X.N[j]? = some y) (hy : Loc X.env.scope y) (hsw : autoParam (swapsWith (.ListComp elt [⟨.Name x px, iter, ifs, 0⟩] scope pos) (some (.Name y py)) spos.line X.env = pure true) L2.Internal.auR._auto_1) (hs : autoParam (∀ x, foldedSetIterable iter X.env x = pure x) L2.Internal.auI._auto_1)
  (hf : autoParam (X.fn y = true \/ X.env.scope.names.lookup y = some .local) L2.Internal.auL._auto_1) : PS X (.Assign [.Name y py] (.ListComp elt [⟨.Name x px, iter, ifs, 0⟩] scope pos) spos) (Zpv (tLC wi f i tt te) (Zeb j)) := by
 intro pins s σ H En I h
 rw [exec_Assign_Name_used _ _ _ _ hsw]
 refine wpAny_bind (wpAny_standAt (wpAny_bind ?_))
 show wpAny _ X.A (do let _ <- comprehension (.ListComp elt [⟨.Name x px, iter, ifs, 0⟩] scope pos) scope X.env _ (newList []) false (eval iter X.env) (some (assign (.Name y py) X.env))) _ _ s
 refine wpAny_bind (wpAny_mono (wpAny_comprehension_free (use := some (assign (.Name y py) X.env)) (Q := fun _ s' => SP X pins En .next s') rfl hs B.clos B.kind B.names (thn (hi pins s σ H _ I h) fun xv s1 h1 => thn h1 fun itv s2 h2 => ?_)) (fun _ s' hq => wpAny_pure (wpAny_pure hq)) fun _ _ e => e)
 obtain ⟨it, fp, tn, J, H2, rfl, I2, T, st2, f2, q⟩ := h2
 have hD : H2 s2.heap.objs.size = none := I2.fresh
 obtain ⟨W, ⟨m0, w0⟩, turn⟩ := q _ hD
 refine wpAny_newObj_type (wpAny_newFunctionEnv B.cell (by intro y hy; simp at hy) (fun h₁ hns₁ hsb₁ => ?_) B.kind)
 have I3 : Inv X pins σ (upd H2 s2.heap.objs.size (.lst [])) { s2 with heap := s2.heap.push { cls := .type "list", data := .seq ([] : List Value).toArray } } := I2.lnew (its := []) (ys := []) (t' := s2.toks) .nil (ZbA _)
 have lt2 : ∀ b ∈ fp, b < s2.heap.objs.size := fun b hb => by
  obtain ⟨o, ho, _⟩ := T.obj _ _ st2 b hb
  exact ZcK ho
 have fp3 : ∀ b ∈ fp, Zku X pins (upd H2 s2.heap.objs.size (.lst [])) b := fun b hb => by
  refine ⟨?_, (f2 b hb).2⟩
  rw [Zc1 (Zbv (lt2 b hb))]
  exact (f2 b hb).1
 generalize hs3 : ({ s2 with heap := s2.heap.push { cls := .type "list", data := .seq ([] : List Value).toArray } } : Shared) = s3 at I3 hns₁ hsb₁ ⊢
 have eh : s2.heap.push { cls := .type "list", data := .seq ([] : List Value).toArray } = s3.heap := by rw [<- hs3]
 have lt3 : ∀ b ∈ fp, b < s3.heap.objs.size := fun b hb => by
  rw [<- eh, ZcN]
  exact Nat.lt_succ_of_lt (lt2 b hb)
 have old : ∀ b o, s3.heap.get? b = some o -> h₁.get? b = some o := fun b o e => hsb₁.extBut b o (Zbv (ZcK e)) (ZcM _ e)
 have I4 := Zl7 (tk := s3.toks + ([] : List (Str × Value)).length) B I3 (ex := fp) (fun b hb => ⟨fp3 b hb, lt3 b hb⟩) old hns₁
 have st4 : tn 0 h₁ := T.keep _ _ _ st2 fun b _ o e => old b o (by rw [<- eh]; exact ZcM _ e)
 have fpB : ∀ {H' : Hp}, (∀ b ∈ fp, H' b = none) -> ∀ b ∈ fp, Zku (blk X N scope cl s3.heap.objs.size s3 (upd H2 s2.heap.objs.size (.lst [])) fp pins) [] H' b := fun {H'} hn b hb => by
  obtain ⟨_, g2, g3, g4, g5, g6⟩ := f2 b hb
  refine ⟨hn b hb, Zbv (lt3 b hb), fun z => (Zaf.mp (I3.stkSub b z)).elim g2 g3, .inl hb, fun y c e => g5 y c (B.lk y c e), fun p hp => ?_⟩
  rw [Zar] at hp
  exact g6 p hp
 have loop : ∀ s4 : Shared, s4 = { s3 with heap := h₁, toks := s3.toks + ([] : List (Str × Value)).length } ->
   codeAny (model X.prog X.w) X.A (.compLoop (.ListComp elt [⟨.Name x px, iter, ifs, 0⟩] scope pos) 0 (.ref it) (.ref s2.heap.objs.size) (compEnvC scope cl s3.heap.objs.size X.env))
    (compPost (model X.prog X.w) X.A X.xe (some (assign (.Name y py) X.env)) (fun _ s' => SP X pins En .next s') (.ref s2.heap.objs.size) s3.heap.objs.size) s4 := by
  rintro s4 rfl
  refine codeAny_compLoop_tests (I := fun n s' => ∃ k σ' H', Inv (blk X N scope cl s3.heap.objs.size s3 (upd H2 s2.heap.objs.size (.lst [])) fp pins) [] σ' H' s' /\ tn k s'.heap /\ (∀ b ∈ fp, H' b = none) /\ W k n σ' H') ?_ m0
   ⟨0, f σ, _, I4, st4, fun b hb => (fp3 b hb).1, w0⟩
  rintro n s5 ⟨k, σ5, H5, I5, st5, fr5, w5⟩
  rcases turn k n σ5 H5 w5 with ⟨stop, qn⟩ | ⟨go, step⟩
  ·refine wpAny_mono (T.done (blk X N scope cl s3.heap.objs.size s3 (upd H2 s2.heap.objs.size (.lst [])) fp pins) rfl rfl rfl hc k [] s5 σ5 H5 _ I5 (fpB fr5) st5 stop) (fun r s6 h6 => ?_) fun _ _ z => z
   obtain ⟨hr, I6⟩ := h6
   subst hr
   obtain ⟨m6, hn6, _⟩ := id I6.loc
   have I7 : Inv X pins σ H5 s6 := I3.call' (s' := s6) (ch := fp) I6.os I6.base I6.hok I6.bare fun b hb => by
    obtain ⟨_, g2, g3, g4, g5, g6⟩ := f2 b hb
    exact ⟨g4, g2, g5, g6⟩
   obtain ⟨oC, es, ep, hoC, hdC, hkC⟩ := id hn6
   have hCL : s3.heap.objs.size ≠ X.env.locals := Zby I3.lt
   have I8 : Inv X (pins ++ [(s3.heap.objs.size, oC)]) σ H5 s6 := I7.pins_of fun p hp => (Zag.mp hp).elim (fun z => I7.pin p (Zam _ z)) fun z => by
    have ez : p = (s3.heap.objs.size, oC) := by simpa using z
    subst ez
    exact ⟨hoC, I6.free, hCL, I3.nofs (Zbz _), fun v q => by rw [hdC] at q; cases q⟩
   show wpAny _ X.A (assign (.Name y py) X.env (.ref s2.heap.objs.size)) _ _ s6
   refine wpAny_assign_Name (ZfS (X := X) I8 hN hj hy (v := .ref s2.heap.objs.size) rfl (fun s7 I9 => ?_) hf)
   have pC := I9.pin (s3.heap.objs.size, oC) (Zam _ (Zam _ (by simp)))
   refine ⟨m6, ⟨oC, es, ep, pC.1, hdC, hkC⟩, fun h' sb => ?_⟩
   refine ⟨σ.set j (some (.ref s2.heap.objs.size)), H5, ?_, qn⟩
   exact Inv.turned (h' := h') (t' := s7.toks) (it := s3.heap.objs.size) I9.unpinned (fun b o hb e => (sb.2 b hb).trans e) pC.2.1 hCL (.inr I3.sz) (fun z c e q => by
    obtain ⟨v, q2⟩ := I3.cell z c e
    exact absurd (q ▸ q2.lt) (Zbu _)) fun p hp q => absurd (q ▸ ZcK (I3.pin p hp).1) (Zbu _)
  ·refine wpAny_mono (T.item (blk X N scope cl s3.heap.objs.size s3 (upd H2 s2.heap.objs.size (.lst [])) fp pins) rfl rfl rfl hc k [] s5 σ5 H5 _ I5 (fpB fr5) st5 go) (fun r s6 h6 => ?_) fun _ _ z => z
   obtain ⟨u, hr, h6⟩ := h6
   subst hr
   show wpAny _ _ (pure () >>= fun _ => assign (.Name x px) (compEnvC scope cl s3.heap.objs.size X.env) u) _ _ s6
   refine wpAny_bind (wpAny_mono (show wpAny _ _ (pure ()) _ _ s6 from h6) (fun _ s7 h7 => ?_) fun _ _ z => z)
   obtain ⟨v, H7, I7, r7, y7, st7, fr7⟩ := h7
   have I7' := I7.pinned (fpB fr7) (T.obj _ _ st7)
   refine wpAny_assign_Name (ZfS (X := blk X N scope cl s3.heap.objs.size s3 (upd H2 s2.heap.objs.size (.lst [])) fp pins) I7' B.nd B.ix (.inl (lookup_relabel_local B.loc)) r7 (fun s8 I8 => ?_) (.inr (lookup_relabel_local B.loc)))
   have back : ∀ {σ9 : St} {H9 : Hp} {s9 : Shared}, Inv (blk X N scope cl s3.heap.objs.size s3 (upd H2 s2.heap.objs.size (.lst [])) fp pins) ([] ++ ZhY fp s7.heap) σ9 H9 s9 -> (∃ m', m' < n /\ W (k + 1) m' σ9 H9) ->
     ∃ m', m' < n /\ ∃ k σ' H', Inv (blk X N scope cl s3.heap.objs.size s3 (upd H2 s2.heap.objs.size (.lst [])) fp pins) [] σ' H' s9 /\ tn k s9.heap /\ (∀ b ∈ fp, H' b = none) /\ W k m' σ' H' := fun {σ9 H9 s9} I9 q9 => by
    obtain ⟨m', hm, w9⟩ := q9
    refine ⟨m', hm, k + 1, σ9, H9, I9.unpinned, T.keep _ _ _ st7 fun b hb o e => (I9.pin (b, o) (Zam _ (Zam _ (Ze2 hb e)))).1, fun b hb => ?_, w9⟩
    obtain ⟨o, e, d⟩ := T.obj _ _ st7 b hb
    exact (I9.pin (b, o) (Zam _ (Zam _ (Ze2 hb e)))).2.1
   refine wpAny_mono (htt _ _ _ _ _ _ s8 _ H7 _ I8 (step v H7 y7)) (fun ok s9 h9 => ?_) fun _ _ z => False.elim z
   obtain ⟨H9, I9, q9⟩ := h9
   cases ok with
   | false =>
    rw [if_neg Zcw]
    rw [if_neg Zcw] at q9
    exact back I9 q9
   | true =>
    rw [if_pos rfl]
    rw [if_pos rfl] at q9
    refine wpAny_mono (hte _ _ _ _ _ _ s9 _ H9 _ I9 q9) (fun y s10 h10 => ?_) fun _ _ z => False.elim z
    obtain ⟨v10, H10, I10, r10, xs, hx10, hz, q10⟩ := h10
    refine wpAny_mono (Zdr (X := blk X N scope cl s3.heap.objs.size s3 (upd H2 s2.heap.objs.size (.lst [])) fp pins) _ s10 _ H10 (.ref s2.heap.objs.size) [v10] _ [y] (fun _ H11 => H11 = upd H10 s2.heap.objs.size (.lst (xs ++ [v10]))) I10 rfl (.cons r10 .nil) ⟨_, xs, v10, rfl, rfl, hx10, hz, rfl⟩) (fun _ s11 h11 => ?_) fun _ _ z => False.elim z
    obtain ⟨_, H11, I11, _, e11⟩ := h11
    subst e11
    exact back I11 q10
 exact codeAny_compStart_list (loop _ rfl) (T.self _ 0 _ _ _ st4 (loop _ rfl))
end L2.Internal
namespace L2.Internal
open PySem PySem.Spec PyProof.Rows
section
variable {prog : Program} {w : World} {A : Around} {E : Value -> Shared -> Prop} {s : Shared}
end
section
variable {prog : Program} {w : World} {A : Around} {E : Value -> Shared -> Prop} {s : Shared}
end
section
variable {X : Cx}
end
end L2.Internal
namespace L2.Internal
open PySem PySem.Spec PyProof.Rows
section
variable {prog : Program} {w : World} {A : Around} {E : Value -> Shared -> Prop} {s : Shared}
end
inductive Prs (H : Hp) : List V -> List (Str × V) -> Prop
 | nil : Prs H [] []
 | cons {a : Addr} {p : Str × V} {l : List V} {m : List (Str × V)} : H a = some (.tup [.str p.1, p.2]) -> Prs H l m -> Prs H (.ref a :: l) (p :: m)
section
variable {X : Cx} {pins : List (Addr × Obj)} {σ : St} {H : Hp} {d it t : Addr} {vs : List V} {A : Around} {R : Result -> Shared -> Prop}
end
section
variable {X : Cx}
end
end L2.Internal
namespace BO.Internal
open PySem L2.Internal
theorem sz {n : Nat} (h : n <= 100000) : n <= sizeLine := Zbw h (by decide)
theorem ZcV {H : Hp} {p : Addr} (h : H p = none) (o : HO) : Same H (upd H p o) := fun b u q => by rw [Zc1 (ZcY q h)]; exact q
theorem Zmc {α : Type} (l : List α) (i : Int) (h0 : 0 <= i) (h1 : i < (l.length : Int)) : ∃ c, atI l i = some c /\ c ∈ l := by
 have e : i = ((i.toNat : Nat) : Int) := by omega
 have hi : i.toNat < l.length := by omega
 refine ⟨l[i.toNat], ?_, Za1 hi⟩
 have z : atI l ((i.toNat : Nat) : Int) = some l[i.toNat] := Zdi (ZaW hi)
 rw [<- e] at z
 exact z
noncomputable def flN : V -> Bool
 | .non => true
 | .int _ => true
 | .str _ => true
 | _ => false
mutual
inductive Im (H : Hp) : V -> Dt -> Prop where
 | flat {v : V} (h : flN v = true) : Im H v (.flat v)
 | tup {a : Addr} {xs : List V} {ds : List Dt} (h : H a = some (.tup xs)) (hs : Ims H xs ds) : Im H (.ref a) (.tup ds)
inductive Ims (H : Hp) : List V -> List Dt -> Prop where
 | nil : Ims H [] []
 | cons {x : V} {d : Dt} {xs : List V} {ds : List Dt} (h : Im H x d) (hs : Ims H xs ds) : Ims H (x :: xs) (d :: ds)
end
mutual
inductive Dta (H : Hp) : V -> Dt -> Prop where
 | flat {v : V} (h : flN v = true) : Dta H v (.flat v)
 | tup {a : Addr} {xs : List V} {ds : List Dt} (h : H a = some (.tup xs)) (hs : Zfu H xs ds) : Dta H (.ref a) (.tup ds)
 | lst {a : Addr} {xs : List V} {ds : List Dt} (h : H a = some (.lst xs)) (hs : Zfu H xs ds) : Dta H (.ref a) (.lst ds)
inductive Zfu (H : Hp) : List V -> List Dt -> Prop where
 | nil : Zfu H [] []
 | cons {x : V} {d : Dt} {xs : List V} {ds : List Dt} (h : Dta H x d) (hs : Zfu H xs ds) : Zfu H (x :: xs) (d :: ds)
end
noncomputable def TK (H H' : Hp) : Prop := ∀ a xs, H a = some (.tup xs) -> H' a = some (.tup xs)
theorem Same.tk {H H' : Hp} (s : Same H H') : TK H H' := fun a xs e => s a _ e
mutual
theorem Im.mono {H H' : Hp} (k : TK H H') : ∀ {v : V} {d : Dt}, Im H v d -> Im H' v d
 | _, _, .flat h => .flat h
 | _, _, .tup h hs => .tup (k _ _ h) (Ims.mono k hs)
theorem Ims.mono {H H' : Hp} (k : TK H H') : ∀ {v : List V} {d : List Dt}, Ims H v d -> Ims H' v d
 | _, _, .nil => .nil
 | _, _, .cons h hs => .cons (Im.mono k h) (Ims.mono k hs)
end
mutual
theorem Dta.same {H H' : Hp} (k : Same H H') : ∀ {v : V} {d : Dt}, Dta H v d -> Dta H' v d
 | _, _, .flat h => .flat h
 | _, _, .tup h hs => .tup (k _ _ h) (Zfu.same k hs)
 | _, _, .lst h hs => .lst (k _ _ h) (Zfu.same k hs)
theorem Zfu.same {H H' : Hp} (k : Same H H') : ∀ {v : List V} {d : List Dt}, Zfu H v d -> Zfu H' v d
 | _, _, .nil => .nil
 | _, _, .cons h hs => .cons (Dta.same k h) (Zfu.same k hs)
end
theorem Ims.length {H : Hp} : ∀ {xs : List V} {ds : List Dt}, Ims H xs ds -> xs.length = ds.length
 | _, _, .nil => rfl
 | _, _, .cons _ t => by rw [Zan, Zan, Ims.length t]
theorem Zfu.get {H : Hp} : ∀ {xs : List V} {ds : List Dt} {j : Nat} {x : V}, Zfu H xs ds -> xs[j]? = some x -> ∃ d, ds[j]? = some d /\ Dta H x d
 | _, _, 0, _, .cons h _, e => ⟨_, rfl, by cases e; exact h⟩
 | _, _, j + 1, _, .cons _ t, e => by
  rw [Za0] at e
  obtain ⟨d, e1, e2⟩ := Zfu.get t e
  exact ⟨d, by rw [Za0]; exact e1, e2⟩
inductive ZlA {α β : Type} (F : α -> β -> Prop) : List α -> List β -> Prop
 | nil : ZlA F [] []
 | cons {a : α} {b : β} {l : List α} {m : List β} : F a b -> ZlA F l m -> ZlA F (a :: l) (b :: m)
theorem ZlA.imp {α β : Type} {F G : α -> β -> Prop} (f : ∀ a b, F a b -> G a b) : ∀ {l : List α} {m : List β}, ZlA F l m -> ZlA G l m
 | _, _, .nil => .nil
 | _, _, .cons h t => .cons (f _ _ h) (ZlA.imp f t)
theorem ZlA.get {α β : Type} {F : α -> β -> Prop} : ∀ {l : List α} {m : List β} {j : Nat} {x : α}, ZlA F l m -> l[j]? = some x -> ∃ y, m[j]? = some y /\ F x y
 | _, _, 0, _, .cons h _, e => ⟨_, rfl, by cases e; exact h⟩
 | _, _, j + 1, _, .cons _ t, e => by
  rw [Za0] at e
  obtain ⟨d, e1, e2⟩ := ZlA.get t e
  exact ⟨d, by rw [Za0]; exact e1, e2⟩
mutual
noncomputable def okD : Dt -> Prop
 | .flat _ => True
 | .tup l => l.length <= 100000 /\ Zrg l
 | .lst l => l.length <= 100000 /\ Zrg l
noncomputable def Zrg : List Dt -> Prop
 | [] => True
 | x :: xs => okD x /\ Zrg xs
end
noncomputable def prL (p : Str × Int) : Dt := .tup [.flat (.str p.1), .flat (.int p.2)]
noncomputable def prD (l : List (Str × Int)) : Dt := .tup (l.map prL)
inductive Us where
 | num (a p s : Int)
 | call (a p s x y : Int)
 | take (a p s : Int) (l : List (Str × Int))
 | case (a p s : Int) (l : List (Str × Int))
 | row (a p s x : Int)
noncomputable def hdD (n : Str) (a p s : Int) : List Dt := [.flat (.str n), .flat (.int a), .flat (.int p), .flat (.int s)]
noncomputable def Us.d : Us -> Dt
 | .num a p s => .tup (hdD "num" a p s)
 | .call a p s x y => .tup (hdD "call" a p s ++ [.flat (.int x), .flat (.int y)])
 | .take a p s l => .tup (hdD "take" a p s ++ [prD l])
 | .case a p s l => .tup (hdD "case" a p s ++ [prD l])
 | .row a p s x => .tup (hdD "row" a p s ++ [.flat (.int x)])
structure Mkg where
 s : Str
 f : Dt
 a : Int
 p : Int
noncomputable def Mkg.d (m : Mkg) : Dt := .tup [.flat (.str m.s), m.f, .flat (.int m.a), .flat (.int m.p)]
noncomputable def fU (a p s : V) : List (Str × V) := [("at", a), ("place", p), ("slot", s)]
noncomputable def fU1 (n : Str) (a p s x : V) : List (Str × V) := [("at", a), ("place", p), ("slot", s), (n, x)]
noncomputable def fU2 (a p s x y : V) : List (Str × V) := [("at", a), ("place", p), ("slot", s), ("arg", x), ("out", y)]
noncomputable def fM (s f a p : V) : List (Str × V) := [("shape", s), ("parts", f), ("at", a), ("place", p)]
noncomputable def fB (p0 p1 p2 p3 : Addr) (r : V) : List (Str × V) := [("points", .ref p0), ("makes", .ref p1), ("uses", .ref p2), ("flows", .ref p3), ("root", r)]
structure Cs where
 M : Addr
 N : Addr
 C : Addr
 T : Addr
 K : Addr
 R : Addr
 B : Addr
noncomputable def ZpY (c : Cs) (H : Hp) (v : V) : Us -> Prop
 | .num a p s => ∃ x dx, v = .ref x /\ H x = some (.ins c.N dx (fU (.int a) (.int p) (.int s)))
 | .call a p s y z => ∃ x dx, v = .ref x /\ H x = some (.ins c.C dx (fU2 (.int a) (.int p) (.int s) (.int y) (.int z)))
 | .take a p s l => ∃ x dx f, v = .ref x /\ H x = some (.ins c.T dx (fU1 "fields" (.int a) (.int p) (.int s) f)) /\ Im H f (prD l) /\ l.length <= 10
 | .case a p s l => ∃ x dx f, v = .ref x /\ H x = some (.ins c.K dx (fU1 "arms" (.int a) (.int p) (.int s) f)) /\ Im H f (prD l) /\ l.length <= 10
 | .row a p s y => ∃ x dx, v = .ref x /\ H x = some (.ins c.R dx (fU1 "out" (.int a) (.int p) (.int s) (.int y)))
noncomputable def ZpZ (c : Cs) (H : Hp) (v : V) (m : Mkg) : Prop := ∃ x dx f, v = .ref x /\ H x = some (.ins c.M dx (fM (.str m.s) f (.int m.a) (.int m.p))) /\ Im H f m.f /\ Zgq m.f <= 2 /\ okD m.f
noncomputable def Fz : HO -> Prop
 | .tup _ => True
 | .ins _ _ fs => fs.length ≠ 5 \/ ∃ v r, fs = (("at" : Str), v) :: r
 | _ => False
noncomputable def FK (H H' : Hp) : Prop := ∀ a o, H a = some o -> Fz o -> H' a = some o
theorem FK.tk {H H' : Hp} (k : FK H H') : TK H H' := fun a xs e => k a _ e trivial
theorem FK.trans {H H1 H2 : Hp} (a : FK H H1) (b : FK H1 H2) : FK H H2 := fun c o e f => b c o (a c o e f) f
theorem ZpY.mono {c : Cs} {H H' : Hp} {v : V} (k : FK H H') : ∀ {u : Us}, ZpY c H v u -> ZpY c H' v u
 | .num _ _ _, ⟨x, dx, e, h⟩ => ⟨x, dx, e, k _ _ h (.inr ⟨_, _, rfl⟩)⟩
 | .call _ _ _ _ _, ⟨x, dx, e, h⟩ => ⟨x, dx, e, k _ _ h (.inr ⟨_, _, rfl⟩)⟩
 | .take _ _ _ _, ⟨x, dx, f, e, h, i, n⟩ => ⟨x, dx, f, e, k _ _ h (.inr ⟨_, _, rfl⟩), i.mono k.tk, n⟩
 | .case _ _ _ _, ⟨x, dx, f, e, h, i, n⟩ => ⟨x, dx, f, e, k _ _ h (.inr ⟨_, _, rfl⟩), i.mono k.tk, n⟩
 | .row _ _ _ _, ⟨x, dx, e, h⟩ => ⟨x, dx, e, k _ _ h (.inr ⟨_, _, rfl⟩)⟩
theorem ZpZ.mono {c : Cs} {H H' : Hp} {v : V} {m : Mkg} (k : FK H H') : ZpZ c H v m -> ZpZ c H' v m
 | ⟨x, dx, f, e, h, i, d⟩ => ⟨x, dx, f, e, k _ _ h (.inl (by show 4 ≠ 5; decide)), i.mono k.tk, d⟩
theorem Zi8 {J : It} {i : Nat} {te : TE} {Q : VK} {τ : St} {H1 : Hp} {D : Addr} (n : Nat) (hn : n < sizeLine) (R : List V -> Hp -> Prop) (hR : ∀ xs H H', R xs H -> TK H H' -> R xs H') (hD : H1 D = none) (hτ : τ.set i none = τ)
  (hgo : ∀ k H, Same H1 H -> k < n -> J.go k H) (hst : ∀ H, Same H1 H -> J.stop n H) (h0 : R [] H1)
  (step : ∀ k H v H3 xs (Z : VK), Same H1 H -> k < n -> J.yld k H v H3 -> R xs H -> xs.length = k -> (∀ y H5, Same H H5 -> R (xs ++ [y]) H5 -> Z y H5) -> te (τ.set i (some v)) H3 Z)
  (hq : ∀ H' xs, Same H1 H' -> R xs H' -> xs.length = n -> H' D = some (.lst xs) -> Q (.ref D) H') : LcP J i ZgJ te Q τ H1 D := by
 have nd : ∀ (H5 : Hp) (xs ys : List V), H5 D = some (.lst xs) -> TK H5 (upd H5 D (.lst ys)) := fun H5 xs ys e a zs q => by rw [Zc1 (ZfF q e (fun z => nomatch z))]; exact q
 have up : ∀ {H : Hp} (o : HO), Same H1 H -> Same H1 (upd H D o) := fun {H} o S b u e => by rw [Zc1 (ZcY e hD)]; exact S b u e
 refine ⟨fun k m σ' H2 => m = n - k /\ k <= n /\ (∃ o, σ' = τ.set i o) /\ Same H1 H2 /\ ∃ xs, H2 D = some (.lst xs) /\ xs.length = k /\ R xs H2, ⟨n, by simp, ZbA _, ⟨none, hτ.symm⟩, ZcV hD _, [], ZcS, rfl, hR _ _ _ h0 (Same.tk (ZcV hD _))⟩, ?_⟩
 rintro k m σ' H2 ⟨rfl, hk, ⟨o, rfl⟩, S, xs, e, hl, hr⟩
 by_cases hlt : k < n
 ·refine .inr ⟨hgo k H2 S hlt, fun v H3 y => ?_⟩
  rw [ZaP]
  refine step k H2 v H3 xs _ S hlt y hr hl fun y H5 S5 r5 => ?_
  refine ⟨xs, S5 D _ e, by omega, n - (k + 1), by omega, rfl, hlt, ⟨some v, rfl⟩, up _ (S.trans S5), xs ++ [y], ZcS, by rw [ZaA, hl]; rfl, hR _ _ _ r5 (nd H5 _ _ (S5 D _ e))⟩
 ·have e1 : k = n := by omega
  subst e1
  exact .inl ⟨hst H2 S, hq H2 xs S hr hl e⟩
theorem ZnX {lo : Int} {n k : Nat} {H : Hp} (h : k < n) : (Itr lo n).go k H := h
theorem Zh9 {K : PySem.W.Frag} {a : Addr} {xs : List V} {k : Nat} {H1 H : Hp} (e : H1 a = some (.lst xs)) (S : Same H1 H) (h : k < xs.length) : (Itl K a).go k H := ⟨xs, xs[k], SqL.of (S a _ e), ZaW h⟩
theorem Zia {K : PySem.W.Frag} {a : Addr} {xs : List V} {H1 H : Hp} (e : H1 a = some (.lst xs)) (S : Same H1 H) : (Itl K a).stop xs.length H := ⟨xs, SqL.of (S a _ e), Zbz _⟩
theorem ZnY {K : PySem.W.Frag} {a : Addr} {xs : List V} {k : Nat} {H1 H : Hp} (e : H1 a = some (.tup xs)) (S : Same H1 H) (h : k < xs.length) : (Itt K a).go k H := ⟨xs, xs[k], SqT.of (S a _ e), ZaW h⟩
theorem ZnZ {K : PySem.W.Frag} {a : Addr} {xs : List V} {H1 H : Hp} (e : H1 a = some (.tup xs)) (S : Same H1 H) : (Itt K a).stop xs.length H := ⟨xs, SqT.of (S a _ e), Zbz _⟩
inductive Ls (H : Hp) : List Addr -> List (List V) -> Prop
 | nil : Ls H [] []
 | cons {a : Addr} {c : List V} {l : List Addr} {m : List (List V)} : H a = some (.lst c) -> Ls H l m -> Ls H (a :: l) (c :: m)
theorem Ls.frame {H H' : Hp} {M : List Addr} (k : ∀ a o, H a = some o -> a ∉ M -> H' a = some o) : ∀ {l : List Addr} {m : List (List V)}, Ls H l m -> (∀ a ∈ l, a ∉ M) -> Ls H' l m
 | _, _, .nil, _ => .nil
 | _, _, .cons (a := a) h t, n => .cons (k _ _ h (n a (by simp))) (Ls.frame k t fun b hb => n b (by simp [hb]))
theorem Ls.get {H : Hp} : ∀ {l : List Addr} {m : List (List V)} {i : Nat} {a : Addr}, Ls H l m -> l[i]? = some a -> ∃ c, m[i]? = some c /\ H a = some (.lst c)
 | _, _, 0, _, .cons h _, e => ⟨_, rfl, by cases e; exact h⟩
 | _, _, j + 1, _, .cons _ t, e => by
  rw [Za0] at e
  obtain ⟨d, e1, e2⟩ := Ls.get t e
  exact ⟨d, by rw [Za0]; exact e1, e2⟩
structure Sd where
 b : Addr
 dx : Addr
 p0 : Addr
 p1 : Addr
 p2 : Addr
 p3 : Addr
 d : Addr
 q0 : Addr
 q1 : Addr
 q2 : Addr
 q3 : Addr
noncomputable def Sd.ls (S : Sd) : List Addr := [S.p0, S.p1, S.p2, S.p3, S.d, S.q0, S.q1, S.q2, S.q3]
structure Bd where
 pts : List Int
 mks : List Mkg
 uss : List Us
 fls : List (Int × Int)
 root : Int
noncomputable def flD (p : Int × Int) : Dt := .tup [.flat (.int p.1), .flat (.int p.2)]
structure BSx (c : Cs) (H : Hp) (S : Sd) (E D : Bd) : Prop where
 nd : S.ls.Nodup
 ob : H S.b = some (.ins c.B S.dx (fB S.p0 S.p1 S.p2 S.p3 (.int D.root)))
 st : ∃ mv uv fv mv' uv' fv' : List V, Ls H S.ls [D.pts.map V.int, mv, uv, fv, [.ref S.q0, .ref S.q1, .ref S.q2, .ref S.q3, .int E.root], E.pts.map V.int, mv', uv', fv'] /\
  ZlA (ZpZ c H) mv D.mks /\ ZlA (ZpY c H) uv D.uss /\ Ims H fv (D.fls.map flD) /\ Ims H mv' (E.mks.map Mkg.d) /\ Ims H uv' (E.uss.map Us.d) /\ Ims H fv' (E.fls.map flD)
theorem Ls.at {H : Hp} {l : List Addr} {m : List (List V)} (L : Ls H l m) {i : Nat} {a : Addr} {c : List V} (h1 : l[i]? = some a) (h2 : m[i]? = some c) : H a = some (.lst c) := by
 obtain ⟨d, e1, e2⟩ := L.get h1
 rw [h2] at e1
 cases e1
 exact e2
theorem Zp0 {H : Hp} {a : Addr} {xs : List V} {o : HO} (h : H a = some (.lst xs)) : FK H (upd H a o) := fun b u e f => by
 rw [Zc1 (ZfF e h (fun z => by rw [z] at f; exact f))]
 exact e
section
variable {c : Cs} {H H' : Hp} {S : Sd} {E D : Bd}
theorem BSx.frame {M : List Addr} (B : BSx c H S E D) (k : ∀ a o, H a = some o -> a ∉ M -> H' a = some o) (hb : S.b ∉ M) (hl : ∀ a ∈ S.ls, a ∉ M) (fk : FK H H') : BSx c H' S E D := by
 obtain ⟨nd, ob, mv, uv, fv, mv', uv', fv', L, h1, h2, h3, h4, h5, h6⟩ := B
 exact ⟨nd, k _ _ ob hb, mv, uv, fv, mv', uv', fv', L.frame k hl, h1.imp fun _ _ => ZpZ.mono fk, h2.imp fun _ _ => ZpY.mono fk, h3.mono fk.tk, h4.mono fk.tk, h5.mono fk.tk, h6.mono fk.tk⟩
end
theorem BSx.hl {c : Cs} {H : Hp} {S : Sd} {E D : Bd} {l : Addr} {xs : List V} {o : HO} (B : BSx c H S E D) (hn : l ∉ S.ls) (e : H l = some (.lst xs)) : BSx c (upd H l o) S E D := by
 refine B.frame (M := [l]) (fun a u q n => ?_) (fun z => ?_) (fun a ha z => ?_) (Zp0 e)
 ·rw [Zc1 (fun z => n (by simp [z]))]; exact q
 ·have z' : S.b = l := by simpa using z
  have q := B.ob
  rw [z', e] at q
  cases q
 ·have z' : a = l := by simpa using z
  rw [z'] at ha
  exact hn ha
noncomputable def Frm (M : List Addr) (H H' : Hp) : Prop := ∀ a o, H a = some o -> a ∉ M -> H' a = some o
theorem Frm.trans {M : List Addr} {H H1 H2 : Hp} (a : Frm M H H1) (b : Frm M H1 H2) : Frm M H H2 := fun c o e n => b c o (a c o e n) n
end BO.Internal
namespace BO.Internal
open PySem L2.Internal
noncomputable def lk : List (Str × Int) -> Str -> Option Int
 | [], _ => none
 | p :: t, w => if p.1 = w then some p.2 else lk t w
inductive Mf where
 | num
 | fn (x y : Int)
 | rcd (l : List (Str × Int))
 | tag (w : Str) (x : Int)
 | row (x : Int)
 | any
noncomputable def Mf.s : Mf -> Str
 | .num => "num"
 | .fn _ _ => "fn"
 | .rcd _ => "rec"
 | .tag _ _ => "tag"
 | .row _ => "row"
 | .any => "any"
noncomputable def Mf.f : Mf -> Dt
 | .num => .tup []
 | .fn x y => .tup [.flat (.int x), .flat (.int y)]
 | .rcd l => prD l
 | .tag w x => .tup [.flat (.str w), .flat (.int x)]
 | .row x => .tup [.flat (.int x)]
 | .any => .tup []
noncomputable def fnd (m : List (Str × Int)) (p : Str × Int) : Option (Int × Int) := (lk m p.1).map fun x => (x, p.2)
noncomputable def taken (l m : List (Str × Int)) : Option (List (Int × Int)) := if (l.filterMap (fnd m)).length = l.length then some (l.filterMap (fnd m)) else none
end BO.Internal
namespace L2.Internal
open PySem PySem.Spec PyProof.Rows
section
variable {X : Cx} {e a b o f : Expr} {st : Stmt} {ta tb td ty tx to : TE} {pos apos cpos : Pos}
theorem PE.weak {t t' : TE} (h : PE X e t) (m : ∀ σ H Q, t' σ H Q -> t σ H Q) : PE X e t' := fun pins s σ H Q I q => h pins s σ H Q I (m σ H Q q)
theorem PT.weak {t t' : TT} (h : PT X e t) (m : ∀ σ H Q, t' σ H Q -> t σ H Q) : PT X e t' := fun pins s σ H Q I q => h pins s σ H Q I (m σ H Q q)
theorem OpR.weak {g : Value -> Value -> Sem Value} {r r' : R2} (h : OpR X g r) (m : ∀ x y H Q, r' x y H Q -> r x y H Q) : OpR X g r' := fun pins s σ H x y v u Q I rx ry q => h pins s σ H x y v u Q I rx ry (m x y H Q q)
theorem IxR.weak {r r' : R2} (h : IxR X r) (m : ∀ x y H Q, r' x y H Q -> r x y H Q) : IxR X r' := fun value slice pins s σ H x y v u Q I rx ry q hs => h value slice pins s σ H x y v u Q I rx ry (m x y H Q q) hs
noncomputable def mT (t : TE) : TE := fun σ H Q => ∃ Q0 : VK, t σ H Q0 /\ ∀ x H1, Q0 x H1 -> Q x H1
theorem PE.mono {t : TE} (h : PE X e t) : PE X e (mT t) := fun pins s σ H Q I ⟨Q0, h0, m⟩ => thn (h pins s σ H Q0 I h0) fun v s1 ⟨x, H1, I1, r1, q1⟩ => ⟨x, H1, I1, r1, m x H1 q1⟩
noncomputable def mR (r : R2) : R2 := fun x y H Q => ∃ Q0 : VK, r x y H Q0 /\ ∀ x H1, Q0 x H1 -> Q x H1
theorem OpR.mono {g : Value -> Value -> Sem Value} {r : R2} (h : OpR X g r) : OpR X g (mR r) := fun pins s σ H x y v u Q I rx ry ⟨Q0, h0, m⟩ => thn (h pins s σ H x y v u Q0 I rx ry h0) fun v s1 ⟨x, H1, I1, r1, q1⟩ => ⟨x, H1, I1, r1, m x H1 q1⟩
noncomputable def onV : Option (Option V) -> (V -> Prop) -> Prop
 | some (some v), k => k v
 | _, _ => False
noncomputable def onS {α : Type} : Option α -> (α -> Prop) -> Prop
 | some v, k => k v
 | none, _ => False
theorem Zdn {α : Type} {x : Option α} {v : α} {k : α -> Prop} (h : x = some v) (q : k v) : onS x k := by rw [h]; exact q
theorem Zmd {α : Type} {x : Option α} {k : α -> Prop} (h : onS x k) : ∃ v, x = some v /\ k v := by
 cases x with
 | none => exact h.elim
 | some v => exact ⟨v, rfl, h⟩
noncomputable def cV (i : Nat) : TE := fun σ H Q => onV σ[i]? fun v => Q v H
theorem cv (i : Nat) {x : Str} {pos : Pos} (hN : autoParam (X.N[i]? = some x) L2.Internal.auR._auto_1) (hv : Vis X.env.scope x := by first | exact Or.inl rfl | exact Or.inr (Or.inl rfl) | exact Or.inr (Or.inr rfl)) (hd : autoParam ((x == ("__debug__" : Str)) = false) L2.Internal.auD._auto_1)
  (hcd : autoParam ((x == ("__classdict__" : Str)) = false) L2.Internal.auD._auto_1) : PE X (.Name x pos) (cV i) := (pv i hN hv hd hcd).weak fun σ H Q h => by
 unfold cV at h
 cases q : σ[i]? with
 | none => rw [q] at h; exact h.elim
 | some o =>
  rw [q] at h
  cases o with
  | none => exact h.elim
  | some v => exact ⟨v, q, h⟩
noncomputable def cI0 (g : Int -> Int -> V) : R2 := fun x y H Q => match x, y with
 | .int i, .int j => Q (g i j) H
 | _, _ => False
noncomputable def cI (C : Int -> Int -> Prop) (g : Int -> Int -> V) : R2 := fun x y H Q => match x, y with
 | .int i, .int j => C i j /\ Q (g i j) H
 | _, _ => False
theorem Zi9 {g : Int -> Int -> V} : ∀ x y H Q, cI0 g x y H Q -> rI0 g x y H Q := fun x y H Q h => by
 unfold cI0 at h
 split at h
 ·exact ⟨_, _, rfl, rfl, h⟩
 ·exact h.elim
theorem Znb {C : Int -> Int -> Prop} {g : Int -> Int -> V} : ∀ x y H Q, cI C g x y H Q -> rI C g x y H Q := fun x y H Q h => by
 unfold cI at h
 split at h
 ·exact ⟨_, _, rfl, rfl, h.1, h.2⟩
 ·exact h.elim
theorem ZfC : OpR X (binaryOp .Add) (cI0 fun i j => .int (i + j)) := ZnN.weak Zi9
theorem Zn0 : OpR X (binaryOp .Sub) (cI0 fun i j => .int (i - j)) := Zpx.weak Zi9
theorem Zib : OpR X (binaryOp .Mult) (cI ZqK fun i j => .int (i * j)) := Zpy.weak Znb
theorem ZfI : OpR X (binaryOp .FloorDiv) (cI ZrI fun i j => .int (i / j)) := Zon.weak Znb
theorem ZeR : OpR X (binaryOp .Mod) (cI (fun _ j => 0 < j) fun i j => .int (i % j)) := Zpz.weak Znb
theorem Zme : OpR X (binaryOp .Pow) (cI ZqJ fun i j => .int (i ^ j.toNat)) := ZpA.weak Znb
theorem ZoI : OpR X (compareOp .Lt) (cI0 fun i j => .bl (decide (i < j))) := Zq2.weak Zi9
theorem Znc : OpR X (compareOp .LtE) (cI0 fun i j => .bl (decide (i <= j))) := ZjM.weak Zi9
theorem ZoJ : OpR X (compareOp .Gt) (cI0 fun i j => .bl (decide (j < i))) := Zoo.weak Zi9
noncomputable def cEq (n : Bool) : R2 := fun x y H Q => match x, y with
 | .int i, .int j => Q (.bl (xor n (decide (i = j)))) H
 | .str i, .str j => Q (.bl (xor n (decide (i = j)))) H
 | _, _ => False
theorem ZrP {i j : Str} : decide (V.str i = V.str j) = decide (i = j) := by
 rw [Zcx]
 simp
theorem ZrQ {i j : Int} : decide (V.int i = V.int j) = decide (i = j) := by
 rw [Zcx]
 simp
theorem ZfD : OpR X (compareOp .Eq) (cEq false) := Zim.weak fun x y H Q h => by
 unfold cEq at h
 split at h
 ·refine ⟨rfl, ?_⟩; rw [ZrQ]; rw [ZcA] at h; exact h
 ·refine ⟨rfl, ?_⟩; rw [ZrP]; rw [ZcA] at h; exact h
 ·exact h.elim
theorem Znd : OpR X (compareOp .NotEq) (cEq true) := Zin.weak fun x y H Q h => by
 unfold cEq at h
 split at h
 ·refine ⟨rfl, ?_⟩; rw [ZrQ]; rw [Bool.true_xor] at h; exact h
 ·refine ⟨rfl, ?_⟩; rw [ZrP]; rw [Bool.true_xor] at h; exact h
 ·exact h.elim
noncomputable def onB : V -> (Bool -> Prop) -> Prop
 | .bl k, q => q k
 | _, _ => False
theorem Zp1 {x : V} {k : Bool -> Prop} (h : onB x k) : ∃ c, x = .bl c /\ k c := by
 cases x <;> first | exact ⟨_, rfl, h⟩ | exact h.elim
noncomputable def cT (t : TE) : TT := fun σ H Q => t σ H fun x H' => onB x fun k => Q k H'
theorem Zdh {op : CmpOp} {r : R2} (ho : OpR X (compareOp op) r) (ha : PE X a ta) (hb : PE X b tb) (hm : behindInMarks op b = false) : PT X (.Compare a [op] [b] pos) (cT (tOp r ta tb)) :=
 (ZdY ho.mono ha.mono hb.mono hm).weak fun σ H Q h => ⟨_, h, fun x H1 h1 => ⟨_, h1, fun y H2 h2 => ⟨_, h2, fun z H' h3 => Zp1 h3⟩⟩⟩
noncomputable def ZrR : R2 := fun x y H Q => match x, y with
 | .ref p, .int i => ∃ xs, H p = some (.lst xs) /\ onS (atI xs i) fun v => Q v H
 | _, _ => False
noncomputable def ZrS : R2 := fun x y H Q => match x, y with
 | .ref p, .int i => ∃ xs, H p = some (.tup xs) /\ onS (atI xs i) fun v => Q v H
 | _, _ => False
noncomputable def ZrT : R2 := fun x y H Q => match x, y with
 | .str z, .int i => z.length <= sizeLine /\ onS (atI z.cps.toList i) fun c => Q (.str ⟨#[c]⟩) H
 | _, _ => False
theorem Zdt : IxR X ZrR := ZlW.weak fun x y H Q h => by
 unfold ZrR at h
 split at h
 ·obtain ⟨xs, e, h⟩ := h
  obtain ⟨v, ev, h⟩ := Zmd h
  exact ⟨_, xs, _, v, rfl, rfl, SqL.of e, ev, h⟩
 ·exact h.elim
theorem ZgU : IxR X ZrS := ZpL.weak fun x y H Q h => by
 unfold ZrS at h
 split at h
 ·obtain ⟨xs, e, h⟩ := h
  obtain ⟨v, ev, h⟩ := Zmd h
  exact ⟨_, xs, _, v, rfl, rfl, SqT.of e, ev, h⟩
 ·exact h.elim
theorem Zn1 : IxR X ZrT := ZlX.weak fun x y H Q h => by
 unfold ZrT at h
 split at h
 ·obtain ⟨e, h⟩ := h
  obtain ⟨v, ev, h⟩ := Zmd h
  exact ⟨_, _, v, rfl, rfl, e, ev, h⟩
 ·exact h.elim
noncomputable def Fd (H : Hp) (a C : Addr) (f : Str) (v : V) : Prop := ∃ dx fs, H a = some (.ins C dx fs) /\ fs.lookup f = some v
noncomputable def cFld (C : Addr) (f : Str) (ta : TE) : TE := fun σ H Q => ta σ H fun x H1 => match x with
 | .ref a => ∃ v, Fd H1 a C f v /\ Q v H1
 | _ => False
theorem ZeX {C : Addr} {f : Str} (c : Cls X.K C) (n : Zfm X.K C f) (he : PE X e ta) (hb : autoParam (attributeBase e f X.env (eval e X.env) = eval e X.env) L2.Internal.auR._auto_1) : PE X (.Attribute e f pos) (cFld C f ta) :=
 (Zgl he.mono hb).weak fun σ H Q h => ⟨_, h, fun x H1 h1 => by
  cases x with
  | ref a =>
   obtain ⟨v, ⟨dx, fs, ea, ev⟩, q⟩ := h1
   exact ⟨a, C, dx, fs, v, rfl, ea, c, n, ev, q⟩
  | _ => exact h1.elim⟩
noncomputable def cS : R2 := fun x y H Q => match x, y with
 | .str i, .str j => i.length + j.length <= sizeLine /\ Q (.str (i ++ j)) H
 | _, _ => False
theorem ZdH : OpR X (binaryOp .Add) cS := Zh1.weak fun x y H Q h => by
 unfold cS at h
 split at h
 ·exact ⟨_, _, rfl, rfl, h.1, h.2⟩
 ·exact h.elim
noncomputable def cApp (to ta : TE) : TE := fun σ H Q => to σ H fun x H1 => match x with
 | .ref l => (∃ xs, H1 l = some (.lst xs)) /\ ta σ H1 fun y H2 => ∃ xs, H2 l = some (.lst xs) /\ xs.length < sizeLine /\ Q .non (upd H2 l (.lst (xs ++ [y])))
 | _ => False
theorem Ze5 (h : PE X e (tBM X.K "list" ZlZ (mT to) (ZmV (mT ta) Zph))) : PE X e (cApp to ta) := h.weak fun σ H Q h => ⟨_, h, fun x H1 h1 => by
  cases x with
  | ref l =>
   obtain ⟨⟨xs, e⟩, q⟩ := h1
   exact ⟨.inl ⟨rfl, xs, SqL.of e⟩, _, q, fun y H2 ⟨xs, e, hl, q2⟩ => ⟨l, xs, y, rfl, rfl, e, hl, q2⟩⟩
  | _ => exact h1.elim⟩
end
end L2.Internal
namespace BO.Internal
open PySem L2.Internal
noncomputable def wd : Bool -> Str
 | true => "goes"
 | false => "here"
structure Rw where
 w : Bool
 a : Int
 b : Int
 y : Option (Int × Int)
noncomputable def Rw.k (r : Rw) : List Key := [.inr (wd r.w), .inl r.a, .inl r.b]
noncomputable def whyD : Option (Int × Int) -> Dt
 | none => .flat .non
 | some p => flD p
noncomputable def Rw.d (r : Rw) : Dt := .tup [.flat (.str (wd r.w)), .flat (.int r.a), .flat (.int r.b), whyD r.y]
structure DL (H : Hp) (d : Addr) (L : List Addr) (f : Int -> List V) (k : Nat) : Prop where
 ex : ∃ kvs : List (Key × V), H d = some (.dK kvs) /\ kvs.length <= k /\ (∀ p, Zhk kvs (.inl p) = none -> f p = []) /\
  (∀ p v, Zhk kvs (.inl p) = some v -> ∃ l, l ∈ L /\ v = .ref l /\ H l = some (.lst (f p))) /\ (∀ p q v, Zhk kvs (.inl p) = some v -> Zhk kvs (.inl q) = some v -> p = q)
noncomputable def putf (f : Int -> List V) (p : Int) (x : V) : Int -> List V := fun q => if q = p then f p ++ [x] else f q
structure Sda (H : Hp) (d : Addr) (L : List Addr) (f : Int -> List V) (k : Nat) (p : Int) (l : Addr) (H1 : Hp) : Prop where
 here : H1 l = some (.lst (f p))
 fin : ∀ H2 x, Same H1 H2 -> ∃ L', (∀ a ∈ L', a ∈ L \/ a = l) /\ DL (upd H2 l (.lst (f p ++ [x]))) d L' (putf f p x) (k + 1)
 fr : ∀ a o, H a = some o -> a ≠ d -> H1 a = some o
 own : l ∈ L \/ H l = none
theorem DL.get {H : Hp} {d : Addr} {L : List Addr} {f : Int -> List V} {k : Nat} (W : DL H d L f k) (p : Int) {z : Addr} (hz : H z = none) :
  ∃ kvs l, (upd H z (.lst [])) d = some (.dK kvs) /\ (Zhk kvs (.inl p)).getD (.ref z) = .ref l /\ (upd H z (.lst [])) l = some (.lst (f p)) /\ (l ∈ L \/ H l = none) := by
 obtain ⟨kvs, e, hl, h1, h2, h3⟩ := W
 have s := ZcV hz (.lst [])
 cases ev : Zhk kvs (.inl p) with
 | none => exact ⟨kvs, z, s _ _ e, by rw [ev]; rfl, by rw [h1 p ev]; exact ZcS, .inr hz⟩
 | some v =>
  obtain ⟨l, m, rfl, el⟩ := h2 p v ev
  exact ⟨kvs, l, s _ _ e, by rw [ev]; rfl, s _ _ el, .inl m⟩
end BO.Internal
namespace BO.Internal
open PySem L2.Internal
open Classical in
noncomputable def putR (R : List Rw) (ρ : Rw) : List Rw := if ρ.k ∈ R.map Rw.k then R else R ++ [ρ]
noncomputable def putsR (R l : List Rw) : List Rw := l.foldl putR R
end BO.Internal
namespace L2.Internal
open PySem PySem.Spec PyProof.Rows
section
variable {X : Cx}
end
end L2.Internal
namespace L2.Internal
open PySem PySem.Spec PyProof.Rows
section
variable {X : Cx}
theorem Zja {prog : Program} {w : World} {A : Around} {E : Value -> Shared -> Prop} {it t : Addr} {items : Array Value} (hne : t ≠ it) : ∀ (n i : Nat) (s : Shared) (Q : List Value -> Shared -> Prop), s.heap.IsListIter it t i -> s.heap.IsList t items -> i + n <= items.size ->
  (∀ h', h'.IsListIter it t (i + n) -> Heap.SameBut it s.heap h' -> Q ((items.toList.drop i).take n) { s with heap := h' }) -> wpAny (model prog w) A (draw (.ref it) n) Q E s
 | 0, i, s, Q, hit, _, _, hQ => by
  show wpAny _ _ (pure []) Q E s
  exact wpAny_pure (by simpa using hQ s.heap hit (Heap.SameBut.refl ..))
 | n + 1, i, s, Q, hit, ht, hle, hQ => by
  have hlt : i < items.size := by omega
  show wpAny _ _ (pyNext (.ref it) >>= _) Q E s
  refine wpAny_bind (wpAny_pyNext_list_item hit ht (x := items[i]) (by simp [hlt]) fun h₁ hit₁ hs₁ => ?_)
  refine wpAny_bind (wpAny_holding (Zja hne n (i + 1) _ _ hit₁ (ht.at fun o e => (hs₁.2 t hne).trans e) (by omega) fun h₂ hit₂ hs₂ => wpAny_pure ?_))
  have hd : items.toList.drop i = items[i] :: items.toList.drop (i + 1) := by simp [Za2, hlt]
  have := hQ h₂ (by rw [show i + (n + 1) = i + 1 + n by omega]; exact hit₂) (hs₁.trans hs₂)
  rw [hd, List.take_succ_cons] at this
  exact this
theorem Zg2 {prog : Program} {w : World} {A : Around} {E : Value -> Shared -> Prop} {s : Shared} {t : Addr} {items : Array Value} {Q : List Value -> Shared -> Prop} (hh : A.handled = none) (ht : s.heap.IsList t items)
  (hQ : ∀ h', Heap.ExtBut s.heap.objs.size s.heap h' -> Q items.toList { s with heap := h' }) : wpAny (model prog w) A (unpackItems (.ref t) items.size none) Q E s := by
 have hlt : t ≠ s.heap.objs.size := by obtain ⟨o, ho, _⟩ := ht; exact Zbv (ZcK ho)
 unfold unpackItems
 refine wpAny_bind ?_
 ·unfold notIterableAtAll
  refine wpAny_bind (wpAny_specialOf ht.typeIs F.slot_list_iter.lookup ?_)
  refine wpAny_pure ?_
  simp only [Bool.false_eq_true, if_false]
  refine wpAny_bind (wpAny_holding (wpAny_pyIter_list ht ?_))
  have htp : (s.heap.push { cls := .type "list_iterator", data := .fields #[.ref t, .int 0 0] }).IsList t items := ht.at fun o e => ZcM _ e
  refine wpAny_bind (wpAny_holding (Zja hlt items.size 0 _ _ ⟨_, ZcL _ rfl, rfl, rfl⟩ htp (by omega) fun h₁ hit₁ hs₁ => ?_))
  have hall : List.take items.size (List.drop 0 items.toList) = items.toList := by
   rw [Za3]; exact Za4 (by simp)
  rw [hall]
  rw [if_neg (by simp)]
  have ht₁ : h₁.IsList t items := htp.at fun o e => (hs₁.2 t hlt).trans e
  refine wpAny_bind (wpAny_holding (wpAny_pyNext_list_end hh hit₁ ht₁ (by simp) fun h₂ he₂ => ?_))
  simp only [Option.isSome_none, Bool.false_eq_true, if_false]
  refine wpAny_pure (hQ h₂ fun b o hb e => he₂ b o hb (hs₁.extBut b o hb (ZcM _ e)))
theorem ZgK {prog : Program} {w : World} {A : Around} {E : Value -> Shared -> Prop} {s : Shared} {env : Env} {elts : List Expr} {x1} {pos : Pos} {t : Addr} {items : Array Value} {Q : Unit -> Shared -> Prop} (hh : A.handled = none) (ht : s.heap.IsList t items)
  (hn : (assignEach elts env).length = items.size) (hstar : (assignEach elts env).findIdx? (·.1) = none)
  (h : ∀ h', Heap.ExtBut s.heap.objs.size s.heap h' -> wpAny (model prog w) A (assignInOrder ((assignEach elts env).map (·.2)) items.toList) Q E { s with heap := h' }) :
  wpAny (model prog w) A (assign (.Tuple elts x1 pos) env (.ref t)) Q E s := by
 rw [assign_Tuple]
 refine wpAny_bind (wpAny_standAt ?_)
 unfold unpack
 rw [hn, hstar]
 exact wpAny_bind (wpAny_holding (Zg2 hh ht h))
noncomputable def gLst (K : PySem.W.Frag) (n : Nat) (t : TGs) : TG := fun v σ H Q => ∃ a xs, v = .ref a /\ SqL K H a xs /\ xs.length = n /\ t xs σ H Q
theorem Zp2 {es : List Expr} {k : Nat} {t : TGs} {n : Nat} {pos : Pos} (hc : X.calm = true) (h : PGs X es t)
  (hn : autoParam ((assignEach es X.env).length = n) L2.Internal.auR._auto_1) (hst : autoParam ((assignEach es X.env).findIdx? (·.1) = none) L2.Internal.auR._auto_1) : PG X (.Tuple es k pos) (gLst X.K n t) := by
 intro pins s σ H v u Q I r hw
 obtain ⟨a, xs, e1, hq, hl, hw⟩ := hw
 subst e1
 cases r
 obtain ⟨its, rv, ht, hz⟩ := I.list hq
 refine ZgK (I.ok.hd hc) ht.isList (by simp [hn, <- hl, rv.length]) hst fun h' hx => ?_
 have I1 : Inv X pins σ H { s with heap := h' } := I.kept (t' := s.toks) fun b o e => hx b o (Zbv (ZcK e)) e
 exact h pins _ σ H xs _ Q I1 (by simpa using rv) hw
end
end L2.Internal
namespace L2.Internal
open PySem PySem.Spec PyProof.Rows
section
variable {X : Cx}
end
section
variable {X : Cx} {pins : List (Addr × Obj)} {σ : St} {H : Hp} {s : Shared}
end
section
variable {prog : Program} {w : World} {A : Around} {R : Result -> Shared -> Prop} {I : Addr} {fp wr : List Addr} {n : Nat} {P : Nat -> Value -> Prop} {St : Nat -> Heap -> Prop}
end
section
variable {prog : Program} {w : World} {A : Around} {E : Value -> Shared -> Prop} {s : Shared} {l : Addr} {xs : Array (Int × Tok)}
end
section
variable {X : Cx}
end
end L2.Internal
namespace L2.Internal
open PySem PySem.Spec PyProof.Rows
section
variable {X : Cx}
theorem Zmf (hc : X.calm = true) : Zgj X (.builtin "sum") (fun xs H Q => ∃ (a : Addr) (ns : List Int), xs = [.ref a] /\ SqL X.K H a (ns.map V.int) /\ ns.length <= 100 /\ (∀ n ∈ ns, 0 <= n /\ n <= 1000) /\ Q (.int ns.sum) H) := by
 intro pins s σ H xs us Q I r h
 obtain ⟨a, ns, rfl, hq, hl, hb, q⟩ := h
 obtain ⟨u, rfl, ru⟩ := Zgk r
 cases ru
 obtain ⟨its, rv, p, hz⟩ := I.list hq
 obtain ⟨zs, e⟩ := (ZgH rv).allInts.items
 have l := p.isList
 rw [e] at l
 have hn : ∀ j, numAt zs j = ns.getD j 0 := fun j => by
  have h1 : its.toArray[j]? = (intItems zs)[j]? := by rw [e]
  by_cases hj : j < ns.length
  ·obtain ⟨v, hv, rv'⟩ := rv.get (show (ns.map V.int)[j]? = some (.int ns[j]) by rw [Zay, ZaW hj]; rfl)
   obtain ⟨t, rfl⟩ := rv'
   rw [Za5, hv] at h1
   obtain ⟨t2, e2⟩ := intItems_at h1.symm
   injection e2 with e2 _
   rw [<- e2, ZaO, ZaW hj]
   rfl
  ·have hlen := rv.length
   rw [Zaq] at hlen
   rw [Za5, Za6 (by omega)] at h1
   have h2 : zs[j]? = none := by
    simp only [intItems, Array.getElem?_map] at h1
    cases h3 : zs[j]? with
    | none => rfl
    | some z => rw [h3] at h1; cases h1
   rw [ZaO, Za6 (by omega)]
   simp [numAt, h2]
 have hsz : zs.size = ns.length := by
  have h1 := congrArg Array.size e
  simp only [intItems, ZaD, Array.size_map] at h1
  have hlen := rv.length
  rw [Zaq] at hlen
  omega
 have pre : ∀ j, j <= ns.length -> preSum (numAt zs) j = (ns.take j).sum := fun j => by
  induction j with
  | zero => intro _; simp [preSum]
  | succ j ih =>
   intro hj
   rw [preSum, ih (by omega), hn, Za7, ZaW (show j < ns.length by omega), List.sum_append, ZaO, ZaW (show j < ns.length by omega)]
   simp
 have bnd : ∀ l : List Int, (∀ n ∈ l, 0 <= n /\ n <= 1000) -> 0 <= l.sum /\ l.sum <= 1000 * (l.length : Int) := fun l => by
  induction l with
  | nil => intro _; simp
  | cons x l ih =>
   intro h
   have h1 := h x (by simp)
   have h2 := ih fun n hn => h n (by simp [hn])
   rw [Za8, Zan]
   omega
 refine sum_intList (I.ok.hd hc) l (fun j hj => ?_) fun h2 tk t2 hk => ⟨.int ns.sum, H, I.kept (t' := tk) hk, ⟨t2, ?_⟩, q⟩
 ·rw [hsz] at hj
  have b1 := hb (ns.getD j 0) (by rw [ZaO, ZaW hj]; exact Za1 hj)
  have b2 := bnd (ns.take (j + 1)) fun n hm => hb n (List.mem_of_mem_take hm)
  have b3 : (ns.take (j + 1)).length <= 100 := by rw [Zav]; omega
  rw [hn, pre (j + 1) hj]
  constructor <;> constructor <;> omega
 ·rw [hsz, pre ns.length (Zbz _), ZaR]
end
end L2.Internal
namespace L2.Internal
open PySem PySem.Spec PyProof.Rows
section
variable {prog : Program} {w : World} {A : Around} {s : Shared}
end
section
variable {X : Cx}
end
end L2.Internal
namespace L2.Internal
open PySem PySem.Spec PyProof.Rows PySem.W
section
variable {prog : Program} {w : World} {A : Around} {E : Value -> Shared -> Prop} {s : Shared}
end
section
variable {X : Cx}
end
end L2.Internal
namespace L2.Internal
open PySem PySem.Spec PyProof.Rows PySem.W
section
variable {fs ex : List Addr} {H H' : Hp} {h h' : Heap}
end
section
variable {X : Cx} {pins : List (Addr × Obj)} {σ : St} {H H' : Hp} {s : Shared} {h' : Heap}
end
section
variable {X : Cx}
end
end L2.Internal
namespace L2.Internal
open PySem PySem.Spec PyProof.Rows
mutual
noncomputable def nlD : Dt -> Bool
 | .flat _ => true
 | .tup l => Zn2 l
 | .lst _ => false
noncomputable def Zn2 : List Dt -> Bool
 | [] => true
 | x :: xs => nlD x && Zn2 xs
end
theorem Ziw : ∀ {l : List Dt} {j : Nat} {a : Dt}, Zn2 l = true -> l[j]? = some a -> nlD a = true
 | x :: xs, 0, a, h, e => by
  cases e
  rw [Zn2, Zcy] at h
  exact h.1
 | x :: xs, j + 1, a, h, e => by
  rw [Zn2, Zcy] at h
  exact Ziw h.2 e
 | [], j, a, _, e => by simp at e
section
variable {X : Cx} {pins : List (Addr × Obj)} {σ : St} {H : Hp} {s : Shared}
mutual
theorem Zmg (I : Inv X pins σ H s) : ∀ {x : V} {d e : Dt}, At X.K H x d -> At X.K H x e -> nlD d = true -> nlD e = true -> eqD d e = true
 | _, _, _, .flat h, .flat _, _, _ => by rw [eqD]; exact Zl9 h
 | _, _, _, .tup h hs, .tup h' hs', n, n' => by
  have e := I.tuple_inj h h'
  subst e
  rw [nlD] at n n'
  rw [eqD]
  exact ZkE I hs hs' n n'
 | _, _, _, .flat h, .tup _ _, _, _ => absurd h Zcw
 | _, _, _, .tup _ _, .flat h, _, _ => absurd h Zcw
 | _, _, _, .lst _ _, _, n, _ => by rw [nlD] at n; cases n
 | _, _, _, _, .lst _ _, _, n => by rw [nlD] at n; cases n
theorem ZkE (I : Inv X pins σ H s) : ∀ {xs : List V} {l m : List Dt}, Ats X.K H xs l -> Ats X.K H xs m -> Zn2 l = true -> Zn2 m = true -> Zlk l m = true
 | _, _, _, .nil, .nil, _, _ => by rw [Zlk]
 | _, _, _, .cons h t, .cons h' t', n, n' => by
  rw [Zn2, Zcy] at n n'
  rw [Zlk, Zmg I h h' n.1 n'.1, ZkE I t t' n.2 n'.2]
  rfl
end
theorem Zf4 {A : Around} (I : Inv X pins σ H s) {x : V} {u : Value} {b : Addr} {ys : List V} (r : Zel x u) (hx : ZgI x = true) (h : SqT X.K H b ys) (hu : A.units < cLine) : SeqAt.EqAt A s u (.ref b) false /\ SeqAt.EqAt A s (.ref b) u false := by
 obtain ⟨its, _, pl, _⟩ := I.tuple h
 cases x with
 | non => cases r; exact ⟨.none_tuple pl hu, .tuple_none pl hu⟩
 | bl k => cases r; exact ⟨.bool_tuple _ pl hu, .tuple_bool _ pl hu⟩
 | int i => obtain ⟨t, rfl⟩ := r; exact ⟨.int_tuple _ _ pl hu, .tuple_int _ _ pl hu⟩
 | str z => obtain ⟨t, rfl⟩ := r; exact ⟨.str_tuple _ _ pl hu, .tuple_str _ _ pl hu⟩
 | _ => cases hx
theorem Zp3 (I : Inv X pins σ H s) : ∀ (n : Nat) (A : Around) {x y : V} {u v : Value} {d e : Dt}, Zel x u -> Zel y v -> At X.K H x d -> At X.K H y e -> nlD d = true -> nlD e = true -> Zgq d <= n -> A.units + n < cLine -> SeqAt.EqAt A s u v (eqD d e) := by
 intro n
 induction n with
 | zero =>
  intro A x y u v d e rx ry hx hy n1 n2 hd hu
  cases hx with
  | flat h =>
   cases hy with
   | flat h' => rw [eqD]; exact ZlY rx ry h h'
   | tup h' _ => cases ry; simp only [eqD]; exact (Zf4 I rx h h' (by omega)).1
   | lst _ _ => rw [nlD] at n2; cases n2
  | tup _ _ => rw [Zgq] at hd; omega
  | lst _ _ => rw [Zgq] at hd; omega
 | succ n ih =>
  intro A x y u v d e rx ry hx hy n1 n2 hd hu
  cases hx with
  | flat h =>
   cases hy with
   | flat h' => rw [eqD]; exact ZlY rx ry h h'
   | tup h' _ => cases ry; simp only [eqD]; exact (Zf4 I rx h h' (by omega)).1
   | lst _ _ => rw [nlD] at n2; cases n2
  | lst _ _ => rw [nlD] at n1; cases n1
  | @tup a xs ds h hs =>
   cases hy with
   | flat h' => cases rx; simp only [eqD]; exact (Zf4 I ry h' h (by omega)).2
   | lst _ _ => rw [nlD] at n2; cases n2
   | @tup b ys es h' hs' =>
    cases rx
    cases ry
    by_cases hab : a = b
    ·subst hab
     rw [Zmg I (.tup h hs) (.tup h' hs') n1 n2]
     exact SeqAt.EqAt.same _
    ·rw [Zgq] at hd
     rw [nlD] at n1 n2
     refine SeqAt.EqAt.of_refs hab (ZpU I h hs h' hs' (by omega) fun j d1 d2 x y u v f1 f2 q1 q2 p1 p2 => ?_).1
     exact ih A.in1 q1 q2 p1 p2 (Ziw n1 f1) (Ziw n2 f2) (Zbw (depDs_get f1) (by omega)) (by show A.units + 1 + n < cLine; omega)
end
section
variable {X : Cx}
end
end L2.Internal
namespace L2.Internal
open PySem PySem.Spec PyProof.Rows
section
open PySem.SeqAt
open PySem.AutoSeq1 (wpAny_loadPart')
open PySem.MeetsSeq PySem.MeetsSeq2 PySem.MeetsSeq3
end
section
variable {X : Cx}
end
end L2.Internal
namespace L2.Internal
open PySem PySem.Spec PyProof.Rows
theorem Zhs (f : Nat -> Int) : ∀ n, argBest (fun i j => decide (f i > f j)) n <= n /\ ∀ k, k <= n -> f k <= f (argBest (fun i j => decide (f i > f j)) n)
 | 0 => ⟨Zbz _, fun k hk => by
   have : k = 0 := by omega
   subst this
   exact Int.le_refl _⟩
 | n + 1 => by
  obtain ⟨h1, h2⟩ := Zhs f n
  rw [argBest]
  by_cases h : f (n + 1) > f (argBest (fun i j => decide (f i > f j)) n)
  ·rw [if_pos (decide_eq_true h)]
   refine ⟨Zbz _, fun k hk => ?_⟩
   by_cases e : k = n + 1
   ·rw [e]; exact Int.le_refl _
   ·have := h2 k (by omega)
    omega
  ·rw [if_neg (by simpa using h)]
   refine ⟨by omega, fun k hk => ?_⟩
   by_cases e : k = n + 1
   ·rw [e]; omega
   ·exact h2 k (by omega)
section
variable {X : Cx}
theorem Zmh (hc : X.calm = true) : Zgj X (.builtin "max") (fun xs H Q => ∃ (a : Addr) (ns : List Int), xs = [.ref a] /\ SqL X.K H a (ns.map V.int) /\ ns ≠ [] /\ ∀ n, n ∈ ns -> (∀ m ∈ ns, m <= n) -> Q (.int n) H) := by
 intro pins s σ H xs us Q I r h
 obtain ⟨a, ns, rfl, hq, hn, q⟩ := h
 obtain ⟨u, rfl, ru⟩ := Zgk r
 cases ru
 obtain ⟨its, rv, p, hz⟩ := I.list hq
 obtain ⟨zs, e⟩ := (ZgH rv).allInts.items
 have l := p.isList
 have hlen := rv.length
 rw [Zaq] at hlen
 have hsz : zs.size = ns.length := by
  have h1 := congrArg Array.size e
  simp only [intItems, ZaD, Array.size_map] at h1
  omega
 have hnum : ∀ j, j < ns.length -> numAt zs j = ns.getD j 0 := fun j hj => by
  have h1 : its.toArray[j]? = (intItems zs)[j]? := by rw [e]
  obtain ⟨v, hv, rv'⟩ := rv.get (show (ns.map V.int)[j]? = some (.int ns[j]) by rw [Zay, ZaW hj]; rfl)
  obtain ⟨t, rfl⟩ := rv'
  rw [Za5, hv] at h1
  obtain ⟨t2, e2⟩ := intItems_at h1.symm
  injection e2 with e2 _
  rw [<- e2, ZaO, ZaW hj]
  rfl
 have e3 : 0 < ns.length := List.length_pos_iff.mpr hn
 rw [e] at l
 refine max_intList (I.ok.hd hc) l (by omega) fun v h' tk hv hk => ?_
 obtain ⟨t, rfl⟩ := intItems_at hv
 obtain ⟨b1, b2⟩ := Zhs (numAt zs) (zs.size - 1)
 refine ⟨.int _, H, I.kept (t' := tk) hk, ⟨_, rfl⟩, q _ ?_ fun m hm => ?_⟩
 ·rw [hnum _ (by omega), ZaO, ZaW (by omega)]
  exact Za1 _
 ·obtain ⟨j, hj⟩ := Za9.mp hm
  have hjl := (Zai.mp hj).1
  have := b2 j (by omega)
  rw [hnum j hjl, ZaO, hj] at this
  exact this
end
end L2.Internal
namespace L2.Internal
open PySem PySem.Spec PyProof.Rows
section
variable {X : Cx}
noncomputable def ZoK (K : PySem.W.Frag) : V -> List V -> Hp -> VK -> Prop := fun x vs H Q => ∃ (l : Addr) (ns : List Int) (n : Int) (j : Nat), x = .ref l /\ vs = [.int n] /\ SqL K H l (ns.map V.int) /\ ns.length <= 1000 /\ ns[j]? = some n /\ (∀ m : Nat, m < j -> ns[m]? ≠ some n) /\ Q (.int (j : Int)) H
noncomputable def isInt (n : Int) : Value -> Bool
 | .int i _ => decide (i = n)
 | _ => false
theorem Zmi {k : Nat} (hr : ZgS k X.A) : MtR X "list.index" (ZoK X.K) := by
 intro pins s σ H x vs v us Q I rx rv h
 obtain ⟨l, ns, n, j, rfl, rfl, hq, hl, hj, hno, q⟩ := h
 cases rx
 obtain ⟨u, rfl, ru⟩ := rv.one
 have hu := hr.un
 have sl0 : sizeLine = 16777216 := sizeLine_eq
 obtain ⟨its, r, pl, hz⟩ := I.list hq
 have lz := r.length
 rw [Zaq] at lz
 have hjl := (Zai.mp hj).1
 obtain ⟨⟨cls, dd, data, sl⟩, ho, hcl, n', hd⟩ := id pl.isList
 simp only at hcl hd
 subst hcl hd
 have rel : ∀ (i : Nat) (hi : i < its.length), ∃ z t, ns[i]? = some z /\ its[i] = Value.int z t := fun i hi => by
  obtain ⟨z, hz⟩ : ∃ z, ns[i]? = some z := ⟨_, ZaW (by omega)⟩
  obtain ⟨w, hw, rw'⟩ := r.get (show (ns.map V.int)[i]? = some (.int z) by rw [Zay, hz]; rfl)
  rw [ZaW hi] at hw
  cases hw
  obtain ⟨t, et⟩ := rw'
  exact ⟨z, t, hz, et⟩
 refine call_meets Zcp ⟨_, ho, rfl⟩ PySem.F.entry_list_index (PySem.F.args_list_index_2 _ _)
  (SeqAt.list_indexAt l its.toArray n' dd sl u (isInt n) j (by rw [ZaD]; omega) (by omega) ?_ ?_) ⟨ho, fun w hw => ?_, ⟨.int (j : Int), H, I.tok _, ⟨_, rfl⟩, q⟩⟩
 ·obtain ⟨z, t, hz1, hz2⟩ := rel j (by omega)
  rw [hj] at hz1
  cases hz1
  show isInt n its[j] = true
  rw [hz2]
  exact decide_eq_true rfl
 ·intro m hm hmj
  rw [ZaD] at hm
  obtain ⟨z, t, hz1, hz2⟩ := rel m hm
  show isInt n its[m] = false
  rw [hz2]
  refine decide_eq_false fun e => hno m hmj ?_
  rw [hz1, e]
 ·have hw' : w ∈ its := by simpa using hw
  obtain ⟨i, hi, rfl⟩ := List.getElem_of_mem hw'
  obtain ⟨z, t, hz1, hz2⟩ := rel i hi
  have rz : Zel (.int z) its[i] := ⟨t, hz2⟩
  have := Zp3 I 100 X.A.in1 rz ru (At.flat (K := X.K) rfl) (At.flat rfl) rfl rfl (by simp [Zgq]) (by show X.A.units + 1 + 100 < cLine; omega)
  have e : isInt n its[i] = eqD (.flat (.int z)) (.flat (.int n)) := by
   rw [hz2]
   show decide (z = n) = _
   rw [eqD]
   show decide (z = n) = (z == n)
   rw [Zcx]
   simp
  rw [e]
  exact this
end
end L2.Internal
namespace L2.Internal
open PySem PySem.Spec PyProof.Rows
theorem Zic : ∀ {ys : List Str} {its : List Value}, ZdT (ys.map V.str) its -> ∃ l : List (Str × Tok), its = strValues l /\ l.map (·.1) = ys
 | [], its, h => by
  cases its with
  | nil => exact ⟨[], rfl, rfl⟩
  | cons a b => exact absurd h.length (by simp)
 | y :: ys, its, h => by
  cases its with
  | nil => exact absurd h.length (by simp)
  | cons u its =>
   obtain ⟨t, rfl⟩ : ∃ t, u = .str y t := by
    obtain ⟨v, hv, r⟩ := h.get (i := 0) (show ((y :: ys).map V.str)[0]? = some (.str y) from rfl)
    cases hv
    exact r
   obtain ⟨l, e1, e2⟩ := Zic (ys := ys) (its := its) (by
    cases h with
    | cons _ h => exact h)
   exact ⟨(y, t) :: l, by rw [e1]; rfl, by rw [Zap, e2]⟩
section
variable {X : Cx}
noncomputable def Zrh (K : PySem.W.Frag) : V -> List V -> Hp -> VK -> Prop := fun x xs H Q => ∃ (z : Str) (a : Addr) (ys : List Str), x = .str z /\ xs = [.ref a] /\ SqL K H a (ys.map V.str) /\ (ys.map (·.length)).sum + ys.length * z.length <= sizeLine /\ Q (.str (Str.join z ys)) H
theorem Zf5 : MtR X "str.join" (Zrh X.K) := by
 intro pins s σ H x xs v us Q I rx rs h
 obtain ⟨z, a, ys, rfl, rfl, hq, hz, q⟩ := h
 obtain ⟨t, rfl⟩ := rx
 obtain ⟨u, rfl, ru⟩ := Zgk rs
 cases ru
 obtain ⟨its, rv, p, _⟩ := I.list hq
 obtain ⟨l, e1, e2⟩ := Zic rv
 have hl := p.isList
 rw [e1] at hl
 refine SC.join hl e2 ?_ fun t' k => ?_
 ·unfold JoinOk
  rw [StrLaws.joinTotal]
  have : ¬ (ys.map (·.length)).sum + ys.length * z.length > sizeLine := by omega
  show (!Builtin.Str.tooLong _) = true
  unfold Builtin.Str.tooLong
  rw [decide_eq_false this]
  rfl
 ·have e : Txt.join z ys = Str.join z ys := StrLaws.glued_eq_join z ys
  rw [e]
  exact ⟨.str _, H, I.tok k, ⟨_, rfl⟩, q⟩
end
end L2.Internal
namespace L2.Internal
open PySem PySem.Spec PyProof.Rows
section
variable {X : Cx}
theorem Zjb : Zgj X (.type "str") (fun xs H Q => (∃ i, xs = [.int i] /\ i.natAbs.log2 < 1920 /\ Q (.str (toString i)) H) \/ ∃ x, xs = [.str x] /\ Q (.str x) H) := by
 intro pins s σ H xs us Q I r h
 rcases h with ⟨i, rfl, hz, q⟩ | ⟨x, rfl, q⟩
 ·obtain ⟨u, rfl, t, rfl⟩ := Zgk r
  exact PySem.P.str_of_int hz ⟨.str _, H, I.tok _, ⟨_, rfl⟩, q⟩
 ·obtain ⟨u, rfl, t, rfl⟩ := Zgk r
  exact PySem.P.str_of_str ⟨.str x, H, I, ⟨_, rfl⟩, q⟩
noncomputable def ZrU (K : PySem.W.Frag) : R2 := fun x y H Q => ∃ b, y = .ref b /\ H b = some (.tup []) /\ ((∃ z, x = .str z /\ Q (.bl false) H) \/ (∃ z, x = .int z /\ Q (.bl false) H) \/ (∃ a xs, x = .ref a /\ H a = some (.lst xs) /\ Q (.bl false) H) \/ (∃ a xs, x = .ref a /\ H a = some (.tup xs) /\ Q (.bl (decide (xs = []))) H))
theorem Zp4 {k : Nat} (hr : ZgS k X.A) : OpR X (compareOp .Eq) (ZrU X.K) := by
 intro pins s σ H x y v u Q I rx ry h
 obtain ⟨b, rfl, hb, h⟩ := h
 cases ry
 have hu : X.A.units < cLine := by have := hr.un; omega
 obtain ⟨its2, r2, pl2, _⟩ := I.tuple (SqT.of hb)
 rcases h with ⟨z, rfl, q⟩ | ⟨z, rfl, q⟩ | ⟨a, xs, rfl, ha, q⟩ | ⟨a, xs, rfl, ha, q⟩
 ·obtain ⟨t, rfl⟩ := rx
  exact SeqAt.RcAt.str_tuple _ _ pl2 hu _ _ _ _ ⟨.bl _, H, I, rfl, q⟩
 ·obtain ⟨t, rfl⟩ := rx
  exact SeqAt.RcAt.int_tuple _ _ pl2 hu _ _ _ _ ⟨.bl _, H, I, rfl, q⟩
 ·cases rx
  obtain ⟨its, r, pl, _⟩ := I.list (SqL.of ha)
  exact SeqAt.RcAt.list_tuple pl.isList pl2 hu _ _ _ _ ⟨.bl _, H, I, rfl, q⟩
 ·cases rx
  obtain ⟨its, r, pl, _⟩ := I.tuple (SqT.of ha)
  have l1 := r.length
  have l2 := r2.length
  rw [Zba] at l2
  have k1 := SeqAt.RcAt.tuples (A := X.A) (s := s) (e := fun _ => true) pl pl2 hu fun j _ h2 => absurd h2 (by rw [ZaD, <- l2]; exact ZbE _)
  have e : ((Zaa (min its.toArray.size its2.toArray.size)).all (fun _ => true) && its.toArray.size == its2.toArray.size) = decide (xs = []) := by
   rw [ZaD, ZaD, <- l1, <- l2, Nat.min_zero]
   cases xs with
   | nil => rfl
   | cons a b => rfl
  rw [e] at k1
  exact k1 _ _ _ _ ⟨.bl _, H, I, rfl, q⟩
end
end L2.Internal
namespace L2.Internal
open PySem PySem.Spec PyProof.Rows
noncomputable def Itd (lo : Int) (n : Nat) : It := ⟨fun i _ => i < n, fun i H x H' => H' = H /\ x = .int (lo - i), fun i _ => n <= i⟩
theorem Zmj {P : Program} {w : World} {K : PySem.W.Frag} {tg : Expr} (it : Addr) (lo : Int) (n : Nat) : Zom P w K tg (Itd lo n) [it] it (fun i h => IsRangeIter h it (lo + (i : Nat) * (-1)) ((n : Int) - (i : Nat)) (-1)) where
 mem := by simp
 obj := fun i h st b hb => by
  have e : b = it := by simpa using hb
  subst e
  exact ⟨_, st, fun v z => by
   have z' : Data.fields _ = Data.cell v := z
   cases z'⟩
 keep := fun i h h' st k => k it (by simp) _ st
 item := by
  intro X hP hw hK hc i pins s σ H E I hf st hg
  subst hP hw hK
  obtain ⟨f0, f1, f2, f3, f4, f5⟩ := hf it (by simp)
  have W := Walks.range (prog := X.prog) (w := X.w) (I.ok.hd hc) it lo (-1) n
  refine W.item i s _ _ hg st fun v h' tk hv st' kk => ?_
  obtain ⟨t, rfl⟩ := hv
  have I1 : Inv X pins σ H { s with heap := h', toks := tk } := I.turned (fun b o hb e => kk b o (by simpa using hb) e) f0 f1 f3 f4 f5
  refine ⟨_, rfl, ZlH (s := { s with heap := h', toks := tk }) (n := "range_iterator") st' rfl rfl (by decide) ⟨.int (lo - i), H, I1, ⟨t, ?_⟩, ⟨rfl, rfl⟩, st', fun b hb => (hf b hb).1⟩⟩
  rw [show lo + (i : Int) * (-1) = lo - (i : Int) by omega]
 done := by
  intro X hP hw hK hc i pins s σ H E I hf st hg
  subst hP hw hK
  obtain ⟨f0, f1, f2, f3, f4, f5⟩ := hf it (by simp)
  exact wpAny_pyNext_range_end (I.ok.hd hc) st (by have : n <= i := hg; omega) fun h' eb => ⟨rfl, I.turned (t' := s.toks) (fun b o hb e => eb b o hb e) f0 f1 f3 f4 f5⟩
 self := fun _ _ _ _ _ st h => wpAny_pyIter_rangeiter st h
theorem Zf0 (a b : Int) : Builtin.Range.rangeSize a b (-1) = if a > b then a - b else 0 := by
 unfold Builtin.Range.rangeSize
 rw [if_neg (by decide)]
 by_cases h : a > b
 ·rw [if_pos h, if_pos h]
  show (a - b - 1) / 1 + 1 = a - b
  rw [Int.ediv_one]
  omega
 ·rw [if_neg h, if_neg h]
theorem Zll {a b : Int} (ha : -1 <= a) (ha' : a < 2 ^ 30) (hb : -1 <= b) (hb' : b < 2 ^ 30) : Builtin.Range.small a b (-1) = true := by
 unfold Builtin.Range.small
 rw [Zf0]
 simp only [Builtin.Range.rangeFitsLong, Zcy, Bool.or_eq_true, decide_eq_true_eq, beq_iff_eq, show ¬ (-1 : Int) > 0 by decide, if_false]
 split <;> omega
section
variable {X : Cx} {tg : Expr}
theorem Zmk {pins : List (Addr × Obj)} {σ : St} {H : Hp} {s : Shared} {R : It -> Hp -> Prop} {E : Value -> Shared -> Prop} {lo hi : Int} {t u v : Tok} {tk : Nat} (I : Inv X pins σ H s) (h1 : -1 <= lo) (h2 : lo < 2 ^ 30) (h3 : -1 <= hi) (h4 : hi < 2 ^ 30)
  (q : R (Itd lo (lo - hi).toNat) H) : wpAny (model X.prog X.w) X.A (pyIter (.ref s.heap.objs.size)) (PIE X pins σ tg R) E { s with heap := s.heap.push { cls := .type "range", data := .fields #[.int lo t, .int hi u, .int (-1) v] }, toks := tk } := by
 refine wpAny_pyIter_range (IsRange.new ..) (Zll h1 h2 h3 h4) ?_
 have I1 : Inv X pins σ H { s with heap := s.heap.push { cls := .type "range", data := .fields #[.int lo t, .int hi u, .int (-1) v] }, toks := tk } := I.kept fun b o e => ZcM _ e
 refine ⟨(s.heap.push { cls := .type "range", data := .fields #[.int lo t, .int hi u, .int (-1) v] }).objs.size, [(s.heap.push { cls := .type "range", data := .fields #[.int lo t, .int hi u, .int (-1) v] }).objs.size], _, _, H, rfl,
  I1.kept (t' := tk) fun b o e => ZcM _ e, Zmj _ lo (lo - hi).toNat, ?_, fun b hb => ?_, q⟩
 ·have e1 : lo + ((0 : Nat) : Int) * (-1) = lo := by simp
  have e2 : (((lo - hi).toNat : Nat) : Int) - ((0 : Nat) : Int) = Builtin.Range.rangeSize lo hi (-1) := by rw [Zf0]; split <;> omega
  show IsRangeIter _ _ (lo + ((0 : Nat) : Int) * (-1)) ((((lo - hi).toNat : Nat) : Int) - ((0 : Nat) : Int)) (-1)
  rw [e1, e2]
  exact ZcL _ rfl
 ·have e : b = (s.heap.push { cls := .type "range", data := .fields #[.int lo t, .int hi u, .int (-1) v] }).objs.size := by simpa using hb
  subst e
  exact I1.fpOk (Zbz _) (I1.hok.fresh (Zbz _))
noncomputable def Zri (ta : TA) : TI := fun σ H R => ta σ H fun vs H1 => ∃ i j : Int, vs = [.int i, .int j, .int (-1)] /\ (-1 <= i /\ i < 2 ^ 30 /\ -1 <= j /\ j < 2 ^ 30) /\ R (Itd i (i - j).toNat) H1
theorem Zml {a b c : Expr} {ta : TA} {p pos : Pos} (hg : Gl X "range") (hm : X.mg "range" = none) (ha : PA X [a, b, c] ta) (hs : autoParam (starEach [a, b, c] X.env = [(false, eval a X.env), (false, eval b X.env), (false, eval c X.env)]) L2.Internal.auR._auto_1) (hs2 : autoParam (starEach [b, c] X.env = [(false, eval b X.env), (false, eval c X.env)]) L2.Internal.auR._auto_1) :
  PI X tg (.Call (.Name "range" p) [a, b, c] [] pos) (Zri ta) := by
 intro pins s σ H R I h
 refine Call_ (Zhg I hg hm boot_range (ZcP (thn (ha pos pins s σ H _ I h) fun us s1 ⟨vs, H1, I1, r1, q1⟩ => ?_) (by rw [hs, hs2]) (by rw [hs2]; rfl)))
 obtain ⟨i, j, e, ⟨q1, q2, q3, q4⟩, q⟩ := q1
 subst e
 cases r1 with
 | cons r rr =>
  cases rr with
  | cons r' rr =>
   cases rr with
   | cons r'' rr =>
    cases rr
    obtain ⟨t, rfl⟩ := r
    obtain ⟨t', rfl⟩ := r'
    obtain ⟨t'', rfl⟩ := r''
    exact call_range_3 (by decide) (Zmk I1 q1 q2 q3 q4 q) (.inl (PyProof.noPylong_small (by omega)))
theorem Zne {lo : Int} {n : Nat} {g : TG} {tb : TS} {D : Zih} {σ : St} {H : Hp} (Pv : Nat -> St -> Hp -> Prop) (h0 : Pv 0 σ H)
  (hs : ∀ i σ H, i < n -> Pv i σ H -> g (.int (lo - (i : Int))) σ H fun σ2 H2 => tb { D with nx := Pv (i + 1), ct := Pv (i + 1), bk := D.nx } σ2 H2) (hd : ∀ σ H, Pv n σ H -> D.nx σ H) :
  ∃ W : Nat -> Nat -> St -> Hp -> Prop, (∃ m, W 0 m σ H) /\ ∀ i m σ H, W i m σ H ->
   ((Itd lo n).stop i H /\ D.nx σ H) \/ ((Itd lo n).go i H /\ ∃ N : St -> Hp -> Prop, (∀ σ' H', N σ' H' -> ∃ m', m' < m /\ W (i + 1) m' σ' H') /\ ∀ x H', (Itd lo n).yld i H x H' -> g x σ H' fun σ2 H2 => tb { D with nx := N, ct := N, bk := D.nx } σ2 H2) := by
 refine ⟨fun i m σ H => m = n - i /\ i <= n /\ Pv i σ H, ⟨n, by simp, ZbA _, h0⟩, ?_⟩
 rintro i m σ H ⟨rfl, hi, p⟩
 by_cases hlt : i < n
 ·refine .inr ⟨hlt, Pv (i + 1), fun σ' H' p' => ⟨n - (i + 1), by omega, rfl, hlt, p'⟩, fun x H' y => ?_⟩
  obtain ⟨rfl, rfl⟩ := y
  exact hs i σ _ hlt p
 ·have : i = n := by omega
  subst this
  exact .inl ⟨Zbz _, hd σ H p⟩
end
end L2.Internal
namespace T1
open PySem
noncomputable def sub (c : Nat) (z : List Nat) (l : List Nat) : List Nat := l.flatMap fun k => if k = c then z else [k]
theorem ZfT (c : Nat) (z a b : List Nat) : sub c z (a ++ b) = sub c z a ++ sub c z b := List.flatMap_append ..
theorem Zix (c : Nat) (z : List Nat) : ∀ l : List Nat, ¬ c ∈ l -> sub c z l = l
 | [], _ => rfl
 | k :: r, h => by
  have h1 : ¬ k = c := fun e => h (e ▸ Zad ..)
  have h2 : ¬ c ∈ r := fun m => h (Zae _ m)
  show (if k = c then z else [k]) ++ sub c z r = k :: r
  rw [if_neg h1, Zix c z r h2]
  rfl
theorem ZoL (c : Nat) (z : List Nat) : sub c z [c] = z := by simp [sub]
theorem ZkF (c : Nat) (z : Str) : ∀ parts : List Str, (∀ p ∈ parts, ¬ c ∈ p.cps.toList) -> sub c z.cps.toList (Str.join ⟨#[c]⟩ parts).cps.toList = (Str.join z parts).cps.toList
 | [], _ => rfl
 | [p], h => Zix c _ _ (h p (ZaU.mpr rfl))
 | p :: q :: r, h => by
  have ih := ZkF c z (q :: r) fun a ha => h a (Zae _ ha)
  show sub c z.cps.toList (p ++ ⟨#[c]⟩ ++ Str.join ⟨#[c]⟩ (q :: r)).cps.toList = (p ++ z ++ Str.join z (q :: r)).cps.toList
  simp only [Str.cps_append, ZcF]
  rw [ZfT, ZfT, ih, Zix c _ _ (h p (Zad ..))]
  have e : sub c z.cps.toList [c] = z.cps.toList := ZoL c _
  rw [e]
noncomputable def cut (c : Nat) : List Nat -> List (List Nat)
 | [] => [[]]
 | k :: r => if k = c then [] :: cut c r else match cut c r with
  | h :: t => (k :: h) :: t
  | [] => [[k]]
theorem ZkG (c : Nat) : ∀ l : List Nat, ¬ c ∈ l -> cut c l = [l]
 | [], _ => rfl
 | k :: r, h => by
  have h1 : ¬ k = c := fun e => h (e ▸ Zad ..)
  have h2 : ¬ c ∈ r := fun m => h (Zae _ m)
  unfold cut
  rw [if_neg h1, ZkG c r h2]
theorem ZkH (c : Nat) : ∀ (p r : List Nat), ¬ c ∈ p -> cut c (p ++ c :: r) = p :: cut c r
 | [], r, _ => by show (if c = c then [] :: cut c r else _) = _; rw [if_pos rfl]
 | k :: p, r, h => by
  have h1 : ¬ k = c := fun e => h (e ▸ Zad ..)
  have h2 : ¬ c ∈ p := fun m => h (Zae _ m)
  show (if k = c then _ else match cut c (p ++ c :: r) with | h :: t => (k :: h) :: t | [] => [[k]]) = _
  rw [if_neg h1, ZkH c p r h2]
theorem ZkI (c : Nat) : ∀ parts : List Str, parts ≠ [] -> (∀ p ∈ parts, ¬ c ∈ p.cps.toList) -> cut c (Str.join ⟨#[c]⟩ parts).cps.toList = parts.map (·.cps.toList)
 | [], h, _ => absurd rfl h
 | [p], _, h => ZkG c _ (h p (ZaU.mpr rfl))
 | p :: q :: r, _, h => by
  have ih := ZkI c (q :: r) (by simp) fun a ha => h a (Zae _ ha)
  show cut c (p ++ ⟨#[c]⟩ ++ Str.join ⟨#[c]⟩ (q :: r)).cps.toList = _
  simp only [Str.cps_append, ZcF]
  have e : p.cps.toList ++ [c] ++ (Str.join ⟨#[c]⟩ (q :: r)).cps.toList = p.cps.toList ++ c :: (Str.join ⟨#[c]⟩ (q :: r)).cps.toList := by simp
  show cut c (p.cps.toList ++ [c] ++ (Str.join ⟨#[c]⟩ (q :: r)).cps.toList) = _
  rw [e, ZkH c _ _ (h p (Zad ..)), ih]
  rfl
noncomputable def step (a : List (List Nat) × List Nat) (k : Nat) : List (List Nat) × List Nat :=
 if k = 32 then (if a.2 = [] then (a.1, []) else (a.1 ++ [a.2], [])) else (a.1, a.2 ++ [k])
noncomputable def ZkJ (l : List Nat) : List (List Nat) × List Nat := l.foldl step ([], [])
noncomputable def all (a : List (List Nat) × List Nat) : List (List Nat) := if a.2 = [] then a.1 else a.1 ++ [a.2]
theorem Zht (a b : List Nat) : ZkJ (a ++ b) = b.foldl step (ZkJ a) := by unfold ZkJ; rw [List.foldl_append]
theorem Zmm (c : Nat) : ∀ l, cut c l ≠ []
 | [] => by simp [cut]
 | k :: r => by
  unfold cut
  split
  ·simp
  ·split <;> simp
theorem Zid (c : Nat) : ∀ l, cut c (l ++ [c]) = cut c l ++ [[]]
 | [] => by simp [cut]
 | k :: r => by
  have ih := Zid c r
  show (if k = c then [] :: cut c (r ++ [c]) else match cut c (r ++ [c]) with | h :: t => (k :: h) :: t | [] => [[k]]) = (if k = c then [] :: cut c r else match cut c r with | h :: t => (k :: h) :: t | [] => [[k]]) ++ [[]]
  rw [ih]
  split
  ·rfl
  ·cases e : cut c r with
   | nil => exact absurd e (Zmm c r)
   | cons h t => rfl
theorem Zg8 (c : Nat) {k : Nat} (hk : ¬ k = c) : ∀ l (A : List (List Nat)) (b : List Nat), cut c l = A ++ [b] -> cut c (l ++ [k]) = A ++ [b ++ [k]]
 | [], A, b, h => by
  have e : A = [] /\ b = [] := by
   cases A with
   | nil =>
    have h' : [[]] = [b] := h
    injection h' with h1 _
    exact ⟨rfl, h1.symm⟩
   | cons x A =>
    have h' : [[]] = x :: (A ++ [b]) := h
    injection h' with _ h2
    simp at h2
  obtain ⟨rfl, rfl⟩ := e
  show (if k = c then _ else match cut c [] with | h :: t => (k :: h) :: t | [] => [[k]]) = _
  rw [if_neg hk]
  rfl
 | x :: r, A, b, h => by
  have h : (if x = c then [] :: cut c r else match cut c r with | h :: t => (x :: h) :: t | [] => [[x]]) = A ++ [b] := h
  show (if x = c then [] :: cut c (r ++ [k]) else match cut c (r ++ [k]) with | h :: t => (x :: h) :: t | [] => [[x]]) = A ++ [b ++ [k]]
  by_cases e : x = c
  ·rw [if_pos e] at h ⊢
   cases A with
   | nil =>
    have h' : [] :: cut c r = [b] := h
    injection h' with _ h2
    exact absurd h2 (Zmm c r)
   | cons y A =>
    have h' : [] :: cut c r = y :: (A ++ [b]) := h
    injection h' with h1 h2
    rw [Zg8 c hk r A b h2, <- h1]
    rfl
  ·rw [if_neg e] at h ⊢
   cases q : cut c r with
   | nil => exact absurd q (Zmm c r)
   | cons g t =>
    rw [q] at h
    have h : (x :: g) :: t = A ++ [b] := h
    cases A with
    | nil =>
     have h' : (x :: g) :: t = [b] := h
     injection h' with h1 h2
     rw [Zg8 c hk r [] g (by rw [q, h2]; rfl), <- h1]
     rfl
    | cons y A =>
     have h' : (x :: g) :: t = y :: (A ++ [b]) := h
     injection h' with h1 h2
     rw [Zg8 c hk r (g :: A) b (by rw [q, h2]; rfl), <- h1]
     rfl
theorem Znf (l : List Nat) : ∃ A, cut 32 l = A ++ [(ZkJ l).2] /\ A.filter (fun p => decide (p ≠ [])) = (ZkJ l).1 := by
 suffices H : ∀ n (l : List Nat), l.length = n -> ∃ A, cut 32 l = A ++ [(ZkJ l).2] /\ A.filter (fun p => decide (p ≠ [])) = (ZkJ l).1 from H _ l rfl
 intro n
 induction n with
 | zero =>
  intro l h
  have e : l = [] := Zbb.mp h
  subst e
  exact ⟨[], rfl, rfl⟩
 | succ n ih =>
  intro l h
  obtain ⟨m, k, rfl⟩ : ∃ m k, l = m ++ [k] := by
   have hne : l ≠ [] := by intro e; rw [e] at h; simp at h
   exact ⟨l.dropLast, l.getLast hne, (Zbc hne).symm⟩
  obtain ⟨A, h1, h2⟩ := ih m (by simp at h; exact h)
  rw [Zht]
  show ∃ A, cut 32 (m ++ [k]) = A ++ [(step (ZkJ m) k).2] /\ A.filter (fun p => decide (p ≠ [])) = (step (ZkJ m) k).1
  by_cases e : k = 32
  ·subst e
   refine ⟨A ++ [(ZkJ m).2], ?_, ?_⟩
   ·rw [Zid, h1]
    unfold step
    rw [if_pos rfl]
    split <;> rfl
   ·rw [List.filter_append, h2]
    unfold step
    rw [if_pos rfl]
    by_cases e2 : (ZkJ m).2 = []
    ·rw [if_pos e2, e2]; simp
    ·rw [if_neg e2]; simp [e2]
  ·refine ⟨A, ?_, ?_⟩
   ·unfold step
    rw [if_neg e]
    exact Zg8 32 e m A _ h1
   ·unfold step
    rw [if_neg e]
    exact h2
theorem words_cut (l : List Nat) : (cut 32 l).filter (fun p => decide (p ≠ [])) = all (ZkJ l) := by
 obtain ⟨A, h1, h2⟩ := Znf l
 rw [h1, List.filter_append, h2]
 unfold all
 by_cases e : (ZkJ l).2 = []
 ·rw [if_pos e, e]; simp
 ·rw [if_neg e]; simp [e]
noncomputable def ex (k : Nat) : List Nat := if k = 40 then [32, 40, 32] else if k = 41 then [32, 41, 32] else if k = 10 then [32] else [k]
noncomputable def spaced (l : List Nat) : List Nat := l.flatMap ex
theorem Ziy (a b : List Nat) : spaced (a ++ b) = spaced a ++ spaced b := List.flatMap_append ..
theorem spaced_sub : ∀ l : List Nat, sub 10 [32] (sub 41 [32, 41, 32] (sub 40 [32, 40, 32] l)) = spaced l
 | [] => rfl
 | k :: r => by
  have ih := spaced_sub r
  have e : ∀ (c : Nat) (z : List Nat) (l : List Nat) (k : Nat), sub c z (k :: l) = (if k = c then z else [k]) ++ sub c z l := fun _ _ _ _ => rfl
  have e2 : spaced (k :: r) = ex k ++ spaced r := rfl
  rw [e, ZfT, ZfT, ih, e2]
  congr 1
  unfold ex
  by_cases h1 : k = 40
  ·rw [if_pos h1, if_pos h1]; rfl
  ·rw [if_neg h1, if_neg h1]
   by_cases h2 : k = 41
   ·rw [if_pos h2, h2]; rfl
   ·rw [if_neg h2, e, if_neg h2]
    show sub 10 [32] ([k] ++ []) = _
    rw [Zar, e]
    by_cases h3 : k = 10
    ·rw [if_pos h3]; rfl
    ·rw [if_neg h3]; rfl
noncomputable def W (l : List Nat) : List (List Nat) × List Nat := ZkJ (spaced l)
theorem Zg9 (a b : List Nat) : W (a ++ b) = (spaced b).foldl step (W a) := by unfold W; rw [Ziy, Zht]
theorem W_gap (a : List Nat) {k : Nat} (hk : k = 32 \/ k = 10) : W (a ++ [k]) = (all (W a), []) := by
 rw [Zg9]
 have e : spaced [k] = [32] := by rcases hk with e | e <;> subst e <;> rfl
 rw [e]
 show step (W a) 32 = _
 unfold step all
 rw [if_pos rfl]
 split <;> rfl
theorem W_bracket (a : List Nat) {k : Nat} (hk : k = 40 \/ k = 41) : W (a ++ [k]) = (all (W a) ++ [[k]], []) := by
 rw [Zg9]
 have e : spaced [k] = [32, k, 32] := by rcases hk with e | e <;> subst e <;> rfl
 have n32 : ¬ k = 32 := by omega
 rw [e]
 show step (step (step (W a) 32) k) 32 = _
 have e1 : step (W a) 32 = (all (W a), []) := by
  unfold step all
  rw [if_pos rfl]
  split <;> rfl
 rw [e1]
 show (if (32 : Nat) = 32 then (if (step (all (W a), []) k).2 = [] then ((step (all (W a), []) k).1, []) else ((step (all (W a), []) k).1 ++ [(step (all (W a), []) k).2], [])) else _) = _
 have e2 : step (all (W a), []) k = (all (W a), [k]) := by unfold step; rw [if_neg n32]; rfl
 rw [if_pos rfl, e2]
 rfl
theorem W_run (a : List Nat) : ∀ p : List Nat, (∀ k ∈ p, k ≠ 32 /\ k ≠ 10 /\ k ≠ 40 /\ k ≠ 41) -> W (a ++ p) = ((W a).1, (W a).2 ++ p) := by
 intro p hp
 rw [Zg9]
 have e : spaced p = p := by
  induction p with
  | nil => rfl
  | cons k r ih =>
   obtain ⟨h1, h2, h3, h4⟩ := hp k (Zad ..)
   have e2 : spaced (k :: r) = ex k ++ spaced r := rfl
   rw [e2, ih fun x hx => hp x (Zae _ hx)]
   unfold ex
   rw [if_neg h3, if_neg h4, if_neg h2]
   rfl
 rw [e]
 generalize W a = b
 induction p generalizing b with
 | nil => show b = _; rw [Zar]
 | cons k r ih =>
  obtain ⟨h1, h2, h3, h4⟩ := hp k (Zad ..)
  show r.foldl step (step b k) = _
  have e1 : step b k = (b.1, b.2 ++ [k]) := by unfold step; rw [if_neg h1]
  have e3 : spaced r = r := by
   have e2 : spaced (k :: r) = ex k ++ spaced r := rfl
   have e4 : ex k = [k] := by unfold ex; rw [if_neg h3, if_neg h4, if_neg h2]
   rw [e2, e4] at e
   injection e
  rw [e1, ih (fun x hx => hp x (Zae _ hx)) e3]
  simp
end T1
namespace T1
open PySem
open Builtin Builtin.Str
theorem replace_codes (x z : Str) (c : Nat) : (Txt.replace x ⟨#[c]⟩ z).cps.toList = sub c z.cps.toList x.cps.toList := by
 rw [StrLaws.replace_one, <- ZkF c z _ (StrLaws.split_free x c), StrLaws.join_split]
theorem Zng (x y : Str) : Txt.split x y ≠ [] := by
 unfold Txt.split
 split
 ·simp
 ·split
  ·simp
  ·rename_i h
   cases e : occurrences x y 0 x.length (x.length + 1) with
   | nil => rw [e] at h; exact absurd rfl h
   | cons a r => simp [partsBetween]
theorem split_codes (x : Str) (c : Nat) : (Txt.split x ⟨#[c]⟩).map (·.cps.toList) = cut c x.cps.toList := by
 have h := ZkI c (Txt.split x ⟨#[c]⟩) (Zng x _) (StrLaws.split_free x c)
 rw [StrLaws.join_split] at h
 exact h.symm
theorem flat_len (f : Nat -> List Nat) (n : Nat) (h : ∀ k, (f k).length <= n) : ∀ l : List Nat, (l.flatMap f).length <= n * l.length
 | [] => by simp
 | k :: r => by
  rw [List.flatMap_cons, ZaA, Zan]
  have h1 := h k
  have h2 := flat_len f n h r
  rw [Nat.mul_succ]
  omega
theorem str_ext {x y : Str} (h : x.cps.toList = y.cps.toList) : x = y := by
 obtain ⟨a⟩ := x
 obtain ⟨b⟩ := y
 have e : a = b := Array.toList_inj.mp h
 rw [e]
theorem len_codes (x : Str) : x.cps.toList.length = x.length := by rw [ZcC]; rfl
end T1
namespace T1
open PySem
theorem dig_len : ∀ (k m : Nat), m < 10 ^ (k + 1) -> (ZbF 10 m).length <= k + 1 := by
 intro k
 induction k with
 | zero =>
  intro m h
  rw [ZbG (by simpa using h)]
  exact Zbz _
 | succ k ih =>
  intro m h
  by_cases h10 : m < 10
  ·rw [ZbG h10]
   show 1 <= _
   omega
  ·have hm : m % 10 < 10 := Nat.mod_lt m (by decide)
   have t : ZbF 10 (m / 10) ++ ZbF 10 (m % 10) = ZbF 10 (10 * (m / 10) + m % 10) := ZbH (by decide) (by omega) hm
   rw [Nat.div_add_mod] at t
   rw [<- t, ZaA, ZbG hm]
   have hq : m / 10 < 10 ^ (k + 1) := by
    rw [Nat.div_lt_iff_lt_mul (by decide)]
    rw [Nat.pow_succ] at h
    exact h
   have := ih (m / 10) hq
   show _ + 1 <= _
   omega
end T1
namespace GR.Internal
open PySem L2.Internal
theorem sz {n : Nat} (h : n <= 100000) : n <= sizeLine := Zbw h (by decide)
theorem ZcV {H : Hp} {p : Addr} (h : H p = none) (o : HO) : Same H (upd H p o) := fun b u q => by rw [Zc1 (ZcY q h)]; exact q
noncomputable def wV (w : List Nat) : V := .str ⟨w.toArray⟩
noncomputable def Zhu (l : List Nat) : List V := (T1.all (T1.W l)).map wV
theorem Zlm (l : List Nat) : Zhu l = ((T1.all (T1.W l)).map fun w => (⟨w.toArray⟩ : Str)).map V.str := by
 unfold Zhu
 rw [ZaY]
 rfl
noncomputable def KWV : List V := [.str "def", .str "fn", .str "call", .str "let", .str "rec", .str "get", .str "tag", .str "case", .str "row", .str "at", .str "join", .str "size", .str "add", .str "sub", .str "less"]
noncomputable def SM : Str := "abcdefghijklmnopqrstuvwxyz"
noncomputable def FG : Str := "0123456789"
noncomputable def allIn (x y : Str) : Bool := x.cps.toList.all fun c => decide (c ∈ y.cps.toList)
noncomputable def firstIn (x y : Str) : Bool := match x.cps.toList with
 | [] => false
 | c :: _ => decide (c ∈ y.cps.toList)
noncomputable def isName (x : Str) : Bool := decide (1 <= x.length) && decide (x.length <= 12) && !inV (.str x) KWV && firstIn x SM && allIn x (SM ++ FG)
theorem first_of {x : Str} (h : 1 <= x.length) : ∃ c r, x.cps.toList = c :: r := by
 have e := T1.len_codes x
 cases q : x.cps.toList with
 | nil => rw [q] at e; simp at e; omega
 | cons c r => exact ⟨c, r, rfl⟩
theorem at0 {c : Nat} {r : List Nat} : atI (c :: r) (0 : Int) = some c := Zdi (j := 0) rfl
noncomputable def Zhv (x : Str) : Bool := match x.cps.toList with
 | [] => false
 | c :: _ => c == 48
noncomputable def Zei (x : Str) : Bool := decide (1 <= x.length) && decide (x.length <= 60) && allIn x FG && (!Zhv x || decide (x = "0"))
noncomputable def Zjc (x : Str) : Int := (intText? x).getD 0
theorem ZoM (c : Nat) : decide (V.str ⟨#[c]⟩ = V.str "0") = (c == 48) := by
 by_cases h : c = 48
 ·subst h
  rfl
 ·have h1 : ¬ V.str ⟨#[c]⟩ = V.str "0" := fun z => by
   injection z with z
   have e : (⟨#[c]⟩ : Str).cps.toList = ("0" : Str).cps.toList := by rw [z]
   have e2 : [c] = [48] := e
   injection e2 with e3 _
   exact h e3
  rw [decide_eq_false h1]
  exact (beq_eq_false_iff_ne.mpr h).symm
theorem ZkK : ∀ c ∈ FG.cps.toList, 48 <= c /\ c <= 57 := by decide +kernel
theorem allIn_mem {x y : Str} (h : allIn x y = true) : ∀ c ∈ x.cps.toList, c ∈ y.cps.toList := fun c hc => of_decide_eq_true (Zbd.mp h c hc)
theorem Zln {x : Str} (h1 : 1 <= x.length) (h2 : x.length <= 100) (h : allIn x FG = true) : intText? x = some (Zjc x) := by
 have hd : PySem.NumText.AllDigits x.cps.toList := fun c hc => ZkK c (allIn_mem h c hc)
 have hne : x.cps.toList ≠ [] := by
  obtain ⟨c, r, e⟩ := first_of h1
  rw [e]
  exact Zbe _ _
 have e := PySem.intText_digits hd hne (by omega)
 unfold Zjc
 rw [e]
 rfl
theorem Zhw {x : Str} (h : Zei x = true) : 1 <= x.length /\ x.length <= 60 /\ allIn x FG = true := by
 unfold Zei at h
 simp only [Zcy, decide_eq_true_eq] at h
 exact ⟨h.1.1.1, h.1.1.2, h.1.2⟩
theorem ZoN {n j : Nat} (h : j < n) : ixN n (j : Int) = some j := by
 unfold ixN
 rw [if_pos (by omega), if_pos (by omega)]
 simp
noncomputable def fR (wl : Addr) (k : Int) (rl : Addr) : List (Str × V) := [("words", .ref wl), ("taken", .int k), ("rows", .ref rl)]
theorem Zrj (wl : Addr) (k : Int) (rl : Addr) : ZgG "rows" (.ref rl) (ZgG "taken" (.int k) (ZgG "words" (.ref wl) [])) = fR wl k rl := by
 have h1 : ¬ (("words" : Str) = "taken") := by decide +kernel
 have h2 : ¬ (("words" : Str) = "rows") := by decide +kernel
 have h3 : ¬ (("taken" : Str) = "rows") := by decide +kernel
 simp only [ZgG, if_neg h1, if_neg h2, if_neg h3, fR]
theorem Zp5 (wl : Addr) (k j : Int) (rl : Addr) : ZgG "taken" (.int j) (fR wl k rl) = fR wl j rl := by
 have h1 : ¬ (("words" : Str) = "taken") := by decide +kernel
 simp only [ZgG, fR, if_neg h1, if_pos]
theorem ZkL (wl : Addr) (k : Int) (rl : Addr) : (fR wl k rl).lookup ("words" : Str) = some (.ref wl) := by
 unfold fR
 rw [ZaN, show (("words" : Str) == "words") = true by decide +kernel]
theorem Ziz (wl : Addr) (k : Int) (rl : Addr) : (fR wl k rl).lookup ("taken" : Str) = some (.int k) := by
 unfold fR
 rw [ZaN, show (("taken" : Str) == "words") = false by decide +kernel, ZaN, show (("taken" : Str) == "taken") = true by decide +kernel]
theorem ZiA (wl : Addr) (k : Int) (rl : Addr) : (fR wl k rl).lookup ("rows" : Str) = some (.ref rl) := by
 unfold fR
 rw [ZaN, show (("rows" : Str) == "words") = false by decide +kernel, ZaN, show (("rows" : Str) == "taken") = false by decide +kernel, ZaN, show (("rows" : Str) == "rows") = true by decide +kernel]
theorem Znh (wl : Addr) (k : Int) (rl : Addr) {m : Str} (h1 : (m == "words") = false) (h2 : (m == "taken") = false) (h3 : (m == "rows") = false) : (fR wl k rl).lookup m = none := by
 unfold fR
 rw [ZaN, h1, ZaN, h2, ZaN, h3]
 rfl
structure Zgr (C : Addr) (H : Hp) (p dx wl rl : Addr) (ws : List Str) (k : Nat) (rows : List V) : Prop where
 ob : H p = some (.ins C dx (fR wl (k : Int) rl))
 wd : H wl = some (.lst (ws.map V.str))
 rw : H rl = some (.lst rows)
 ne : wl ≠ rl
structure WOk (ws : List Str) : Prop where
 len : ws.length <= 30000
 one : ∀ x ∈ ws, x ≠ "" /\ x.length <= 30000 /\ ∀ c ∈ x.cps.toList, c < 16 ^ 8
theorem Zgs {ws : List Str} (W : WOk ws) {x : Str} (h : x ∈ ws) : (reprText x).length <= 300002 := by
 obtain ⟨_, h1, h2⟩ := W.one x h
 have := StrLaws.reprText_len x h2
 omega
theorem ZqM {a : Str} (h : a.length <= 300002) : (Str.empty ++ a).length <= sizeLine := by
 have sl : sizeLine = 16777216 := sizeLine_eq
 rw [Str.length_append]
 show 0 + _ <= _
 omega
theorem ZoO {a b : Str} (h : a.length <= 300002) (h2 : b.length <= 100) : (Str.empty ++ a ++ b).length <= sizeLine := by
 have sl : sizeLine = 16777216 := sizeLine_eq
 rw [Str.length_append, Str.length_append]
 show 0 + _ + _ <= _
 omega
theorem cat3 {a b c : Str} (h : a.length <= 300002) (h2 : b.length <= 100) (h3 : c.length <= 300002) : (Str.empty ++ a ++ b ++ c).length <= sizeLine := by
 have sl : sizeLine = 16777216 := sizeLine_eq
 rw [Str.length_append, Str.length_append, Str.length_append]
 show 0 + _ + _ + _ <= _
 omega
theorem ZrV {a b c d : Str} (h : a.length <= 300002) (h2 : b.length <= 100) (h3 : c.length <= 300002) (h4 : d.length <= 100) : (Str.empty ++ a ++ b ++ c ++ d).length <= sizeLine := by
 have sl : sizeLine = 16777216 := sizeLine_eq
 rw [Str.length_append, Str.length_append, Str.length_append, Str.length_append]
 show 0 + _ + _ + _ + _ <= _
 omega
noncomputable def fP (a b c : Addr) : List (Str × V) := [("names", .ref a), ("roots", .ref b), ("rows", .ref c)]
theorem Zrk (a b c : Addr) : ZgG "rows" (.ref c) (ZgG "roots" (.ref b) (ZgG "names" (.ref a) [])) = fP a b c := by
 have h1 : ¬ (("names" : Str) = "roots") := by decide +kernel
 have h2 : ¬ (("names" : Str) = "rows") := by decide +kernel
 have h3 : ¬ (("roots" : Str) = "rows") := by decide +kernel
 simp only [ZgG, if_neg h1, if_neg h2, if_neg h3, fP]
theorem Zfo (a b c : Addr) : (fP a b c).lookup ("names" : Str) = some (.ref a) := by
 unfold fP
 rw [ZaN, show (("names" : Str) == "names") = true by decide +kernel]
theorem ZfU (a b c : Addr) : (fP a b c).lookup ("roots" : Str) = some (.ref b) := by
 unfold fP
 rw [ZaN, show (("roots" : Str) == "names") = false by decide +kernel, ZaN, show (("roots" : Str) == "roots") = true by decide +kernel]
theorem Zf6 (a b c : Addr) : (fP a b c).lookup ("rows" : Str) = some (.ref c) := by
 unfold fP
 rw [ZaN, show (("rows" : Str) == "names") = false by decide +kernel, ZaN, show (("rows" : Str) == "roots") = false by decide +kernel, ZaN, show (("rows" : Str) == "rows") = true by decide +kernel]
theorem Zrl {c : Nat} (h1 : 48 <= c) (h2 : c <= 57) : c ∈ FG.cps.toList := by
 have e : FG.cps.toList = [48, 49, 50, 51, 52, 53, 54, 55, 56, 57] := by decide +kernel
 rw [e]
 have : c = 48 \/ c = 49 \/ c = 50 \/ c = 51 \/ c = 52 \/ c = 53 \/ c = 54 \/ c = 55 \/ c = 56 \/ c = 57 := by omega
 rcases this with rfl | rfl | rfl | rfl | rfl | rfl | rfl | rfl | rfl | rfl <;> decide
theorem str_fig {n : Int} {k : Nat} (h0 : 0 <= n) (h1 : n < 10 ^ (k + 1)) : (∀ c ∈ (PySem.Str.ofString (toString n)).cps.toList, c ∈ FG.cps.toList) /\ 1 <= (PySem.Str.ofString (toString n)).length /\ (PySem.Str.ofString (toString n)).length <= k + 1 := by
 obtain ⟨m, rfl⟩ := ZcH h0
 have hm : m < 10 ^ (k + 1) := by
  have z : ((m : Nat) : Int) < ((10 ^ (k + 1) : Nat) : Int) := by rw [Int.natCast_pow]; exact h1
  exact Int.ofNat_lt.mp z
 have e := PySem.W.KIN.signs_num m
 have el := T1.len_codes (PySem.Str.ofString (toString ((m : Nat) : Int)))
 rw [e, Zaq] at el
 refine ⟨fun c hc => ?_, ?_, ?_⟩
 ·rw [e] at hc
  obtain ⟨ch, hch, rfl⟩ := ZaX.mp hc
  obtain ⟨r1, r2⟩ := PyProof.Rows.digit_range (Nat.isDigit_of_mem_toDigits (by decide) (by decide) hch)
  exact Zrl r1 r2
 ·have z := PySem.toDigits_len_ge 10 m
  omega
 ·have z := T1.dig_len k m hm
  omega
theorem Zp6 {n : Int} (h0 : 0 <= n) (h1 : n < 10 ^ 70) : n.natAbs.log2 < 1920 := by
 by_cases hz : n.natAbs = 0
 ·rw [hz]
  decide
 ·rw [Nat.log2_lt hz]
  have a : n.natAbs < 10 ^ 70 := by omega
  exact Nat.lt_trans a (by decide +kernel)
theorem ZeE (x y : Str) : (x ++ y).cps.toList = x.cps.toList ++ y.cps.toList := by rw [Str.cps_append, ZcF]
theorem Zgr.ne1 {C p dx wl rl : Addr} {H : Hp} {ws : List Str} {k : Nat} {rows : List V} (R : Zgr C H p dx wl rl ws k rows) : p ≠ wl := ZfF R.ob R.wd (fun z => nomatch z)
theorem Zgr.ne2 {C p dx wl rl : Addr} {H : Hp} {ws : List Str} {k : Nat} {rows : List V} (R : Zgr C H p dx wl rl ws k rows) : p ≠ rl := ZfF R.ob R.rw (fun z => nomatch z)
theorem Zgr.next {C p dx wl rl : Addr} {H : Hp} {ws : List Str} {k : Nat} {rows : List V} (R : Zgr C H p dx wl rl ws k rows) (j : Nat) : Zgr C (upd H p (.ins C dx (fR wl (j : Int) rl))) p dx wl rl ws j rows :=
 ⟨ZcS, by rw [Zc1 (Ne.symm R.ne1)]; exact R.wd, by rw [Zc1 (Ne.symm R.ne2)]; exact R.rw, R.ne⟩
theorem Zgr.same {C p dx wl rl : Addr} {H H' : Hp} {ws : List Str} {k : Nat} {rows : List V} (R : Zgr C H p dx wl rl ws k rows) (S : Same H H') : Zgr C H' p dx wl rl ws k rows := ⟨S _ _ R.ob, S _ _ R.wd, S _ _ R.rw, R.ne⟩
theorem tn0 {σ : St} {H : Hp} {Q : List V -> Hp -> Prop} (h : Q [] H) : Zph σ H Q := h
theorem tc1 {v : V} {σ : St} {H : Hp} {Q : List V -> Hp -> Prop} (h : Q [v] H) : ZmV (tC v) Zph σ H Q := h
theorem ZdM (wl : Addr) (k : Int) (rl : Addr) (m : Str) (h : m = "ahead" \/ m = "pass_over" \/ m = "take_name" \/ m = "take_expr" \/ m = "take" \/ m = "take_row" \/ m = "take_steady" \/ m = "take_fields" \/ m = "take_arms" \/ m = "take_things" \/ m = "take_form") : (fR wl k rl).lookup m = none := by
 rcases h with rfl | rfl | rfl | rfl | rfl | rfl | rfl | rfl | rfl | rfl | rfl <;> exact Znh _ _ _ (by decide +kernel) (by decide +kernel) (by decide +kernel)
theorem ZiB {H H' : Hp} {p : Addr} (o : HO) (h : H p = none) (S : Same H H') : Same H (upd H' p o) := fun b u e => by rw [Zc1 (ZcY e h)]; exact S b u e
end GR.Internal
namespace GR.Internal
open PySem L2.Internal
noncomputable abbrev Rs := List Str × List Dt
noncomputable def Zc5 (pe : List Str -> List Dt -> Option Rs) : List Bool -> List Dt -> List Str -> List Dt -> Option (List Dt × Rs)
 | [], acc, ws, rows => some (acc, ws, rows)
 | true :: ps, acc, ws, rows => match ws with
  | [] => none
  | x :: r => if isName x = true then Zc5 pe ps (acc ++ [.flat (.str x)]) r rows else none
 | false :: ps, acc, ws, rows => match pe ws rows with
  | none => none
  | some (r, rows') => Zc5 pe ps (acc ++ [.flat (.int (rows.length : Int))]) r rows'
noncomputable def ZdZ (item : List Str -> List Dt -> Option (Dt × Rs)) (ws : List Str) (rows acc : List Dt) : Option (List Dt × Rs) :=
 if ws.head? = some ")" then some (acc, ws, rows) else match item ws rows with
  | none => none
  | some (d, r, rows') => if h : r.length < ws.length then ZdZ item r rows' (acc ++ [d]) else none
termination_by ws.length
noncomputable def ZdW (pe : List Str -> List Dt -> Option Rs) (ps : List Bool) (ws : List Str) (rows : List Dt) : Option (Dt × Rs) := match Zc5 pe ps [] ws rows with
 | none => none
 | some (ds, r) => some (.tup ds, r)
noncomputable def Ze6 (pe : List Str -> List Dt -> Option Rs) (ws : List Str) (rows : List Dt) : Option (Dt × Rs) := match pe ws rows with
 | none => none
 | some r => some (.flat (.int (rows.length : Int)), r)
noncomputable def chk (lo hi : Nat) (o : Option (List Dt × Rs)) : Option (List Dt × Rs) := match o with
 | none => none
 | some (l, r) => if lo <= l.length /\ l.length <= hi then some (l, r) else none
noncomputable def stT : List (Str × List Bool) := [("fn", [true, false]), ("call", [false, false]), ("let", [true, false, false]), ("get", [false, true]), ("tag", [true, false]), ("at", [false, false, false]),
 ("join", [false, false]), ("size", [false]), ("add", [false, false]), ("sub", [false, false]), ("less", [false, false])]
noncomputable def stP (h : Str) : Option (List Bool) := (stT.find? fun p => decide (p.1 = h)).map (·.2)
noncomputable def Zd6 (pe : List Str -> List Dt -> Option Rs) (h : Str) (ws : List Str) (rows : List Dt) : Option (List Dt × Rs) :=
 if h = "rec" then match chk 0 6 (ZdZ (ZdW pe [true, false]) ws rows []) with
  | none => none
  | some (l, r) => some ([.flat (.str "rec"), .tup l], r)
 else if h = "case" then match pe ws rows with
  | none => none
  | some (r1, rows1) => match chk 1 6 (ZdZ (ZdW pe [true, true, false]) r1 rows1 []) with
   | none => none
   | some (l, r) => some ([.flat (.str "case"), .flat (.int (rows.length : Int)), .tup l], r)
 else if h = "row" then match chk 0 8 (ZdZ (Ze6 pe) ws rows []) with
  | none => none
  | some (l, r) => some ([.flat (.str "row"), .tup l], r)
 else match stP h with
  | none => none
  | some ps => match Zc5 pe ps [] ws rows with
   | none => none
   | some (ds, r) => some (.flat (.str h) :: ds, r)
noncomputable def ZfJ (o : Option (List Dt × Rs)) : Option (List Dt × Rs) := match o with
 | none => none
 | some (ds, r, rows) => match r with
  | [] => none
  | y :: r' => if y = ")" then some (ds, r', rows) else none
noncomputable def Zie (pe : List Str -> List Dt -> Option Rs) (ws : List Str) (rows : List Dt) : Option (List Dt × Rs) := match ws with
 | [] => none
 | x :: r => if Zei x = true then some ([.flat (.str "num"), .flat (.int (Zjc x))], r, rows)
  else if isName x = true then some ([.flat (.str "name"), .flat (.str x)], r, rows)
  else if x = "(" then (match r with
   | [] => none
   | h :: r2 => ZfJ (Zd6 pe h r2 rows))
  else none
noncomputable def Zc8 : Nat -> List Str -> List Dt -> Option Rs
 | 0, _, _ => none
 | f + 1, ws, rows => if rows.length = 160 then none else match Zie (Zc8 f) ws (rows ++ [.flat .non]) with
  | none => none
  | some (ds, r, rows') => some (r, rows'.set rows.length (.tup ds))
noncomputable def Zep (ws : List Str) (rows : List Dt) (names : List Str) (roots : List Dt) : Option (List Str × List Dt × List Dt) := match ws with
 | [] => some (names, roots, rows)
 | [_] => none
 | [_, _] => none
 | a :: b :: c :: r => if a = "(" /\ b = "def" /\ isName c = true then (match Zc8 24 r rows with
   | none => none
   | some (r2, rows2) => match r2 with
    | [] => none
    | y :: r3 => if y = ")" then (if h : r3.length < r.length + 3 then Zep r3 rows2 (names ++ [c]) (roots ++ [.flat (.int (rows.length : Int))]) else none) else none) else none
termination_by ws.length
decreasing_by simp_wf; omega
noncomputable def ZfY (ws : List Str) : Option (List Str × List Dt × List Dt) := match Zep ws [] [] [] with
 | none => none
 | some (n, r, rows) => if 1 <= n.length /\ n.length <= 12 then some (n, r, rows) else none
structure Zg3 (ws : List Str) (rows : List Dt) (r : Rs) : Prop where
 le : r.1.length <= ws.length
 up : rows.length <= r.2.length
 most : rows.length <= 160 -> r.2.length <= 160
 suf : ∃ u, ws = u ++ r.1
theorem Zg3.refl (ws : List Str) (rows : List Dt) : Zg3 ws rows (ws, rows) := ⟨Zbz _, Zbz _, fun h => h, [], rfl⟩
theorem Zg3.trans {ws : List Str} {rows : List Dt} {r s : Rs} (a : Zg3 ws rows r) (b : Zg3 r.1 r.2 s) : Zg3 ws rows s := by
 obtain ⟨u, e⟩ := a.suf
 obtain ⟨v, e'⟩ := b.suf
 exact ⟨Zbw b.le a.le, Zbw a.up b.up, fun h => b.most (a.most h), u ++ v, by rw [ZaK, <- e', <- e]⟩
theorem Zg3.drop {x : Str} {r : List Str} {rows : List Dt} : Zg3 (x :: r) rows (r, rows) := ⟨Nat.le_succ _, Zbz _, fun h => h, [x], rfl⟩
noncomputable def Zpk (pe : List Str -> List Dt -> Option Rs) : Prop := ∀ ws rows r, pe ws rows = some r -> Zg3 ws rows r /\ r.1.length < ws.length /\ rows.length < r.2.length
theorem Ze7 {pe : List Str -> List Dt -> Option Rs} (g : Zpk pe) : ∀ (ps : List Bool) (acc : List Dt) (ws : List Str) (rows ds : List Dt) (r : Rs), Zc5 pe ps acc ws rows = some (ds, r) -> Zg3 ws rows r /\ (ps ≠ [] -> r.1.length < ws.length) /\ ds.length = acc.length + ps.length
 | [], acc, ws, rows, ds, r, h => by
  rw [Zc5] at h
  cases h
  exact ⟨Zg3.refl _ _, fun z => absurd rfl z, rfl⟩
 | true :: ps, acc, [], rows, ds, r, h => by
  rw [Zc5] at h
  cases h
 | true :: ps, acc, x :: ws, rows, ds, r, h => by
  rw [Zc5] at h
  split at h
  ·obtain ⟨s, _, l⟩ := Ze7 g ps _ _ _ _ _ h
   have s' := (Zg3.drop (x := x)).trans s
   refine ⟨s', fun _ => ?_, ?_⟩
   ·have := s.le
    simp only [Zan]
    omega
   ·simp only [ZaA, Zan, Zba] at l ⊢
    omega
  ·cases h
 | false :: ps, acc, ws, rows, ds, r, h => by
  rw [Zc5] at h
  split at h
  ·cases h
  ·rename_i r1 rows1 e
   obtain ⟨s1, lt, _⟩ := g _ _ _ e
   obtain ⟨s, _, l⟩ := Ze7 g ps _ _ _ _ _ h
   refine ⟨s1.trans s, fun _ => Nat.lt_of_le_of_lt s.le lt, ?_⟩
   simp only [ZaA, Zan, Zba] at l ⊢
   omega
noncomputable def Zjd (item : List Str -> List Dt -> Option (Dt × Rs)) : Prop := ∀ ws rows d r, item ws rows = some (d, r) -> Zg3 ws rows r /\ r.1.length < ws.length
theorem Zfv {pe : List Str -> List Dt -> Option Rs} (g : Zpk pe) (ps : List Bool) (h : ps ≠ []) : Zjd (ZdW pe ps) := by
 intro ws rows d r e
 unfold ZdW at e
 split at e
 ·cases e
 ·rename_i ds r' e'
  cases e
  obtain ⟨s, l, _⟩ := Ze7 g ps _ _ _ _ _ e'
  exact ⟨s, l h⟩
theorem ZgL {pe : List Str -> List Dt -> Option Rs} (g : Zpk pe) : Zjd (Ze6 pe) := by
 intro ws rows d r e
 unfold Ze6 at e
 split at e
 ·cases e
 ·rename_i r' e'
  cases e
  obtain ⟨s, l, _⟩ := g _ _ _ e'
  exact ⟨s, l⟩
theorem ZgM {item : List Str -> List Dt -> Option (Dt × Rs)} (g : Zjd item) (ws : List Str) (rows acc : List Dt) (h : ws.head? ≠ some ")") :
  ZdZ item ws rows acc = match item ws rows with
   | none => none
   | some (d, r, rows') => ZdZ item r rows' (acc ++ [d]) := by
 rw [ZdZ, if_neg h]
 cases e : item ws rows with
 | none => rfl
 | some x =>
  obtain ⟨d, r, rows'⟩ := x
  have l := (g _ _ _ _ e).2
  show (if h : r.length < ws.length then _ else _) = _
  rw [dif_pos l]
theorem Zfz {item : List Str -> List Dt -> Option (Dt × Rs)} (ws : List Str) (rows acc : List Dt) (h : ws.head? = some ")") : ZdZ item ws rows acc = some (acc, ws, rows) := by
 rw [ZdZ, if_pos h]
theorem Zhx {item : List Str -> List Dt -> Option (Dt × Rs)} (g : Zjd item) : ∀ (n : Nat) (ws : List Str) (rows acc l : List Dt) (r : Rs), ws.length <= n -> ZdZ item ws rows acc = some (l, r) -> Zg3 ws rows r := by
 intro n
 induction n with
 | zero =>
  intro ws rows acc l r hn h
  by_cases hh : ws.head? = some ")"
  ·rw [Zfz _ _ _ hh] at h
   cases h
   exact Zg3.refl _ _
  ·rw [ZgM g _ _ _ hh] at h
   split at h
   ·cases h
   ·rename_i d r' rows' e
    have l := (g _ _ _ _ e).2
    omega
 | succ n ih =>
  intro ws rows acc l r hn h
  by_cases hh : ws.head? = some ")"
  ·rw [Zfz _ _ _ hh] at h
   cases h
   exact Zg3.refl _ _
  ·rw [ZgM g _ _ _ hh] at h
   split at h
   ·cases h
   ·rename_i d r' rows' e
    obtain ⟨s, lt⟩ := g _ _ _ _ e
    exact s.trans (ih _ _ _ _ _ (by omega) h)
theorem ZiC {lo hi : Nat} {o : Option (List Dt × Rs)} {l : List Dt} {r : Rs} (h : chk lo hi o = some (l, r)) : o = some (l, r) /\ lo <= l.length /\ l.length <= hi := by
 unfold chk at h
 split at h
 ·cases h
 ·split at h
  ·cases h
   rename_i z
   exact ⟨rfl, z⟩
  ·cases h
theorem Zmn {pe : List Str -> List Dt -> Option Rs} (g : Zpk pe) {h : Str} {ws : List Str} {rows ds : List Dt} {r : Rs} (e : Zd6 pe h ws rows = some (ds, r)) : Zg3 ws rows r := by
 unfold Zd6 at e
 split at e
 ·split at e
  ·cases e
  ·rename_i l r' e'
   cases e
   exact Zhx (Zfv g _ (by simp)) _ _ _ _ _ _ (Zbz _) (ZiC e').1
 split at e
 ·split at e
  ·cases e
  ·rename_i r1 rows1 e1
   split at e
   ·cases e
   ·rename_i l r' e'
    cases e
    exact (g _ _ _ e1).1.trans (Zhx (Zfv g _ (by simp)) _ _ _ _ _ _ (Zbz _) (ZiC e').1)
 split at e
 ·split at e
  ·cases e
  ·rename_i l r' e'
   cases e
   exact Zhx (ZgL g) _ _ _ _ _ _ (Zbz _) (ZiC e').1
 split at e
 ·cases e
 ·split at e
  ·cases e
  ·rename_i ds' r' e'
   cases e
   exact (Ze7 g _ _ _ _ _ _ e').1
theorem Zlo {o : Option (List Dt × Rs)} {ds : List Dt} {r : Rs} {ws : List Str} {rows : List Dt} (h : ∀ ds' r', o = some (ds', r') -> Zg3 ws rows r') (e : ZfJ o = some (ds, r)) : Zg3 ws rows r := by
 unfold ZfJ at e
 split at e
 ·cases e
 ·rename_i ds' r' rows'
  split at e
  ·cases e
  ·split at e
   ·cases e
    exact (h _ _ rfl).trans Zg3.drop
   ·cases e
theorem ZkM {pe : List Str -> List Dt -> Option Rs} (g : Zpk pe) {ws : List Str} {rows ds : List Dt} {r : Rs} (e : Zie pe ws rows = some (ds, r)) : Zg3 ws rows r /\ r.1.length < ws.length := by
 unfold Zie at e
 split at e
 ·cases e
 ·rename_i x ws'
  split at e
  ·cases e
   exact ⟨Zg3.drop, ZbB _⟩
  split at e
  ·cases e
   exact ⟨Zg3.drop, ZbB _⟩
  split at e
  ·split at e
   ·cases e
   ·rename_i hh h r2
    have s := Zlo (fun ds' r' z => Zmn g z) e
    have s2 := (Zg3.drop (x := h)).trans s
    exact ⟨(Zg3.drop (x := x)).trans s2, Nat.lt_of_le_of_lt s2.le (ZbB _)⟩
  ·cases e
theorem Zec : ∀ f : Nat, Zpk (Zc8 f)
 | 0 => fun ws rows r e => by rw [Zc8] at e; cases e
 | f + 1 => fun ws rows r e => by
  rw [Zc8] at e
  split at e
  ·cases e
  ·rename_i hne
   split at e
   ·cases e
   ·rename_i ds r' rows' e'
    cases e
    obtain ⟨s, lt⟩ := ZkM (Zec f) e'
    have up := s.up
    simp only [ZaA, Zan, Zba] at up
    refine ⟨⟨s.le, ?_, fun h => ?_, s.suf⟩, lt, ?_⟩
    ·show rows.length <= (rows'.set _ _).length
     rw [ZaG]
     omega
    ·show (rows'.set _ _).length <= 160
     rw [ZaG]
     refine s.most ?_
     simp only [ZaA, Zan, Zba]
     omega
    ·show rows.length < (rows'.set _ _).length
     rw [ZaG]
     omega
section
variable {pe : List Str -> List Dt -> Option Rs} {x : Str} {r : List Str} {rows : List Dt}
theorem ZjS (h : Zei x = true) : Zie pe (x :: r) rows = some ([.flat (.str "num"), .flat (.int (Zjc x))], r, rows) := by unfold Zie; exact if_pos h
theorem ZiD (h1 : ¬ Zei x = true) (h : isName x = true) : Zie pe (x :: r) rows = some ([.flat (.str "name"), .flat (.str x)], r, rows) := by unfold Zie; exact (if_neg h1).trans (if_pos h)
theorem Zp7 (h1 : ¬ Zei x = true) (h2 : ¬ isName x = true) (h : ¬ x = "(") : Zie pe (x :: r) rows = none := by unfold Zie; exact (if_neg h1).trans ((if_neg h2).trans (if_neg h))
theorem ZjT {y : Str} (h1 : ¬ Zei x = true) (h2 : ¬ isName x = true) (h : x = "(") : Zie pe (x :: y :: r) rows = ZfJ (Zd6 pe y r rows) := by unfold Zie; exact (if_neg h1).trans ((if_neg h2).trans (if_pos h))
theorem Zni (h1 : ¬ Zei x = true) (h2 : ¬ isName x = true) (h : x = "(") : Zie pe [x] rows = none := by unfold Zie; exact (if_neg h1).trans ((if_neg h2).trans (if_pos h))
end
section
variable {rows : List Dt} {names : List Str} {roots : List Dt}
theorem defs_nil : Zep [] rows names roots = some (names, roots, rows) := by rw [Zep]
theorem Znj {ws : List Str} (h0 : ws ≠ []) (h : ws.head? ≠ some "(") : Zep ws rows names roots = none := by
 match ws, h0, h with
 | [_], _, _ => rw [Zep]
 | [_, _], _, _ => rw [Zep]
 | a :: b :: c :: r, _, h =>
  rw [Zep, if_neg]
  exact fun z => h (congrArg some z.1)
theorem Znk {r : List Str} (h : r.head? ≠ some "def") : Zep ("(" :: r) rows names roots = none := by
 match r, h with
 | [], _ => rw [Zep]
 | [_], _ => rw [Zep]
 | b :: c :: r, h =>
  rw [Zep, if_neg]
  exact fun z => h (congrArg some z.2.1)
theorem Znl {r : List Str} (h : ∀ x r', r = x :: r' -> isName x = false) : Zep ("(" :: "def" :: r) rows names roots = none := by
 match r, h with
 | [], _ => rw [Zep]
 | c :: r, h =>
  rw [Zep, if_neg]
  intro z
  have := h c r rfl
  rw [z.2.2] at this
  cases this
theorem Znm {c : Str} {r : List Str} (hc : isName c = true) (e : Zc8 24 r rows = none) : Zep ("(" :: "def" :: c :: r) rows names roots = none := by
 rw [Zep, if_pos ⟨rfl, rfl, hc⟩, e]
theorem Znn {c : Str} {r r2 : List Str} {rows2 : List Dt} (hc : isName c = true) (e : Zc8 24 r rows = some (r2, rows2)) (h : r2.head? ≠ some ")") : Zep ("(" :: "def" :: c :: r) rows names roots = none := by
 rw [Zep, if_pos ⟨rfl, rfl, hc⟩, e]
 match r2, h with
 | [], _ => rfl
 | y :: r3, h => exact if_neg fun z => h (congrArg some z)
theorem defs_yes {c : Str} {r r3 : List Str} {rows2 : List Dt} (hc : isName c = true) (e : Zc8 24 r rows = some ((")" : Str) :: r3, rows2)) : Zep ("(" :: "def" :: c :: r) rows names roots = Zep r3 rows2 (names ++ [c]) (roots ++ [.flat (.int (rows.length : Int))]) := by
 rw [Zep, if_pos ⟨rfl, rfl, hc⟩, e]
 have l : ((")" : Str) :: r3).length < r.length := (Zec 24 _ _ _ e).2.1
 have l2 : r3.length < r.length + 3 := by
  rw [Zan] at l
  omega
 show (if (")" : Str) = ")" then (if h : r3.length < r.length + 3 then _ else _) else _) = _
 rw [if_pos rfl, dif_pos l2]
end
end GR.Internal
namespace GR.Internal
open PySem L2.Internal
mutual
inductive TAt (K : PySem.W.Frag) (H : Hp) : V -> Dt -> Prop where
 | flat {v : V} (h : ZgI v = true) : TAt K H v (.flat v)
 | tup {a : Addr} {xs : List V} {ds : List Dt} (h : H a = some (.tup xs)) (hs : Zfl K H xs ds) : TAt K H (.ref a) (.tup ds)
inductive Zfl (K : PySem.W.Frag) (H : Hp) : List V -> List Dt -> Prop where
 | nil : Zfl K H [] []
 | cons {x : V} {d : Dt} {xs : List V} {ds : List Dt} (h : TAt K H x d) (hs : Zfl K H xs ds) : Zfl K H (x :: xs) (d :: ds)
end
section
variable {K : PySem.W.Frag} {H H' : Hp}
mutual
theorem TAt.mono (k : ∀ a xs, H a = some (.tup xs) -> H' a = some (.tup xs)) : ∀ {x : V} {d : Dt}, TAt K H x d -> TAt K H' x d
 | _, _, .flat h => .flat h
 | _, _, .tup h hs => .tup (k _ _ h) (Zfl.mono k hs)
theorem Zfl.mono (k : ∀ a xs, H a = some (.tup xs) -> H' a = some (.tup xs)) : ∀ {xs : List V} {ds : List Dt}, Zfl K H xs ds -> Zfl K H' xs ds
 | _, _, .nil => .nil
 | _, _, .cons h hs => .cons (TAt.mono k h) (Zfl.mono k hs)
end
mutual
theorem TAt.at : ∀ {x : V} {d : Dt}, TAt K H x d -> At K H x d
 | _, _, .flat h => .flat h
 | _, _, .tup h hs => .tup (.inl (.inl h)) (Zfl.ats hs)
theorem Zfl.ats : ∀ {xs : List V} {ds : List Dt}, Zfl K H xs ds -> Ats K H xs ds
 | _, _, .nil => .nil
 | _, _, .cons h hs => .cons (TAt.at h) (Zfl.ats hs)
end
theorem Zfl.length : ∀ {xs : List V} {ds : List Dt}, Zfl K H xs ds -> xs.length = ds.length
 | _, _, .nil => rfl
 | _, _, .cons _ t => by rw [Zan, Zan, Zfl.length t]
theorem Zfl.app : ∀ {xs ys : List V} {ds es : List Dt}, Zfl K H xs ds -> Zfl K H ys es -> Zfl K H (xs ++ ys) (ds ++ es)
 | _, _, _, _, .nil, q => q
 | _, _, _, _, .cons h t, q => .cons h (Zfl.app t q)
theorem Zfl.snoc {xs : List V} {ds : List Dt} {x : V} {d : Dt} (a : Zfl K H xs ds) (b : TAt K H x d) : Zfl K H (xs ++ [x]) (ds ++ [d]) := a.app (.cons b .nil)
theorem Zfl.set : ∀ {xs : List V} {ds : List Dt} {x : V} {d : Dt} (j : Nat), Zfl K H xs ds -> TAt K H x d -> Zfl K H (xs.set j x) (ds.set j d)
 | _, _, _, _, _, .nil, _ => .nil
 | _, _, _, _, 0, .cons _ t, q => .cons q t
 | _, _, _, _, j + 1, .cons h t, q => .cons h (Zfl.set j t q)
end
noncomputable def K2 (p q : Addr) (H H' : Hp) : Prop := ∀ b o, H b = some o -> b ≠ p -> b ≠ q -> H' b = some o
theorem K2.refl (p q : Addr) (H : Hp) : K2 p q H H := fun _ _ e _ _ => e
theorem K2.trans {p q : Addr} {H H1 H2 : Hp} (a : K2 p q H H1) (b : K2 p q H1 H2) : K2 p q H H2 := fun c o e h1 h2 => b c o (a c o e h1 h2) h1 h2
theorem Same.k2 {p q : Addr} {H H' : Hp} (s : Same H H') : K2 p q H H' := fun b o e _ _ => s b o e
theorem K2.upd1 {p q : Addr} {H H' : Hp} (k : K2 p q H H') (o : HO) : K2 p q H (upd H' p o) := fun b u e h1 h2 => by rw [Zc1 h1]; exact k b u e h1 h2
theorem K2.upd2 {p q : Addr} {H H' : Hp} (k : K2 p q H H') (o : HO) : K2 p q H (upd H' q o) := fun b u e h1 h2 => by rw [Zc1 h2]; exact k b u e h1 h2
theorem K2.sqT {K : PySem.W.Frag} {p q : Addr} {H H' : Hp} {o1 o2 : HO} (k : K2 p q H H') (h1 : H p = some o1) (h2 : H q = some o2) (n1 : ∀ xs, o1 ≠ .tup xs /\ ∀ o, o1 ≠ .frz o (.tup xs)) (n2 : ∀ xs, o2 ≠ .tup xs /\ ∀ o, o2 ≠ .frz o (.tup xs)) {a : Addr} {xs : List V} (s : SqT K H a xs) : SqT K H' a xs := by
 rcases s with s | s
 ·refine .inl ?_
  rcases s with s | ⟨o, s⟩
  ·exact .inl (k _ _ s (ZfF s h1 (Ne.symm (n1 xs).1)) (ZfF s h2 (Ne.symm (n2 xs).1)))
  ·exact .inr ⟨o, k _ _ s (ZfF s h1 (Ne.symm ((n1 xs).2 o))) (ZfF s h2 (Ne.symm ((n2 xs).2 o)))⟩
 ·exact .inr s
noncomputable def RS (K : PySem.W.Frag) (C : Addr) (H : Hp) (p dx wl rl : Addr) (ws rest : List Str) (rows : List Dt) : Prop :=
 ∃ k rv, Zgr C H p dx wl rl ws k rv /\ ws.drop k = rest /\ k <= ws.length /\ Zfl K H rv rows
section
variable {K : PySem.W.Frag} {C p dx wl rl : Addr} {H H' : Hp} {ws rest : List Str} {rows : List Dt}
theorem Zgr.sqT {k : Nat} {rv : List V} (R : Zgr C H p dx wl rl ws k rv) (kk : K2 p rl H H') {a : Addr} {xs : List V} (s : SqT K H a xs) : SqT K H' a xs :=
 kk.sqT R.ob R.rw (fun _ => ⟨(fun z => nomatch z), fun _ z => nomatch z⟩) (fun _ => ⟨(fun z => nomatch z), fun _ z => nomatch z⟩) s
theorem Zgr.tpT {k : Nat} {rv : List V} (R : Zgr C H p dx wl rl ws k rv) (kk : K2 p rl H H') {a : Addr} {xs : List V} (s : H a = some (.tup xs)) : H' a = some (.tup xs) :=
 kk _ _ s (ZfF s R.ob (fun z => nomatch z)) (ZfF s R.rw (fun z => nomatch z))
theorem RS.tat (R : RS K C H p dx wl rl ws rest rows) (kk : K2 p rl H H') {x : V} {d : Dt} (t : TAt K H x d) : TAt K H' x d := by
 obtain ⟨k, rv, R, _⟩ := R
 exact t.mono fun a xs s => Zgr.tpT R kk s
theorem RS.tats (R : RS K C H p dx wl rl ws rest rows) (kk : K2 p rl H H') {xs : List V} {ds : List Dt} (t : Zfl K H xs ds) : Zfl K H' xs ds := by
 obtain ⟨k, rv, R, _⟩ := R
 exact t.mono fun a xs s => Zgr.tpT R kk s
theorem RS.same (R : RS K C H p dx wl rl ws rest rows) (s : Same H H') : RS K C H' p dx wl rl ws rest rows := by
 obtain ⟨k, rv, R, h1, h2, h3⟩ := R
 exact ⟨k, rv, ⟨s _ _ R.ob, s _ _ R.wd, s _ _ R.rw, R.ne⟩, h1, h2, h3.mono fun a xs t => Zgr.tpT R (Same.k2 s) t⟩
theorem RS.other {a : Addr} {l : List V} {o : HO} (R : RS K C H p dx wl rl ws rest rows) (ha : H a = some (.lst l)) (n1 : a ≠ p) (n2 : a ≠ wl) (n3 : a ≠ rl) : RS K C (upd H a o) p dx wl rl ws rest rows := by
 obtain ⟨k, rv, R, h1, h2, h3⟩ := R
 refine ⟨k, rv, ⟨by rw [Zc1 (Ne.symm n1)]; exact R.ob, by rw [Zc1 (Ne.symm n2)]; exact R.wd, by rw [Zc1 (Ne.symm n3)]; exact R.rw, R.ne⟩, h1, h2, h3.mono fun b xs t => ?_⟩
 rw [Zc1 (ZfF t ha (fun z => nomatch z))]
 exact t
theorem Zfl.other {a : Addr} {l : List V} {o : HO} (ha : H a = some (.lst l)) {xs : List V} {ds : List Dt} (t : Zfl K H xs ds) : Zfl K (upd H a o) xs ds := t.mono fun b xs t => by
 rw [Zc1 (ZfF t ha (fun z => nomatch z))]
 exact t
theorem Ze8 {k : Nat} {x : Str} {r : List Str} (h : ws.drop k = x :: r) : ws[k]? = some x /\ ws.drop (k + 1) = r /\ k < ws.length := by
 have hk : k < ws.length := by
  by_cases z : k < ws.length
  ·exact z
  ·rw [Zbf (by omega)] at h
   cases h
 rw [Za2 hk] at h
 injection h with h1 h2
 exact ⟨by rw [ZaW hk, h1], h2, hk⟩
theorem ZiE {k : Nat} (h : ws.drop k = []) : ws[k]? = none := by
 rw [List.drop_eq_nil_iff] at h
 exact Za6 h
theorem RS.len (R : RS K C H p dx wl rl ws rest rows) : ∃ rv, H rl = some (.lst rv) /\ rv.length = rows.length := by
 obtain ⟨k, rv, R, _, _, t⟩ := R
 exact ⟨rv, R.rw, t.length⟩
theorem RS.mem (R : RS K C H p dx wl rl ws rest rows) : ∀ x ∈ rest, x ∈ ws := by
 obtain ⟨k, rv, _, h, _⟩ := R
 intro x hx
 rw [<- h] at hx
 exact List.mem_of_mem_drop hx
theorem RS.short (R : RS K C H p dx wl rl ws rest rows) : rest.length <= ws.length := by
 obtain ⟨k, rv, _, h, _⟩ := R
 rw [<- h, ZaE]
 omega
theorem RS.ob (R : RS K C H p dx wl rl ws rest rows) : ∃ k : Int, H p = some (.ins C dx (fR wl k rl)) := by
 obtain ⟨k, rv, R, _⟩ := R
 exact ⟨_, R.ob⟩
theorem Zje {H : Hp} {a b : Addr} {l xs : List V} {o : HO} (ha : H a = some (.lst l)) (t : SqT K H b xs) : SqT K (upd H a o) b xs := by
 rcases t with t | t
 ·refine .inl ?_
  rcases t with t | ⟨o', t⟩
  ·exact .inl (by rw [Zc1 (ZfF t ha (fun z => nomatch z))]; exact t)
  ·exact .inr ⟨o', by rw [Zc1 (ZfF t ha (fun z => nomatch z))]; exact t⟩
 ·exact .inr t
theorem RS.sqt (R : RS K C H p dx wl rl ws rest rows) (kk : K2 p rl H H') {a : Addr} {xs : List V} (t : SqT K H a xs) : SqT K H' a xs := by
 obtain ⟨k, rv, R, _⟩ := R
 exact Zgr.sqT R kk t
theorem Zjf {p q a : Addr} {H H' : Hp} {o : HO} (ha : H a = none) (k : K2 p q H H') : K2 p q H (upd H' a o) := fun b u e h1 h2 => by rw [Zc1 (ZcY e ha)]; exact k b u e h1 h2
theorem RS.apart {fl : Addr} (R : RS K C H p dx wl rl ws rest rows) (hfl : H fl = none) : fl ≠ p /\ fl ≠ rl /\ fl ≠ wl := by
 obtain ⟨k, rv, R, _⟩ := R
 exact ⟨Ne.symm (ZcY R.ob hfl), Ne.symm (ZcY R.rw hfl), Ne.symm (ZcY R.wd hfl)⟩
end
end GR.Internal
namespace GR.Internal
open PySem L2.Internal
noncomputable abbrev Pe := List Str -> List Dt -> Option Rs
noncomputable def Rd (p : Pe) (ok : Bool) (n : Nat) (ts : List Str) : Prop := ∀ (rest : List Str) (rows : List Dt), rows.length <= 160 ->
 (ok = true -> rows.length + n <= 160 -> ∃ rows', p (ts ++ rest) rows = some (rest, rows') /\ rows'.length = rows.length + n) /\ (¬ (ok = true /\ rows.length + n <= 160) -> p (ts ++ rest) rows = none)
noncomputable def SRd (pe : Pe) (ps : List Bool) (ok : Bool) (n : Nat) (ts : List Str) : Prop := ∀ (acc : List Dt) (rest : List Str) (rows : List Dt), rows.length <= 160 ->
 (ok = true -> rows.length + n <= 160 -> ∃ ds rows', Zc5 pe ps acc (ts ++ rest) rows = some (ds, rest, rows') /\ rows'.length = rows.length + n) /\ (¬ (ok = true /\ rows.length + n <= 160) -> Zc5 pe ps acc (ts ++ rest) rows = none)
theorem SRd.nil {pe : Pe} : SRd pe [] true 0 [] := fun acc rest rows h => ⟨fun _ _ => ⟨acc, rows, by rw [Zc5]; rfl, rfl⟩, fun z => absurd ⟨rfl, h⟩ z⟩
theorem SRd.name {pe : Pe} {ps : List Bool} {ok : Bool} {n : Nat} {ts : List Str} {x : Str} (hx : isName x = true) (r : SRd pe ps ok n ts) : SRd pe (true :: ps) ok n (x :: ts) := fun acc rest rows h => by
 have e : Zc5 pe (true :: ps) acc (x :: ts ++ rest) rows = Zc5 pe ps (acc ++ [.flat (.str x)]) (ts ++ rest) rows := by
  rw [Zbg, Zc5, if_pos hx]
 rw [e]
 exact r _ rest rows h
theorem SRd.expr {pe : Pe} {ps : List Bool} {ok1 ok2 : Bool} {n1 n2 : Nat} {t1 t2 : List Str} (a : Rd pe ok1 n1 t1) (r : SRd pe ps ok2 n2 t2) : SRd pe (false :: ps) (ok1 && ok2) (n1 + n2) (t1 ++ t2) := fun acc rest rows h => by
 have ea : t1 ++ t2 ++ rest = t1 ++ (t2 ++ rest) := ZaK ..
 obtain ⟨y, no⟩ := a (t2 ++ rest) rows h
 rw [ea]
 by_cases h1 : ok1 = true /\ rows.length + n1 <= 160
 ·obtain ⟨rows1, e1, l1⟩ := y h1.1 h1.2
  have e : Zc5 pe (false :: ps) acc (t1 ++ (t2 ++ rest)) rows = Zc5 pe ps (acc ++ [.flat (.int (rows.length : Int))]) (t2 ++ rest) rows1 := by rw [Zc5, e1]
  rw [e]
  obtain ⟨y2, no2⟩ := r (acc ++ [.flat (.int (rows.length : Int))]) rest rows1 (by omega)
  refine ⟨fun ho hn => ?_, fun z => no2 fun z2 => z ⟨by rw [h1.1, z2.1]; rfl, by omega⟩⟩
  rw [h1.1, ZcB] at ho
  obtain ⟨ds, rows', e2, l2⟩ := y2 ho (by omega)
  exact ⟨ds, rows', e2, by omega⟩
 ·have e1 := no h1
  refine ⟨fun ho hn => absurd ⟨(Zcy _ _ ▸ ho).1, by omega⟩ h1, fun _ => by rw [Zc5, e1]⟩
noncomputable def MRd (item : List Str -> List Dt -> Option (Dt × Rs)) (ok : Bool) (n m : Nat) (ts : List Str) : Prop := ∀ (acc : List Dt) (rest : List Str) (rows : List Dt), rows.length <= 160 ->
 (ok = true -> rows.length + n <= 160 -> ∃ ds rows', ZdZ item (ts ++ (")" : Str) :: rest) rows acc = some (ds, (")" : Str) :: rest, rows') /\ ds.length = acc.length + m /\ rows'.length = rows.length + n) /\ (¬ (ok = true /\ rows.length + n <= 160) -> ZdZ item (ts ++ (")" : Str) :: rest) rows acc = none)
theorem MRd.nil {item : List Str -> List Dt -> Option (Dt × Rs)} : MRd item true 0 0 [] := fun acc rest rows h => ⟨fun _ _ => ⟨acc, rows, Zfz _ _ _ rfl, rfl, rfl⟩, fun z => absurd ⟨rfl, h⟩ z⟩
theorem MRd.cons {item : List Str -> List Dt -> Option (Dt × Rs)} (g : Zjd item) {ok1 ok2 : Bool} {n1 n2 m : Nat} {t1 t2 : List Str} {x : Str} {t : List Str} (ht : t1 = x :: t) (hx : x ≠ ")")
  (a : ∀ (rest : List Str) (rows : List Dt), rows.length <= 160 -> (ok1 = true -> rows.length + n1 <= 160 -> ∃ d rows', item (t1 ++ rest) rows = some (d, rest, rows') /\ rows'.length = rows.length + n1) /\ (¬ (ok1 = true /\ rows.length + n1 <= 160) -> item (t1 ++ rest) rows = none))
  (r : MRd item ok2 n2 m t2) : MRd item (ok1 && ok2) (n1 + n2) (m + 1) (t1 ++ t2) := fun acc rest rows h => by
 have ea : t1 ++ t2 ++ (")" : Str) :: rest = t1 ++ (t2 ++ (")" : Str) :: rest) := ZaK ..
 have hh : (t1 ++ (t2 ++ (")" : Str) :: rest)).head? ≠ some ")" := by
  rw [ht]
  exact fun z => hx (ZbM.inj z)
 obtain ⟨y, no⟩ := a (t2 ++ (")" : Str) :: rest) rows h
 rw [ea, ZgM g _ _ _ hh]
 by_cases h1 : ok1 = true /\ rows.length + n1 <= 160
 ·obtain ⟨d, rows1, e1, l1⟩ := y h1.1 h1.2
  rw [e1]
  obtain ⟨y2, no2⟩ := r (acc ++ [d]) rest rows1 (by omega)
  refine ⟨fun ho hn => ?_, fun z => no2 fun z2 => z ⟨by rw [h1.1, z2.1]; rfl, by omega⟩⟩
  rw [h1.1, ZcB] at ho
  obtain ⟨ds, rows', e2, l2, l3⟩ := y2 ho (by omega)
  refine ⟨ds, rows', e2, ?_, by omega⟩
  rw [ZaA] at l2
  have : [d].length = 1 := rfl
  omega
 ·rw [no h1]
  exact ⟨fun ho hn => absurd ⟨(Zcy _ _ ▸ ho).1, by omega⟩ h1, fun _ => rfl⟩
theorem Zp8 {pe : Pe} {ps : List Bool} {ok : Bool} {n : Nat} {ts : List Str} (s : SRd pe ps ok n ts) : ∀ (rest : List Str) (rows : List Dt), rows.length <= 160 -> (ok = true -> rows.length + n <= 160 -> ∃ d rows', ZdW pe ps (ts ++ rest) rows = some (d, rest, rows') /\ rows'.length = rows.length + n) /\ (¬ (ok = true /\ rows.length + n <= 160) -> ZdW pe ps (ts ++ rest) rows = none) := fun rest rows h => by
 obtain ⟨y, no⟩ := s [] rest rows h
 refine ⟨fun ho hn => ?_, fun z => by rw [ZdW, no z]⟩
 obtain ⟨ds, rows', e, l⟩ := y ho hn
 exact ⟨_, rows', by rw [ZdW, e], l⟩
theorem Zp9 {pe : Pe} {ok : Bool} {n : Nat} {ts : List Str} (s : Rd pe ok n ts) : ∀ (rest : List Str) (rows : List Dt), rows.length <= 160 -> (ok = true -> rows.length + n <= 160 -> ∃ d rows', Ze6 pe (ts ++ rest) rows = some (d, rest, rows') /\ rows'.length = rows.length + n) /\ (¬ (ok = true /\ rows.length + n <= 160) -> Ze6 pe (ts ++ rest) rows = none) := fun rest rows h => by
 obtain ⟨y, no⟩ := s rest rows h
 refine ⟨fun ho hn => ?_, fun z => by rw [Ze6, no z]⟩
 obtain ⟨rows', e, l⟩ := y ho hn
 exact ⟨_, rows', by rw [Ze6, e], l⟩
noncomputable def FRd (pe : Pe) (h : Str) (ok : Bool) (n : Nat) (ts : List Str) : Prop := ∀ (rest : List Str) (rows : List Dt), rows.length <= 160 ->
 (ok = true -> rows.length + n <= 160 -> ∃ ds rows', Zd6 pe h (ts ++ (")" : Str) :: rest) rows = some (ds, (")" : Str) :: rest, rows') /\ rows'.length = rows.length + n) /\ (¬ (ok = true /\ rows.length + n <= 160) -> Zd6 pe h (ts ++ (")" : Str) :: rest) rows = none)
theorem FRd.steady {pe : Pe} {h : Str} {ps : List Bool} {ok : Bool} {n : Nat} {ts : List Str} (h1 : ¬ h = "rec") (h2 : ¬ h = "case") (h3 : ¬ h = "row") (hp : stP h = some ps) (s : SRd pe ps ok n ts) : FRd pe h ok n ts := fun rest rows hr => by
 have e : Zd6 pe h (ts ++ (")" : Str) :: rest) rows = match Zc5 pe ps [] (ts ++ (")" : Str) :: rest) rows with
   | none => none
   | some (ds, r) => some (.flat (.str h) :: ds, r) := by
  rw [Zd6, if_neg h1, if_neg h2, if_neg h3, hp]
  all_goals rfl
 obtain ⟨y, no⟩ := s [] ((")" : Str) :: rest) rows hr
 refine ⟨fun ho hn => ?_, fun z => by rw [e, no z]⟩
 obtain ⟨ds, rows', e2, l⟩ := y ho hn
 exact ⟨_, rows', by rw [e, e2], l⟩
theorem FRd.rowd {pe : Pe} {ok : Bool} {n m : Nat} {ts : List Str} (s : MRd (Ze6 pe) ok n m ts) : FRd pe "row" (ok && decide (m <= 8)) n ts := fun rest rows hr => by
 have e : Zd6 pe "row" (ts ++ (")" : Str) :: rest) rows = match chk 0 8 (ZdZ (Ze6 pe) (ts ++ (")" : Str) :: rest) rows []) with
  | none => none
  | some (l, r) => some ([.flat (.str "row"), .tup l], r) := by rw [Zd6, if_neg (by decide +kernel), if_neg (by decide +kernel), if_pos rfl] <;> rfl
 obtain ⟨y, no⟩ := s [] rest rows hr
 by_cases h1 : ok = true /\ rows.length + n <= 160
 ·obtain ⟨ds, rows', e2, l2, l3⟩ := y h1.1 h1.2
  have l2' : ds.length = m := l2.trans (ZbI m)
  by_cases hm : m <= 8
  ·refine ⟨fun _ _ => ⟨_, rows', by rw [e, e2, chk, if_pos (by omega)], l3⟩, fun z => absurd ⟨by rw [h1.1, decide_eq_true hm]; rfl, h1.2⟩ z⟩
  ·refine ⟨fun z => (by rw [h1.1, decide_eq_false hm] at z; cases z), fun _ => by rw [e, e2, chk, if_neg (by omega)]⟩
 ·exact ⟨fun z hn => absurd ⟨(Zcy _ _ ▸ z).1, hn⟩ h1, fun _ => by rw [e, no h1]; rfl⟩
theorem FRd.cased {pe : Pe} {ok1 ok : Bool} {n1 n m : Nat} {t1 ts : List Str} (a : Rd pe ok1 n1 t1) (s : MRd (ZdW pe [true, true, false]) ok n m ts) : FRd pe "case" (ok1 && ok && decide (1 <= m /\ m <= 6)) (n1 + n) (t1 ++ ts) := fun rest rows hr => by
 have ea : t1 ++ ts ++ (")" : Str) :: rest = t1 ++ (ts ++ (")" : Str) :: rest) := ZaK ..
 rw [ea]
 have e : Zd6 pe "case" (t1 ++ (ts ++ (")" : Str) :: rest)) rows = match pe (t1 ++ (ts ++ (")" : Str) :: rest)) rows with
  | none => none
  | some (r1, rows1) => match chk 1 6 (ZdZ (ZdW pe [true, true, false]) r1 rows1 []) with
   | none => none
   | some (l, r) => some ([.flat (.str "case"), .flat (.int (rows.length : Int)), .tup l], r) := by rw [Zd6, if_neg (by decide +kernel), if_pos rfl] <;> rfl
 obtain ⟨ya, na⟩ := a (ts ++ (")" : Str) :: rest) rows hr
 by_cases h0 : ok1 = true /\ rows.length + n1 <= 160
 ·obtain ⟨rows1, e1, l1⟩ := ya h0.1 h0.2
  obtain ⟨y, no⟩ := s [] rest rows1 (by omega)
  have e' : Zd6 pe "case" (t1 ++ (ts ++ (")" : Str) :: rest)) rows = match chk 1 6 (ZdZ (ZdW pe [true, true, false]) (ts ++ (")" : Str) :: rest) rows1 []) with
   | none => none
   | some (l, r) => some ([.flat (.str "case"), .flat (.int (rows.length : Int)), .tup l], r) := by rw [e, e1]
  by_cases h1 : ok = true /\ rows1.length + n <= 160
  ·obtain ⟨ds, rows', e2, l2, l3⟩ := y h1.1 h1.2
   have l2' : ds.length = m := l2.trans (ZbI m)
   by_cases hm : 1 <= m /\ m <= 6
   ·refine ⟨fun _ _ => ⟨_, rows', by rw [e', e2, chk, if_pos (by omega)], by omega⟩, fun z => absurd ⟨by rw [h0.1, h1.1, decide_eq_true hm]; rfl, by omega⟩ z⟩
   ·refine ⟨fun z => (by rw [h0.1, h1.1, decide_eq_false hm] at z; cases z), fun _ => by rw [e', e2, chk, if_neg (by omega)]⟩
  ·refine ⟨fun z hn => absurd ⟨?_, by omega⟩ h1, fun _ => by rw [e', no h1]; rfl⟩
   simp only [Zcy] at z
   exact z.1.2
 ·refine ⟨fun z hn => absurd ⟨?_, by omega⟩ h0, fun _ => by rw [e, na h0]⟩
  simp only [Zcy] at z
  exact z.1.1
theorem Zha : ¬ Zei "(" = true /\ ¬ isName "(" = true := by decide +kernel
theorem Rd.form {f : Nat} {h : Str} {ok : Bool} {n : Nat} {ts : List Str} (s : FRd (Zc8 f) h ok n ts) : Rd (Zc8 (f + 1)) ok (n + 1) (("(" : Str) :: h :: (ts ++ [(")" : Str)])) := fun rest rows hr => by
 have ea : (("(" : Str) :: h :: (ts ++ [(")" : Str)])) ++ rest = ("(" : Str) :: h :: (ts ++ (")" : Str) :: rest) := by simp
 rw [ea]
 by_cases h160 : rows.length = 160
 ·exact ⟨fun _ hn => absurd hn (by omega), fun _ => by rw [Zc8, if_pos h160]⟩
 ·have lr : (rows ++ [Dt.flat .non]).length = rows.length + 1 := by rw [ZaA]; rfl
  have er : Zie (Zc8 f) (("(" : Str) :: h :: (ts ++ (")" : Str) :: rest)) (rows ++ [.flat .non]) = ZfJ (Zd6 (Zc8 f) h (ts ++ (")" : Str) :: rest) (rows ++ [.flat .non])) := ZjT Zha.1 Zha.2 rfl
  obtain ⟨y, no⟩ := s rest (rows ++ [.flat .non]) (by omega)
  refine ⟨fun ho hn => ?_, fun z => ?_⟩
  ·obtain ⟨ds, rows', e, l⟩ := y ho (by omega)
   refine ⟨rows'.set rows.length (.tup ds), ?_, by rw [ZaG]; omega⟩
   rw [Zc8, if_neg h160, er, e, show ZfJ (some (ds, (")" : Str) :: rest, rows')) = some (ds, rest, rows') by unfold ZfJ; exact if_pos rfl]
  ·rw [Zc8, if_neg h160, er, no fun z2 => z ⟨z2.1, by omega⟩]
   rfl
theorem Rd.zero {n : Nat} {ts : List Str} : Rd (Zc8 0) false n ts := fun rest rows hr => ⟨fun z => (by cases z), fun _ => by rw [Zc8]⟩
theorem Rd.word {f : Nat} {x : Str} (hx : Zei x = true \/ isName x = true) : Rd (Zc8 (f + 1)) true 1 [x] := fun rest rows hr => by
 by_cases h160 : rows.length = 160
 ·exact ⟨fun _ hn => absurd hn (by omega), fun _ => by rw [Zc8, if_pos h160]⟩
 ·refine ⟨fun _ _ => ?_, fun z => absurd ⟨rfl, by omega⟩ z⟩
  have lr : (rows ++ [Dt.flat .non]).length = rows.length + 1 := by rw [ZaA]; rfl
  by_cases h1 : Zei x = true
  ·refine ⟨_, by rw [Zc8, if_neg h160]; rw [Zbh, ZjS h1], by rw [ZaG]; omega⟩
  ·have h2 : isName x = true := hx.resolve_left h1
   refine ⟨_, by rw [Zc8, if_neg h160]; rw [Zbh, ZiD h1 h2], by rw [ZaG]; omega⟩
structure Ex (d n : Nat) (ts : List Str) : Prop where
 pos : 1 <= d
 hd : ∃ x t, ts = x :: t /\ x ≠ ")"
 rd : ∀ f, f <= 24 -> Rd (Zc8 f) (decide (d <= f)) n ts
theorem Ex.word {x : Str} (hx : Zei x = true \/ isName x = true) (hc : x ≠ ")") : Ex 1 1 [x] := ⟨Zbz _, ⟨x, [], rfl, hc⟩, fun f _ => by
 cases f with
 | zero => exact Rd.zero
 | succ f =>
  rw [decide_eq_true (show 1 <= f + 1 by omega)]
  exact Rd.word hx⟩
theorem Zqa : ("(" : Str) ≠ ")" := by decide +kernel
theorem Ex.form {d n : Nat} {h : Str} {ts : List Str} (hd : 1 <= d) (s : ∀ f, f <= 23 -> ∃ ok, FRd (Zc8 f) h ok n ts /\ ok = decide (d <= f + 1)) : Ex d (n + 1) (("(" : Str) :: h :: (ts ++ [(")" : Str)])) := ⟨hd, ⟨_, _, rfl, Zqa⟩, fun f hf => by
 cases f with
 | zero =>
  rw [decide_eq_false (show ¬ d <= 0 by omega)]
  exact Rd.zero
 | succ f =>
  obtain ⟨ok, r, e⟩ := s f (by omega)
  rw [<- e]
  exact Rd.form r⟩
noncomputable def DRd (ok : Bool) (n m : Nat) (ts : List Str) : Prop := ∀ (rest : List Str) (rows : List Dt) (names : List Str) (roots : List Dt), rows.length <= 160 ->
 (ok = true -> rows.length + n <= 160 -> ∃ rows' names' roots', Zep (ts ++ rest) rows names roots = Zep rest rows' names' roots' /\ rows'.length = rows.length + n /\ names'.length = names.length + m) /\ (¬ (ok = true /\ rows.length + n <= 160) -> Zep (ts ++ rest) rows names roots = none)
theorem DRd.nil : DRd true 0 0 [] := fun rest rows names roots h => ⟨fun _ _ => ⟨rows, names, roots, rfl, rfl, rfl⟩, fun z => absurd ⟨rfl, h⟩ z⟩
theorem DRd.read {ok : Bool} {n m : Nat} {ts : List Str} (a : DRd ok n m ts) :
  (ok = true -> n <= 160 -> 1 <= m -> m <= 12 -> ∃ names roots rows, ZfY ts = some (names, roots, rows) /\ rows.length = n) /\ (¬ (ok = true /\ n <= 160 /\ 1 <= m /\ m <= 12) -> ZfY ts = none) := by
 obtain ⟨y, no⟩ := a [] [] [] [] (ZbA _)
 rw [Zar] at y no
 have l0 : ([] : List Dt).length = 0 := rfl
 have l1 : ([] : List Str).length = 0 := rfl
 by_cases h1 : ok = true /\ ([] : List Dt).length + n <= 160
 ·obtain ⟨rows, names, roots, e, l, k⟩ := y h1.1 h1.2
  rw [defs_nil] at e
  by_cases h2 : 1 <= m /\ m <= 12
  ·refine ⟨fun _ _ _ _ => ⟨names, roots, rows, by rw [ZfY, e]; exact if_pos (by omega), by omega⟩, fun z => absurd ⟨h1.1, by omega, h2⟩ z⟩
  ·exact ⟨fun _ _ z1 z2 => absurd ⟨z1, z2⟩ h2, fun _ => by rw [ZfY, e]; exact if_neg (by omega)⟩
 ·exact ⟨fun ho hn _ _ => absurd ⟨ho, by omega⟩ h1, fun _ => by rw [ZfY, no h1]⟩
end GR.Internal
namespace GR.Internal
open PySem L2.Internal T1
noncomputable def St1 (w : List Nat) : Str := ⟨w.toArray⟩
noncomputable def toks (x : Str) : List Str := (all (W x.cps.toList)).map St1
theorem toks_v (x : Str) : Zhu x.cps.toList = (toks x).map V.str := Zlm _
theorem ZiF : ∀ (s : List Nat) (p : List (List Nat)) (c : List Nat), s.foldl step (p, c) = (p ++ (s.foldl step ([], c)).1, (s.foldl step ([], c)).2)
 | [], p, c => by simp
 | k :: s, p, c => by
  have e1 : (k :: s).foldl step (p, c) = s.foldl step (step (p, c) k) := rfl
  have e2 : (k :: s).foldl step ([], c) = s.foldl step (step ([], c) k) := rfl
  rw [e1, e2]
  have e3 : step (p, c) k = (p ++ (step ([], c) k).1, (step ([], c) k).2) := by
   unfold T1.step
   split
   ·split <;> simp
   ·simp
  rw [e3]
  generalize step ([], c) k = q
  obtain ⟨q1, q2⟩ := q
  rw [ZiF s (p ++ q1) q2, ZiF s q1 q2, ZaK]
theorem ZkN {a b : List Nat} (h : (W a).2 = []) : W (a ++ b) = ((W a).1 ++ (W b).1, (W b).2) := by
 rw [Zg9]
 have e : W a = ((W a).1, []) := by rw [<- h]
 rw [e, ZiF]
 rfl
noncomputable def Gp (x : Str) (ts : List Str) : Prop := (W x.cps.toList).2 = [] /\ (W x.cps.toList).1.map St1 = ts
noncomputable def Op (x : Str) (ts : List Str) : Prop := toks x = ts
theorem Gp.op {x : Str} {ts : List Str} (h : Gp x ts) : Op x ts := by
 unfold Op toks all
 rw [if_pos h.1, h.2]
theorem Gp.app {x y : Str} {ts us : List Str} (h : Gp x ts) (k : Gp y us) : Gp (x ++ y) (ts ++ us) := by
 unfold Gp
 rw [ZeE, ZkN h.1]
 exact ⟨k.1, by rw [ZaQ, h.2, k.2]⟩
theorem Gp.app_op {x y : Str} {ts us : List Str} (h : Gp x ts) (k : Op y us) : Op (x ++ y) (ts ++ us) := by
 unfold Op toks at *
 rw [ZeE, ZkN h.1, <- h.2, <- k]
 unfold all
 by_cases z : (W y.cps.toList).2 = []
 ·rw [if_pos z, if_pos z, ZaQ]
 ·rw [if_neg z, if_neg z]
  simp only [ZaQ, ZaK]
theorem Op.close {x : Str} {ts : List Str} (h : Op x ts) : Gp (x ++ ")") (ts ++ [(")" : Str)]) := by
 unfold Gp
 have e : (x ++ ")").cps.toList = x.cps.toList ++ [41] := ZeE x ")"
 rw [e, W_bracket _ (.inr rfl)]
 refine ⟨rfl, ?_⟩
 rw [ZaQ]
 exact congrArg (· ++ [(")" : Str)]) h
theorem Op.gap {x : Str} {ts : List Str} (h : Op x ts) : Gp (x ++ " ") ts := by
 unfold Gp
 have e : (x ++ " ").cps.toList = x.cps.toList ++ [32] := ZeE x " "
 rw [e, W_gap _ (.inl rfl)]
 exact ⟨rfl, h⟩
theorem Zjg (x y z : Str) : x ++ y ++ z = x ++ (y ++ z) := T1.str_ext (by rw [ZeE, ZeE, ZeE, ZeE, ZaK])
theorem Op.word {x : Str} (h0 : x.cps.toList ≠ []) (h : ∀ k ∈ x.cps.toList, k ≠ 32 /\ k ≠ 10 /\ k ≠ 40 /\ k ≠ 41) : Op x [x] := by
 unfold Op toks
 have e : W x.cps.toList = ([], x.cps.toList) := W_run [] x.cps.toList h
 rw [e]
 show (if x.cps.toList = [] then _ else _ : List (List Nat)).map St1 = _
 rw [if_neg h0]
 show [St1 x.cps.toList] = [x]
 exact congrArg (fun z => [z]) (T1.str_ext rfl)
theorem Zjh : ∀ m : Nat, 0 < m -> (ZbF 10 m).head? ≠ some '0'
 | m, h => by
  by_cases h10 : m < 10
  ·rw [ZbG h10]
   have : m = 1 \/ m = 2 \/ m = 3 \/ m = 4 \/ m = 5 \/ m = 6 \/ m = 7 \/ m = 8 \/ m = 9 := by omega
   rcases this with rfl | rfl | rfl | rfl | rfl | rfl | rfl | rfl | rfl <;> decide
  ·have hm : m % 10 < 10 := Nat.mod_lt m (by decide)
   have t : ZbF 10 (m / 10) ++ ZbF 10 (m % 10) = ZbF 10 (10 * (m / 10) + m % 10) := ZbH (by decide) (by omega) hm
   rw [Nat.div_add_mod] at t
   have ih := Zjh (m / 10) (by omega)
   rw [<- t]
   cases e : ZbF 10 (m / 10) with
   | nil =>
    have := PySem.toDigits_len_ge 10 (m / 10)
    rw [e] at this
    simp at this
   | cons a r =>
    rw [e] at ih
    exact ih
termination_by m => m
theorem num_is {n : Int} {k : Nat} (h0 : 0 <= n) (h1 : n < 10 ^ (k + 1)) (hk : k + 1 <= 60) : Zei (PySem.Str.ofString (toString n)) = true := by
 obtain ⟨f1, f2, f3⟩ := str_fig h0 h1
 obtain ⟨m, rfl⟩ := ZcH h0
 have e := PySem.W.KIN.signs_num m
 unfold Zei
 have z : (!Zhv (PySem.Str.ofString (toString ((m : Nat) : Int))) || decide (PySem.Str.ofString (toString ((m : Nat) : Int)) = "0")) = true := by
  by_cases hm : m = 0
  ·subst hm
   decide +kernel
  ·have d := Zjh m (by omega)
   have : Zhv (PySem.Str.ofString (toString ((m : Nat) : Int))) = false := by
    unfold Zhv
    rw [e]
    cases q : ZbF 10 m with
    | nil => rfl
    | cons a r =>
     rw [q] at d
     show (a.toNat == 48) = false
     refine beq_eq_false_iff_ne.mpr fun w => d ?_
     show some a = some '0'
     exact congrArg some (Char.toNat_inj.mp w)
   rw [this]
   rfl
 rw [z, decide_eq_true f2, decide_eq_true (show _ <= 60 by omega)]
 simp only [ZcB, Bool.and_true]
 exact Zbd.mpr fun c hc => decide_eq_true (f1 c hc)
structure EX (x : Str) (d n L : Nat) : Prop where
 asc : ∀ c ∈ x.cps.toList, c < 128
 len : x.length <= L
 ex : ∃ ts, Op x ts /\ Ex d n ts
section
variable {d n : Nat} {ts : List Str}
theorem z0 : Zei "0" = true \/ isName "0" = true := by decide +kernel
theorem ex0 : Ex 1 1 (["0"] : List Str) := Ex.word z0 (by decide +kernel)
theorem ZoP (f : Nat) : (decide (d <= f) && true) = decide (d + 1 <= f + 1) := by simp
theorem Zrm (h : 1 <= d) (f : Nat) : (decide (1 <= f) && (decide (d <= f) && true)) = decide (d + 1 <= f + 1) := by
 by_cases z : d <= f <;> simp [z] <;> omega
theorem Zrn (h : 1 <= d) (f : Nat) : (decide (d <= f) && (decide (1 <= f) && true)) = decide (d + 1 <= f + 1) := by
 by_cases z : d <= f <;> simp [z] <;> omega
theorem Ex.tag {h c : Str} (hh : h = "tag" \/ h = "fn") (hc : isName c = true) (x : Ex d n ts) : Ex (d + 1) (n + 1) ((["(", h, c] : List Str) ++ ts ++ ([")"] : List Str)) := by
 have hp : stP h = some [true, false] /\ ¬ h = "rec" /\ ¬ h = "case" /\ ¬ h = "row" := by rcases hh with rfl | rfl <;> decide +kernel
 have z := Ex.form (d := d + 1) (n := n + 0) (h := h) (ts := c :: (ts ++ [])) (by omega) fun f hf => ⟨_, FRd.steady hp.2.1 hp.2.2.1 hp.2.2.2 hp.1 (SRd.name hc (SRd.expr (x.rd f (by omega)) SRd.nil)), ZoP f⟩
 simpa using z
theorem Ex.get {c : Str} (hc : isName c = true) (x : Ex d n ts) : Ex (d + 1) (n + 1) ((["(", "get"] : List Str) ++ ts ++ ([c, ")"] : List Str)) := by
 have hp : stP "get" = some [false, true] /\ ¬ ("get" : Str) = "rec" /\ ¬ ("get" : Str) = "case" /\ ¬ ("get" : Str) = "row" := by decide +kernel
 have z := Ex.form (d := d + 1) (n := n + 0) (h := "get") (ts := ts ++ [c]) (by omega) fun f hf => ⟨_, FRd.steady hp.2.1 hp.2.2.1 hp.2.2.2 hp.1 (SRd.expr (x.rd f (by omega)) (SRd.name hc SRd.nil)), ZoP f⟩
 simpa using z
theorem Ex.size (x : Ex d n ts) : Ex (d + 1) (n + 1) ((["(", "size"] : List Str) ++ ts ++ ([")"] : List Str)) := by
 have hp : stP "size" = some [false] /\ ¬ ("size" : Str) = "rec" /\ ¬ ("size" : Str) = "case" /\ ¬ ("size" : Str) = "row" := by decide +kernel
 have z := Ex.form (d := d + 1) (n := n + 0) (h := "size") (ts := ts ++ []) (by omega) fun f hf => ⟨_, FRd.steady hp.2.1 hp.2.2.1 hp.2.2.2 hp.1 (SRd.expr (x.rd f (by omega)) SRd.nil), ZoP f⟩
 simpa using z
theorem Ex.add {c : Str} (hc : Ex 1 1 [c]) (x : Ex d n ts) : Ex (d + 1) (n + 2) ((["(", "add", c] : List Str) ++ ts ++ ([")"] : List Str)) := by
 have hp : stP "add" = some [false, false] /\ ¬ ("add" : Str) = "rec" /\ ¬ ("add" : Str) = "case" /\ ¬ ("add" : Str) = "row" := by decide +kernel
 have z := Ex.form (d := d + 1) (n := 1 + (n + 0)) (h := "add") (ts := [c] ++ (ts ++ [])) (by omega) fun f hf => ⟨_, FRd.steady hp.2.1 hp.2.2.1 hp.2.2.2 hp.1 (SRd.expr (hc.rd f (by omega)) (SRd.expr (x.rd f (by omega)) SRd.nil)), Zrm x.pos f⟩
 rw [show n + 2 = 1 + (n + 0) + 1 by omega]
 simpa using z
theorem Ex.call (x : Ex d n ts) : Ex (d + 1) (n + 2) ((["(", "call"] : List Str) ++ ts ++ (["0", ")"] : List Str)) := by
 have hp : stP "call" = some [false, false] /\ ¬ ("call" : Str) = "rec" /\ ¬ ("call" : Str) = "case" /\ ¬ ("call" : Str) = "row" := by decide +kernel
 have z := Ex.form (d := d + 1) (n := n + (1 + 0)) (h := "call") (ts := ts ++ ((["0"] : List Str) ++ [])) (by omega) fun f hf => ⟨_, FRd.steady hp.2.1 hp.2.2.1 hp.2.2.2 hp.1 (SRd.expr (x.rd f (by omega)) (SRd.expr (ex0.rd f (by omega)) SRd.nil)), Zrn x.pos f⟩
 simpa using z
end
end GR.Internal
namespace GR.Internal
open PySem L2.Internal T1
noncomputable instance {x : Str} {ts : List Str} : Decidable (Gp x ts) := inferInstanceAs (Decidable (_ /\ _))
noncomputable instance {x : Str} {ts : List Str} : Decidable (Op x ts) := inferInstanceAs (Decidable (_ = _))
theorem nmA : isName "a" = true /\ isName "t" = true /\ isName "x" = true /\ isName "b" = true := by decide +kernel
section
variable {d n : Nat} {ts : List Str}
end
noncomputable def Zro (l : List Str) : List Str := l.flatMap fun c => [c, "x", "x"]
theorem Zrp {c : Str} (h : isName c = true) : c ≠ ")" := fun z => by
 rw [z] at h
 exact absurd h (by decide +kernel)
theorem ZrW {f : Nat} (hf : f <= 24) : ∀ l : List Str, (∀ c ∈ l, isName c = true) -> MRd (ZdW (Zc8 f) [true, true, false]) (decide (l = [] \/ 1 <= f)) l.length l.length (Zro l)
 | [], _ => by
  rw [decide_eq_true (.inl rfl)]
  exact MRd.nil
 | c :: l, h => by
  have hc := h c (Zad ..)
  have ex1 : Ex 1 1 ["x"] := Ex.word (by decide +kernel) (by decide +kernel)
  have z := MRd.cons (Zfv (Zec f) _ (by simp)) rfl (Zrp hc) (Zp8 (SRd.name hc (SRd.name nmA.2.2.1 (SRd.expr (ex1.rd f hf) SRd.nil)))) (ZrW hf l fun c hc => h c (Zae _ hc))
  have e : (decide (1 <= f) && true && decide (l = [] \/ 1 <= f)) = decide (c :: l = [] \/ 1 <= f) := by
   by_cases q : 1 <= f <;> simp [q]
  rw [e, show 1 + 0 + l.length = l.length + 1 by omega] at z
  exact z
theorem ZrX {f : Nat} (hf : f <= 24) {c : Str} (hc : Zei c = true) (hn : c ≠ ")") : ∀ m : Nat, MRd (Ze6 (Zc8 f)) (decide (m = 0 \/ 1 <= f)) m m (Zau m c)
 | 0 => by
  rw [decide_eq_true (.inl rfl)]
  exact MRd.nil
 | m + 1 => by
  have ex1 : Ex 1 1 [c] := Ex.word (.inl hc) hn
  have z := MRd.cons (ZgL (Zec f)) rfl hn (Zp9 (ex1.rd f hf)) (ZrX hf hc hn m)
  have e : (decide (1 <= f) && decide (m = 0 \/ 1 <= f)) = decide (m + 1 = 0 \/ 1 <= f) := by
   by_cases q : 1 <= f <;> simp [q]
  rw [e, show 1 + m = m + 1 by omega] at z
  exact z
noncomputable def dRec (m : Nat) : Nat := if m = 0 then 1 else if m <= 6 then 2 else 25
noncomputable def Zmo (m : Nat) : Nat := if 1 <= m /\ m <= 6 then 2 else 25
noncomputable def ZqN (m : Nat) : Nat := if m = 0 then 1 else if m <= 8 then 2 else 25
theorem Ex.cases {l : List Str} (h : ∀ c ∈ l, isName c = true) : Ex (Zmo l.length) (l.length + 2) (("(" : Str) :: ("case" : Str) :: ("0" : Str) :: (Zro l ++ [(")" : Str)])) := by
 have hd : 1 <= Zmo l.length := by unfold Zmo; split <;> decide
 have z := Ex.form (d := Zmo l.length) (n := 1 + l.length) (h := "case") (ts := (["0"] : List Str) ++ Zro l) hd fun f hf => ⟨_, FRd.cased (ex0.rd f (by omega)) (ZrW (by omega) l h), by
  unfold Zmo
  cases l with
  | nil => simp; omega
  | cons c l =>
   simp only [Zan]
   by_cases q : l.length + 1 <= 6 <;> simp [q] <;> omega⟩
 rw [show l.length + 2 = 1 + l.length + 1 by omega]
 simpa using z
theorem Ex.rows {c : Str} (hc : Zei c = true) (hn : c ≠ ")") (m : Nat) : Ex (ZqN m) (m + 1) (("(" : Str) :: ("row" : Str) :: (Zau m c ++ [(")" : Str)])) := by
 have hd : 1 <= ZqN m := by unfold ZqN; split <;> first | exact Zbz _ | (split <;> decide)
 refine Ex.form hd fun f hf => ⟨_, FRd.rowd (ZrX (by omega) hc hn m), ?_⟩
 unfold ZqN
 by_cases z : m = 0
 ·subst z
  simp
 ·by_cases q : m <= 8 <;> simp [q, z] <;> omega
noncomputable def Ap (x : Str) (ts : List Str) : Prop := ∀ y us, Op y us -> Op (y ++ x) (us ++ ts)
theorem Ap.nil : Ap "" [] := fun y us h => by
 have e : y ++ "" = y := T1.str_ext (by rw [ZeE]; exact Zar _)
 rw [e, Zar]
 exact h
theorem Ap.word {x w z : Str} {ts : List Str} (h : Ap x ts) (hz : z = " " ++ w) (hw : Op w [w]) : Ap (x ++ z) (ts ++ [w]) := fun y us o => by
 rw [hz, <- Zjg, <- Zjg, <- ZaK]
 exact (h y us o).gap.app_op hw
structure PGm (x : Str) (due : Bool) (n : Nat) : Prop where
 asc : ∀ c ∈ x.cps.toList, c < 128
 len : x.length <= 9999
 yes : due = true -> ∃ names roots rows, ZfY (toks x) = some (names, roots, rows) /\ rows.length = n
 no : due = false -> ZfY (toks x) = none
structure DX (x : Str) (ok : Bool) (n m L : Nat) : Prop where
 asc : ∀ c ∈ x.cps.toList, c < 128
 len : x.length <= L
 rd : ∃ ts, Gp x ts /\ DRd ok n m ts
end GR.Internal
namespace GR.Internal
open PySem L2.Internal T1
structure Wr (h t : Str) (k : Nat) : Prop where
 hl : h.length <= 15
 tl : t.length <= 5
 k3 : k <= 3
 on : ∀ x d n L, EX x d n L -> EX (h ++ x ++ t) (d + 1) (n + k) (L + 20)
end GR.Internal
namespace TM.Internal
open PySem L2.Internal GR.Internal
inductive Kn
 | num (n : Int)
 | name (w : Str)
 | fn (w : Str)
 | tag (w : Str)
 | lt (w : Str)
 | get (w : Str)
 | rcd (l : List Str)
 | case (l : List (Str × Str))
 | row (m : Nat)
 | op (s : Str) (m : Nat)
inductive Tr
 | mk (κ : Kn) (ks : List Tr)
noncomputable def ops : List (Str × Nat) := [("call", 2), ("at", 3), ("join", 2), ("size", 1), ("add", 2), ("sub", 2), ("less", 2)]
noncomputable def Kn.ar : Kn -> Nat
 | .num _ => 0
 | .name _ => 0
 | .fn _ => 1
 | .tag _ => 1
 | .lt _ => 2
 | .get _ => 1
 | .rcd l => l.length
 | .case l => l.length + 1
 | .row m => m
 | .op _ m => m
noncomputable def numS (n : Int) : Str := PySem.Str.ofString (toString n)
noncomputable def Kn.ok : Kn -> Prop
 | .num n => 0 <= n /\ n < 10 ^ 60
 | .name w => isName w = true
 | .fn w => isName w = true
 | .tag w => isName w = true
 | .lt w => isName w = true
 | .get w => isName w = true
 | .rcd l => l.length <= 6 /\ ∀ w ∈ l, isName w = true
 | .case l => 1 <= l.length /\ l.length <= 6 /\ ∀ p ∈ l, isName p.1 = true /\ isName p.2 = true
 | .row m => m <= 8
 | .op s m => (s, m) ∈ ops
mutual
noncomputable def Tr.sz : Tr -> Nat
 | .mk _ ks => 1 + szs ks
noncomputable def szs : List Tr -> Nat
 | [] => 0
 | t :: ts => t.sz + szs ts
end
mutual
noncomputable def Tr.nest : Tr -> Nat
 | .mk _ ks => 1 + nests ks
noncomputable def nests : List Tr -> Nat
 | [] => 0
 | t :: ts => max t.nest (nests ts)
end
mutual
noncomputable def Tr.ok : Tr -> Prop
 | .mk κ ks => κ.ok /\ ks.length = κ.ar /\ oks ks
noncomputable def oks : List Tr -> Prop
 | [] => True
 | t :: ts => t.ok /\ oks ts
end
noncomputable def wv1 : List Str -> List (List Str) -> List Str
 | w :: l, k :: ks => w :: (k ++ wv1 l ks)
 | _, _ => []
noncomputable def wv2 : List (Str × Str) -> List (List Str) -> List Str
 | p :: l, k :: ks => p.1 :: p.2 :: (k ++ wv2 l ks)
 | _, _ => []
noncomputable def Kn.ws : Kn -> List (List Str) -> List Str
 | .fn w, ks => w :: ks.flatten
 | .tag w, ks => w :: ks.flatten
 | .lt w, ks => w :: ks.flatten
 | .get w, ks => ks.flatten ++ [w]
 | .rcd l, ks => wv1 l ks
 | .case l, k :: ks => k ++ wv2 l ks
 | _, ks => ks.flatten
noncomputable def Kn.s : Kn -> Str
 | .num _ => "num"
 | .name _ => "name"
 | .fn _ => "fn"
 | .tag _ => "tag"
 | .lt _ => "let"
 | .get _ => "get"
 | .rcd _ => "rec"
 | .case _ => "case"
 | .row _ => "row"
 | .op s _ => s
noncomputable def Kn.tk (κ : Kn) (ks : List (List Str)) : List Str := match κ with
 | .num n => [numS n]
 | .name w => [w]
 | κ => ("(" : Str) :: κ.s :: (κ.ws ks ++ [(")" : Str)])
mutual
noncomputable def Tr.tk : Tr -> List Str
 | .mk κ ks => κ.tk (tks ks)
noncomputable def tks : List Tr -> List (List Str)
 | [] => []
 | t :: ts => t.tk :: tks ts
end
noncomputable def sD (s : Str) : Dt := .flat (.str s)
noncomputable def kD (k : Nat) : Dt := .flat (.int (k : Int))
noncomputable def Kn.rw (κ : Kn) (ps : List Nat) : List Dt := match κ, ps with
 | .num n, _ => [sD "num", .flat (.int n)]
 | .name w, _ => [sD "name", sD w]
 | .fn w, ps => sD "fn" :: sD w :: ps.map kD
 | .tag w, ps => sD "tag" :: sD w :: ps.map kD
 | .lt w, ps => sD "let" :: sD w :: ps.map kD
 | .get w, ps => sD "get" :: (ps.map kD ++ [sD w])
 | .rcd l, ps => [sD "rec", .tup ((l.zip ps).map fun p => .tup [sD p.1, kD p.2])]
 | .case l, p :: ps => [sD "case", kD p, .tup ((l.zip ps).map fun p => .tup [sD p.1.1, sD p.1.2, kD p.2])]
 | .case _, [] => []
 | .row _, ps => [sD "row", .tup (ps.map kD)]
 | .op s _, ps => sD s :: ps.map kD
noncomputable def offs : List Tr -> Nat -> List Nat
 | [], _ => []
 | t :: ts, p => p :: offs ts (p + t.sz)
mutual
noncomputable def Tr.rw : Tr -> Nat -> List Dt
 | .mk κ ks, p => .tup (κ.rw (offs ks (p + 1))) :: rws ks (p + 1)
noncomputable def rws : List Tr -> Nat -> List Dt
 | [], _ => []
 | t :: ts, p => t.rw p ++ rws ts (p + t.sz)
end
theorem offs_len : ∀ (ts : List Tr) (p : Nat), (offs ts p).length = ts.length
 | [], _ => rfl
 | t :: ts, p => by rw [offs, Zan, Zan, offs_len ts]
mutual
theorem Tr.rw_len : ∀ (t : Tr) (p : Nat), (t.rw p).length = t.sz
 | .mk κ ks, p => by rw [Tr.rw, Zan, rws_len ks, Tr.sz]; omega
theorem rws_len : ∀ (ts : List Tr) (p : Nat), (rws ts p).length = szs ts
 | [], _ => by rw [rws, szs]; rfl
 | t :: ts, p => by rw [rws, szs, ZaA, Tr.rw_len t, rws_len ts]
end
theorem Zno : isName ")" = false /\ Zei ")" = false := by decide +kernel
theorem ZjU {w : Str} (h : isName w = true) : w ≠ ")" := fun z => by rw [z, Zno.1] at h; cases h
noncomputable def RdT (pe : Pe) (t : Tr) : Prop := ∀ (rest : List Str) (rows : List Dt), rows.length + t.sz <= 160 -> pe (t.tk ++ rest) rows = some (rest, rows ++ t.rw rows.length)
noncomputable def Zqb (pe : Pe) (ts : List Tr) : Prop := ∀ t ∈ ts, RdT pe t
theorem Zhy {pe : Pe} {ps : List Bool} {acc rows : List Dt} {x : Str} {r : List Str} (h : isName x = true) : Zc5 pe (true :: ps) acc (x :: r) rows = Zc5 pe ps (acc ++ [sD x]) r rows := by
 rw [Zc5]
 exact if_pos h
theorem Zmp {pe : Pe} {ps : List Bool} {acc rows rows' : List Dt} {ws r : List Str} (h : pe ws rows = some (r, rows')) : Zc5 pe (false :: ps) acc ws rows = Zc5 pe ps (acc ++ [kD rows.length]) r rows' := by
 rw [Zc5, h]
 rfl
theorem Zhb {pe : Pe} : ∀ (ts : List Tr), Zqb pe ts -> ∀ (ps : List Bool) (acc : List Dt) (rest : List Str) (rows : List Dt), rows.length + szs ts <= 160 ->
  Zc5 pe (Zau ts.length false ++ ps) acc ((tks ts).flatten ++ rest) rows = Zc5 pe ps (acc ++ (offs ts rows.length).map kD) rest (rows ++ rws ts rows.length)
 | [], _, ps, acc, rest, rows, _ => by simp [tks, offs, rws]
 | t :: ts, h, ps, acc, rest, rows, hl => by
  rw [szs] at hl
  have h1 := h t Zad ((tks ts).flatten ++ rest) rows (by omega)
  rw [tks, ZaJ, ZaK, Zan, ZaI, Zbg, Zc5, h1]
  dsimp only
  have hlen : (rows ++ t.rw rows.length).length = rows.length + t.sz := by rw [ZaA, Tr.rw_len]
  rw [Zhb ts (fun x hx => h x (Zae _ hx)) ps _ rest _ (by rw [hlen]; omega), hlen, offs, rws, Zap, ZaK, ZaK]
  rfl
theorem ZoQ : ∀ (t : Tr), t.ok -> ∃ x r, t.tk = x :: r /\ x ≠ ")"
 | .mk κ ks, h => by
  rw [Tr.ok] at h
  rw [Tr.tk]
  cases κ with
  | num n =>
   refine ⟨_, _, rfl, fun z => ?_⟩
   have hf := str_fig (k := 59) h.1.1 h.1.2
   have : (41 : Nat) ∈ (numS n).cps.toList := by rw [z]; decide +kernel
   have := hf.1 41 this
   exact absurd this (by decide +kernel)
  | name w => exact ⟨_, _, rfl, ZjU h.1⟩
  | _ => exact ⟨_, _, rfl, by decide +kernel⟩
theorem ZjV {item : List Str -> List Dt -> Option (Dt × Rs)} {ws r : List Str} {rows rows' acc : List Dt} {d : Dt} (h : ∃ x r, ws = x :: r /\ x ≠ (")" : Str)) (hi : item ws rows = some (d, r, rows')) (hl : r.length < ws.length) : ZdZ item ws rows acc = ZdZ item r rows' (acc ++ [d]) := by
 obtain ⟨x, r0, rfl, hx⟩ := h
 have h' : ¬ (x :: r0).head? = some (")" : Str) := fun z => hx (ZbM.inj z)
 rw [ZdZ]
 refine (if_neg h').trans ?_
 rw [hi]
 exact dif_pos hl
theorem Zhz {item : List Str -> List Dt -> Option (Dt × Rs)} {r : List Str} {rows acc : List Dt} : ZdZ item ((")" : Str) :: r) rows acc = some (acc, (")" : Str) :: r, rows) := Zfz _ _ _ rfl
theorem Zji {pe : Pe} : ∀ (ts : List Tr), Zqb pe ts -> oks ts -> ∀ (acc : List Dt) (rest : List Str) (rows : List Dt), rows.length + szs ts <= 160 ->
  ZdZ (Ze6 pe) ((tks ts).flatten ++ (")" : Str) :: rest) rows acc = some (acc ++ (offs ts rows.length).map kD, (")" : Str) :: rest, rows ++ rws ts rows.length)
 | [], _, _, acc, rest, rows, _ => by
  show ZdZ _ ((")" : Str) :: rest) rows acc = _
  rw [Zhz]
  simp [offs, rws]
 | t :: ts, h, ho, acc, rest, rows, hl => by
  rw [szs] at hl
  rw [oks] at ho
  obtain ⟨x, r, ex, hx⟩ := ZoQ t ho.1
  have h1 := h t Zad ((tks ts).flatten ++ (")" : Str) :: rest) rows (by omega)
  have hlen : (rows ++ t.rw rows.length).length = rows.length + t.sz := by rw [ZaA, Tr.rw_len]
  rw [tks, ZaJ, ZaK]
  rw [ZjV (d := kD rows.length) (r := (tks ts).flatten ++ (")" : Str) :: rest) (rows' := rows ++ t.rw rows.length) ⟨x, _, by rw [ex]; rfl, hx⟩ (by unfold Ze6; rw [h1]; rfl) (by rw [ex, Zbg, Zan, ZaA (as := r)]; omega), Zji ts (fun x hx => h x (Zae _ hx)) ho.2 _ rest _ (by rw [hlen]; omega), hlen, offs, rws, Zap, ZaK, ZaK]
  rfl
theorem ZhA {pe : Pe} : ∀ (l : List Str) (ts : List Tr), l.length = ts.length -> (∀ w ∈ l, isName w = true) -> Zqb pe ts -> ∀ (acc : List Dt) (rest : List Str) (rows : List Dt), rows.length + szs ts <= 160 ->
  ZdZ (ZdW pe [true, false]) (wv1 l (tks ts) ++ (")" : Str) :: rest) rows acc = some (acc ++ (l.zip (offs ts rows.length)).map (fun p => .tup [sD p.1, kD p.2]), (")" : Str) :: rest, rows ++ rws ts rows.length)
 | [], [], _, _, _, acc, rest, rows, _ => by
  show ZdZ _ ((")" : Str) :: rest) rows acc = _
  rw [Zhz]
  simp [offs, rws]
 | w :: l, t :: ts, hl0, hw, h, acc, rest, rows, hl => by
  rw [szs] at hl
  have h1 := h t Zad (wv1 l (tks ts) ++ (")" : Str) :: rest) rows (by omega)
  have hn := hw w Zad
  have hlen : (rows ++ t.rw rows.length).length = rows.length + t.sz := by rw [ZaA, Tr.rw_len]
  rw [tks, wv1, Zbg, ZaK]
  have hi : ZdW pe [true, false] (w :: (t.tk ++ (wv1 l (tks ts) ++ (")" : Str) :: rest))) rows = some (.tup [sD w, kD rows.length], wv1 l (tks ts) ++ (")" : Str) :: rest, rows ++ t.rw rows.length) := by
   have e : Zc5 pe [true, false] [] (w :: (t.tk ++ (wv1 l (tks ts) ++ (")" : Str) :: rest))) rows = some ([sD w, kD rows.length], wv1 l (tks ts) ++ (")" : Str) :: rest, rows ++ t.rw rows.length) := by
    rw [Zhy hn, Zmp h1]
    rfl
   unfold ZdW
   rw [e]
  rw [ZjV ⟨_, _, rfl, ZjU hn⟩ hi (by simp only [Zan, ZaA]; omega), ZhA l ts (by simpa using hl0) (fun x hx => hw x (Zae _ hx)) (fun x hx => h x (Zae _ hx)) _ rest _ (by rw [hlen]; omega), hlen, offs, rws, Zbi, Zap, ZaK, ZaK]
  rfl
theorem Zjj {pe : Pe} : ∀ (l : List (Str × Str)) (ts : List Tr), l.length = ts.length -> (∀ p ∈ l, isName p.1 = true /\ isName p.2 = true) -> Zqb pe ts -> ∀ (acc : List Dt) (rest : List Str) (rows : List Dt), rows.length + szs ts <= 160 ->
  ZdZ (ZdW pe [true, true, false]) (wv2 l (tks ts) ++ (")" : Str) :: rest) rows acc = some (acc ++ (l.zip (offs ts rows.length)).map (fun p => .tup [sD p.1.1, sD p.1.2, kD p.2]), (")" : Str) :: rest, rows ++ rws ts rows.length)
 | [], [], _, _, _, acc, rest, rows, _ => by
  show ZdZ _ ((")" : Str) :: rest) rows acc = _
  rw [Zhz]
  simp [offs, rws]
 | w :: l, t :: ts, hl0, hw, h, acc, rest, rows, hl => by
  rw [szs] at hl
  have h1 := h t Zad (wv2 l (tks ts) ++ (")" : Str) :: rest) rows (by omega)
  obtain ⟨hn, hn2⟩ := hw w Zad
  have hlen : (rows ++ t.rw rows.length).length = rows.length + t.sz := by rw [ZaA, Tr.rw_len]
  rw [tks, wv2, Zbg, Zbg, ZaK]
  have hi : ZdW pe [true, true, false] (w.1 :: w.2 :: (t.tk ++ (wv2 l (tks ts) ++ (")" : Str) :: rest))) rows = some (.tup [sD w.1, sD w.2, kD rows.length], wv2 l (tks ts) ++ (")" : Str) :: rest, rows ++ t.rw rows.length) := by
   have e : Zc5 pe [true, true, false] [] (w.1 :: w.2 :: (t.tk ++ (wv2 l (tks ts) ++ (")" : Str) :: rest))) rows = some ([sD w.1, sD w.2, kD rows.length], wv2 l (tks ts) ++ (")" : Str) :: rest, rows ++ t.rw rows.length) := by
    rw [Zhy hn, Zhy hn2, Zmp h1]
    rfl
   unfold ZdW
   rw [e]
  rw [ZjV ⟨_, _, rfl, ZjU hn⟩ hi (by simp only [Zan, ZaA]; omega), Zjj l ts (by simpa using hl0) (fun x hx => hw x (Zae _ hx)) (fun x hx => h x (Zae _ hx)) _ rest _ (by rw [hlen]; omega), hlen, offs, rws, Zbi, Zap, ZaK, ZaK]
  rfl
theorem set_at {rows more : List Dt} {x y : Dt} : (rows ++ [x] ++ more).set rows.length y = rows ++ y :: more := by
 rw [ZaK, Zbj _ _ (Zbz _), ZbJ]
 rfl
theorem ZfK {f : Nat} {h : Str} {ws rest : List Str} {rows ds more : List Dt} (hr : rows.length < 160) (hf : Zd6 (Zc8 f) h (ws ++ (")" : Str) :: rest) (rows ++ [.flat .non]) = some (ds, (")" : Str) :: rest, rows ++ [.flat .non] ++ more)) :
  Zc8 (f + 1) (("(" : Str) :: h :: (ws ++ [(")" : Str)]) ++ rest) rows = some (rest, rows ++ .tup ds :: more) := by
 rw [Zc8, if_neg (by omega)]
 show (match Zie (Zc8 f) (("(" : Str) :: h :: ((ws ++ [(")" : Str)]) ++ rest)) (rows ++ [Dt.flat .non]) with | none => none | some (ds, r, rows') => some (r, rows'.set rows.length (Dt.tup ds))) = _
 rw [ZjT Zha.1 Zha.2 rfl, ZaK]
 show (match ZfJ (Zd6 (Zc8 f) h (ws ++ (")" : Str) :: rest) (rows ++ [Dt.flat .non])) with | none => none | some (ds, r, rows') => some (r, rows'.set rows.length (Dt.tup ds))) = _
 rw [hf]
 show (match (if (")" : Str) = ")" then some (ds, rest, rows ++ [Dt.flat .non] ++ more) else none) with | none => none | some (ds, r, rows') => some (r, rows'.set rows.length (Dt.tup ds))) = _
 rw [if_pos rfl]
 show some (rest, (rows ++ [Dt.flat .non] ++ more).set rows.length (Dt.tup ds)) = _
 rw [set_at]
theorem Zf7 {pe : Pe} {h : Str} {ps : List Bool} {ws r : List Str} {rows ds rows' : List Dt} (h1 : ¬ h = "rec") (h2 : ¬ h = "case") (h3 : ¬ h = "row") (hp : stP h = some ps) (s : Zc5 pe ps [] ws rows = some (ds, r, rows')) : Zd6 pe h ws rows = some (sD h :: ds, r, rows') := by
 unfold Zd6
 rw [if_neg h1, if_neg h2, if_neg h3, hp]
 dsimp only
 rw [s]
 rfl
theorem Zqc : ∀ p ∈ ops, stP p.1 = some (Zau p.2 false) /\ ¬ p.1 = "rec" /\ ¬ p.1 = "case" /\ ¬ p.1 = "row" := by decide +kernel
theorem num_is {n : Int} (h0 : 0 <= n) (h1 : n < 10 ^ 60) : Zei (numS n) = true /\ Zjc (numS n) = n := by
 refine ⟨GR.Internal.num_is (k := 59) h0 h1 (by decide), ?_⟩
 obtain ⟨f1, f2, f3⟩ := str_fig (k := 59) h0 h1
 have hd : PySem.NumText.AllDigits (numS n).cps.toList := fun c hc => ZkK c (f1 c hc)
 have hne : (numS n).cps.toList ≠ [] := by
  obtain ⟨c, r, e⟩ := first_of (x := numS n) f2
  rw [e]
  exact Zbe _ _
 have hl : (numS n).length <= 60 := f3
 have e := PySem.intText_digits hd hne (by omega)
 unfold Zjc
 rw [e]
 obtain ⟨m, rfl⟩ := ZcH h0
 unfold numS
 rw [PySem.W.KIN.signs_num, PySem.W.KIN.val_back]
 rfl
theorem Zrq : ∀ c ∈ SM.cps.toList, ¬ c ∈ FG.cps.toList := by decide +kernel
theorem ZoR {w : Str} (h : isName w = true) : ¬ Zei w = true := fun z => by
 obtain ⟨z1, _, z3⟩ := Zhw z
 obtain ⟨c, r, ec⟩ := first_of z1
 unfold isName at h
 simp only [Zcy] at h
 have hf := h.1.2
 unfold firstIn at hf
 rw [ec] at hf
 exact Zrq c (of_decide_eq_true hf) (allIn_mem z3 c (by rw [ec]; exact Zad))
theorem rd_all : ∀ (f : Nat) (t : Tr), t.ok -> t.nest <= f -> RdT (Zc8 f) t
 | 0, .mk κ ks, _, hn => by rw [Tr.nest] at hn; omega
 | f + 1, .mk κ ks, ho, hn => by
  intro rest rows hl
  rw [Tr.ok] at ho
  rw [Tr.nest] at hn
  rw [Tr.sz] at hl
  obtain ⟨h1, h2, h3⟩ := ho
  have ih : Zqb (Zc8 f) ks := by
   intro t ht
   have : t.ok /\ t.nest <= nests ks := by
    clear hl h1 h2
    induction ks with
    | nil => cases ht
    | cons x xs ih =>
     rw [oks] at h3
     rw [nests] at hn ⊢
     rcases Zaf.mp ht with e | e
     ·subst e
      exact ⟨h3.1, ZbC _ _⟩
     ·have := ih (by omega) h3.2 e
      exact ⟨this.1, by omega⟩
   exact rd_all f t this.1 (by omega)
  have r1 : (rows ++ [Dt.flat .non]).length = rows.length + 1 := by rw [ZaA]; rfl
  have hs : ∀ (s : Str) (ps : List Bool), ps = Zau ks.length false -> stP s = some ps -> (¬ s = "rec" /\ ¬ s = "case" /\ ¬ s = "row") -> Zd6 (Zc8 f) s ((tks ks).flatten ++ (")" : Str) :: rest) (rows ++ [.flat .non]) = some (sD s :: (offs ks (rows.length + 1)).map kD, (")" : Str) :: rest, rows ++ [.flat .non] ++ rws ks (rows.length + 1)) := fun s ps e1 e2 e3 => by
   refine Zf7 e3.1 e3.2.1 e3.2.2 e2 ?_
   have := Zhb ks ih [] [] ((")" : Str) :: rest) (rows ++ [.flat .non]) (by rw [r1]; omega)
   rw [Zar] at this
   rw [e1, this, r1, Zc5]
   rfl
  have hn1 : ∀ (s w : Str), isName w = true -> stP s = some (true :: Zau ks.length false) -> (¬ s = "rec" /\ ¬ s = "case" /\ ¬ s = "row") -> Zd6 (Zc8 f) s (w :: (tks ks).flatten ++ (")" : Str) :: rest) (rows ++ [.flat .non]) = some (sD s :: sD w :: (offs ks (rows.length + 1)).map kD, (")" : Str) :: rest, rows ++ [.flat .non] ++ rws ks (rows.length + 1)) := fun s w hw e2 e3 => by
   refine Zf7 e3.1 e3.2.1 e3.2.2 e2 ?_
   rw [Zbg, Zhy hw]
   have := Zhb ks ih [] [sD w] ((")" : Str) :: rest) (rows ++ [.flat .non]) (by rw [r1]; omega)
   rw [Zar] at this
   show Zc5 (Zc8 f) (Zau ks.length false) [sD w] _ _ = _
   rw [this, r1, Zc5]
   rfl
  rw [Tr.tk, Tr.rw]
  cases κ with
  | num n =>
   have e : ks = [] := Zbk h2
   subst e
   obtain ⟨n1, n2⟩ := num_is h1.1 h1.2
   rw [Zc8, if_neg (by omega)]
   show (match Zie (Zc8 f) (numS n :: rest) (rows ++ [Dt.flat .non]) with | none => none | some (ds, r, rows') => some (r, rows'.set rows.length (Dt.tup ds))) = _
   rw [ZjS n1, n2]
   show some (rest, (rows ++ [Dt.flat .non]).set rows.length (Dt.tup _)) = _
   have := set_at (rows := rows) (more := []) (x := Dt.flat .non) (y := Dt.tup [Dt.flat (.str "num"), Dt.flat (.int n)])
   rw [Zar] at this
   rw [this]
   rfl
  | name w =>
   have e : ks = [] := Zbk h2
   subst e
   have hw : isName w = true := h1
   have hnn : ¬ Zei w = true := ZoR hw
   rw [Zc8, if_neg (by omega)]
   show (match Zie (Zc8 f) (w :: rest) (rows ++ [Dt.flat .non]) with | none => none | some (ds, r, rows') => some (r, rows'.set rows.length (Dt.tup ds))) = _
   rw [ZiD hnn hw]
   show some (rest, (rows ++ [Dt.flat .non]).set rows.length (Dt.tup _)) = _
   have := set_at (rows := rows) (more := []) (x := Dt.flat .non) (y := Dt.tup [Dt.flat (.str "name"), Dt.flat (.str w)])
   rw [Zar] at this
   rw [this]
   rfl
  | fn w => exact ZfK (by omega) (hn1 "fn" w h1 (by rw [h2]; exact (show stP "fn" = some (true :: Zau 1 false) from by decide +kernel)) (by decide +kernel))
  | tag w => exact ZfK (by omega) (hn1 "tag" w h1 (by rw [h2]; exact (show stP "tag" = some (true :: Zau 1 false) from by decide +kernel)) (by decide +kernel))
  | lt w => exact ZfK (by omega) (hn1 "let" w h1 (by rw [h2]; exact (show stP "let" = some (true :: Zau 2 false) from by decide +kernel)) (by decide +kernel))
  | get w =>
   refine ZfK (by omega) ?_
   refine Zf7 (h := "get") (by decide +kernel) (by decide +kernel) (by decide +kernel) (show stP "get" = some (Zau ks.length false ++ [true]) by rw [h2]; exact (show stP "get" = some (Zau 1 false ++ [true]) from by decide +kernel)) ?_
   have := Zhb ks ih [true] [] (w :: (")" : Str) :: rest) (rows ++ [.flat .non]) (by rw [r1]; omega)
   show Zc5 (Zc8 f) _ [] (((tks ks).flatten ++ [w]) ++ (")" : Str) :: rest) _ = _
   rw [ZaK]
   show Zc5 (Zc8 f) _ [] ((tks ks).flatten ++ (w :: (")" : Str) :: rest)) _ = _
   rw [this, r1, Zhy (show isName w = true from h1), Zc5]
   rfl
  | rcd l =>
   refine ZfK (by omega) ?_
   have := ZhA l ks h2.symm h1.2 ih [] rest (rows ++ [.flat .non]) (by rw [r1]; omega)
   show Zd6 (Zc8 f) "rec" _ _ = _
   unfold Zd6
   rw [if_pos rfl]
   show (match chk 0 6 (ZdZ (ZdW (Zc8 f) [true, false]) (wv1 l (tks ks) ++ (")" : Str) :: rest) (rows ++ [Dt.flat .non]) []) with | none => none | some (l, r) => some ([Dt.flat (.str "rec"), Dt.tup l], r)) = _
   rw [this, r1]
   unfold chk
   dsimp only
   rw [if_pos ⟨ZbA _, by rw [ZaM, Zaq, Zbl]; have := h1.1; omega⟩]
   rfl
  | row m =>
   refine ZfK (by omega) ?_
   have := Zji ks ih h3 [] rest (rows ++ [.flat .non]) (by rw [r1]; omega)
   show Zd6 (Zc8 f) "row" _ _ = _
   unfold Zd6
   rw [if_neg (by decide +kernel), if_neg (by decide +kernel), if_pos rfl]
   show (match chk 0 8 (ZdZ (Ze6 (Zc8 f)) ((tks ks).flatten ++ (")" : Str) :: rest) (rows ++ [Dt.flat .non]) []) with | none => none | some (l, r) => some ([Dt.flat (.str "row"), Dt.tup l], r)) = _
   rw [this, r1]
   unfold chk
   dsimp only
   have h8 : m <= 8 := h1
   have hk : ks.length = m := h2
   rw [if_pos ⟨ZbA _, by rw [ZaM, Zaq, offs_len]; omega⟩]
   rfl
  | op s m =>
   obtain ⟨e1, e2⟩ := Zqc (s, m) h1
   exact ZfK (by omega) (hs s _ (by rw [h2]; rfl) e1 e2)
  | case l =>
   cases ks with
   | nil => exact absurd h2 (by simp [Kn.ar])
   | cons t ts =>
    have hl2 : l.length = ts.length := by simpa [Kn.ar] using h2.symm
    refine ZfK (by omega) ?_
    rw [szs] at hl
    have hlen : (rows ++ [Dt.flat .non] ++ t.rw (rows.length + 1)).length = rows.length + 1 + t.sz := by rw [ZaA, Tr.rw_len, r1]
    have a1 := ih t Zad (wv2 l (tks ts) ++ (")" : Str) :: rest) (rows ++ [.flat .non]) (by rw [r1]; omega)
    rw [r1] at a1
    have a2 := Zjj l ts hl2 h1.2.2 (fun x hx => ih x (Zae _ hx)) [] rest (rows ++ [.flat .non] ++ t.rw (rows.length + 1)) (by rw [hlen]; omega)
    show Zd6 (Zc8 f) "case" _ _ = _
    unfold Zd6
    rw [if_neg (by decide +kernel), if_pos rfl]
    show (match Zc8 f ((t.tk ++ wv2 l (tks ts)) ++ (")" : Str) :: rest) (rows ++ [Dt.flat .non]) with | none => none | some (r1, rows1) => match chk 1 6 (ZdZ (ZdW (Zc8 f) [true, true, false]) r1 rows1 []) with | none => none | some (l, r) => some ([Dt.flat (.str "case"), Dt.flat (.int ((rows ++ [Dt.flat .non]).length : Int)), Dt.tup l], r)) = _
    rw [ZaK, a1]
    dsimp only
    rw [a2, hlen]
    unfold chk
    dsimp only
    rw [if_pos ⟨by rw [ZaM, Zaq, Zbl, offs_len]; have := h1.1; omega, by rw [ZaM, Zaq, Zbl]; have := h1.2.1; omega⟩, r1]
    show some ([sD "case", kD (rows.length + 1), Dt.tup _], (")" : Str) :: rest, rows ++ [Dt.flat .non] ++ t.rw (rows.length + 1) ++ rws ts (rows.length + 1 + t.sz)) = _
    rw [rws, offs, ZaK]
    rfl
end TM.Internal
namespace K04.Internal
open PySem L2.Internal
theorem l0 {P : List Value -> Prop} (h : P []) : ∀ us : List Value, us.length = 0 -> P us := fun us e => by rw [Zbk e]; exact h
theorem lS {n : Nat} {P : List Value -> Prop} (h : ∀ a, ∀ us : List Value, us.length = n -> P (a :: us)) : ∀ us : List Value, us.length = n + 1 -> P us := fun us e => by
 cases us with
 | nil => cases e
 | cons a t => exact h a t (Nat.succ.inj e)
noncomputable def top (i : Nat) : Stmt := PySem.Challenge.pw_flowkinds_k04_programs_read.main.body.getD i (.Pass ⟨0, 0, 0, 0⟩)
noncomputable abbrev ZeL : Stmt := top 17
noncomputable abbrev Ze9 : Stmt := top 18
noncomputable abbrev Zes : Stmt := top 19
noncomputable abbrev Zfa : Stmt := top 20
noncomputable abbrev ZhB : Stmt := top 21
noncomputable abbrev Zd0 : Stmt := top 22
noncomputable abbrev ZeM : Stmt := top 25
noncomputable abbrev ZhC : Stmt := top 26
noncomputable abbrev Zfb : Stmt := top 28
noncomputable abbrev ZeN : Stmt := top 29
noncomputable abbrev Zfc : Stmt := top 30
noncomputable abbrev Zet : Stmt := top 32
noncomputable abbrev ZeO : Stmt := top 33
noncomputable abbrev Zeu : Stmt := top 34
noncomputable abbrev Zev : Stmt := top 35
noncomputable abbrev Zew : Stmt := top 36
noncomputable abbrev Zed : Stmt := top 37
noncomputable abbrev Zee : Stmt := top 38
noncomputable abbrev Zex : Stmt := top 39
noncomputable abbrev Zef : Stmt := top 40
noncomputable abbrev Zd1 : Stmt := top 41
noncomputable abbrev Zey : Stmt := top 42
noncomputable abbrev Zfd : Stmt := top 43
noncomputable abbrev ZhQ : Stmt := top 44
noncomputable abbrev Zdx : Stmt := ZeJ (top 16) 0
noncomputable abbrev ZdD : Stmt := ZeJ (top 23) 0
noncomputable abbrev ZdV : Stmt := ZeJ (top 23) 1
noncomputable abbrev Zd2 : Stmt := ZeJ (top 23) 2
noncomputable abbrev Zdy : Stmt := ZeJ (top 23) 3
noncomputable abbrev Zdz : Stmt := ZeJ (top 23) 4
noncomputable abbrev ZdA : Stmt := ZeJ (top 23) 5
noncomputable abbrev ZdE : Stmt := ZeJ (top 23) 6
noncomputable abbrev ZdB : Stmt := ZeJ (top 23) 7
noncomputable abbrev Zdo : Stmt := ZeJ (top 23) 8
noncomputable abbrev Zdp : Stmt := ZeJ (top 23) 9
noncomputable abbrev ZdC : Stmt := ZeJ (top 23) 10
noncomputable abbrev Zdq : Stmt := ZeJ (top 23) 11
set_option genInjectivity false in
set_option genSizeOf false in
structure Txt (K : PySem.W.Frag) (mg : Str -> Option Value) where
 t_LETTERS : Tok
 m_LETTERS : mg "LETTERS" = some (.str "abcdefghijklmnopqrstuvwxyz" t_LETTERS)
 t_FIGURES : Tok
 m_FIGURES : mg "FIGURES" = some (.str "0123456789" t_FIGURES)
 a_KEPT_WORDS : Addr
 m_KEPT_WORDS : mg "KEPT_WORDS" = some (.ref a_KEPT_WORDS)
 q_KEPT_WORDS : ∀ H : Hp, SqT K H a_KEPT_WORDS [V.str "def", V.str "fn", V.str "call", V.str "let", V.str "rec", V.str "get", V.str "tag", V.str "case", V.str "row", V.str "at", V.str "join", V.str "size", V.str "add", V.str "sub", V.str "less"]
 t_MOST_FIGURES : Tok
 m_MOST_FIGURES : mg "MOST_FIGURES" = some (.int 60 t_MOST_FIGURES)
 t_MOST_SIGNS : Tok
 m_MOST_SIGNS : mg "MOST_SIGNS" = some (.int 12 t_MOST_SIGNS)
 t_MOST_DEFINITIONS : Tok
 m_MOST_DEFINITIONS : mg "MOST_DEFINITIONS" = some (.int 12 t_MOST_DEFINITIONS)
 t_MOST_FIELDS : Tok
 m_MOST_FIELDS : mg "MOST_FIELDS" = some (.int 6 t_MOST_FIELDS)
 t_MOST_ARMS : Tok
 m_MOST_ARMS : mg "MOST_ARMS" = some (.int 6 t_MOST_ARMS)
 t_MOST_THINGS : Tok
 m_MOST_THINGS : mg "MOST_THINGS" = some (.int 8 t_MOST_THINGS)
 t_MOST_PLACES : Tok
 m_MOST_PLACES : mg "MOST_PLACES" = some (.int 160 t_MOST_PLACES)
 t_MOST_NEST : Tok
 m_MOST_NEST : mg "MOST_NEST" = some (.int 24 t_MOST_NEST)
 a_words_of : Addr
 fd_words_of : FuncData
 F_words_of : Fun K "words_of" "words_of" ZeL a_words_of fd_words_of
 b_words_of : ZdQ K fd_words_of ["text"] []
 m_words_of : mg "words_of" = some (.ref a_words_of)
 k_words_of : Zb4 K (.ref a_words_of) = true
 a_is_name : Addr
 fd_is_name : FuncData
 F_is_name : Fun K "is_name" "is_name" Ze9 a_is_name fd_is_name
 b_is_name : ZdQ K fd_is_name ["word"] []
 m_is_name : mg "is_name" = some (.ref a_is_name)
 k_is_name : Zb4 K (.ref a_is_name) = true
 a_is_number : Addr
 fd_is_number : FuncData
 F_is_number : Fun K "is_number" "is_number" Zes a_is_number fd_is_number
 b_is_number : ZdQ K fd_is_number ["word"] []
 m_is_number : mg "is_number" = some (.ref a_is_number)
 k_is_number : Zb4 K (.ref a_is_number) = true
 a_made_of : Addr
 fd_made_of : FuncData
 F_made_of : Fun K "made_of" "made_of" Zfa a_made_of fd_made_of
 b_made_of : ZdQ K fd_made_of ["word", "signs"] []
 m_made_of : mg "made_of" = some (.ref a_made_of)
 k_made_of : Zb4 K (.ref a_made_of) = true
 a_read : Addr
 fd_read : FuncData
 F_read : Fun K "read" "read" ZhB a_read fd_read
 b_read : ZdQ K fd_read ["text"] []
 m_read : mg "read" = some (.ref a_read)
 k_read : Zb4 K (.ref a_read) = true
 a_check_count : Addr
 fd_check_count : FuncData
 F_check_count : Fun K "check_count" "check_count" Zd0 a_check_count fd_check_count
 b_check_count : ZdQ K fd_check_count ["what", "count", "least", "most"] []
 m_check_count : mg "check_count" = some (.ref a_check_count)
 k_check_count : Zb4 K (.ref a_check_count) = true
 a_parts_of : Addr
 fd_parts_of : FuncData
 F_parts_of : Fun K "parts_of" "parts_of" ZeM a_parts_of fd_parts_of
 b_parts_of : ZdQ K fd_parts_of ["row"] []
 m_parts_of : mg "parts_of" = some (.ref a_parts_of)
 k_parts_of : Zb4 K (.ref a_parts_of) = true
 a_flat : Addr
 fd_flat : FuncData
 F_flat : Fun K "flat" "flat" ZhC a_flat fd_flat
 b_flat : ZdQ K fd_flat ["parts"] []
 m_flat : mg "flat" = some (.ref a_flat)
 k_flat : Zb4 K (.ref a_flat) = true
 a_written : Addr
 fd_written : FuncData
 F_written : Fun K "written" "written" Zfb a_written fd_written
 b_written : ZdQ K fd_written ["program"] []
 m_written : mg "written" = some (.ref a_written)
 k_written : Zb4 K (.ref a_written) = true
 a_texts_of : Addr
 fd_texts_of : FuncData
 F_texts_of : Fun K "texts_of" "texts_of" ZeN a_texts_of fd_texts_of
 b_texts_of : ZdQ K fd_texts_of ["rows"] []
 m_texts_of : mg "texts_of" = some (.ref a_texts_of)
 k_texts_of : Zb4 K (.ref a_texts_of) = true
 a_text_of : Addr
 fd_text_of : FuncData
 F_text_of : Fun K "text_of" "text_of" Zfc a_text_of fd_text_of
 b_text_of : ZdQ K fd_text_of ["row", "texts"] []
 m_text_of : mg "text_of" = some (.ref a_text_of)
 k_text_of : Zb4 K (.ref a_text_of) = true
 a__law_name : Addr
 fd__law_name : FuncData
 F__law_name : Fun K "_law_name" "_law_name" Zet a__law_name fd__law_name
 b__law_name : ZdQ K fd__law_name ["_law_cell"] []
 m__law_name : mg "_law_name" = some (.ref a__law_name)
 k__law_name : Zb4 K (.ref a__law_name) = true
 a__law_pop : Addr
 fd__law_pop : FuncData
 F__law_pop : Fun K "_law_pop" "_law_pop" ZeO a__law_pop fd__law_pop
 b__law_pop : ZdQ K fd__law_pop ["_law_stack"] []
 m__law_pop : mg "_law_pop" = some (.ref a__law_pop)
 k__law_pop : Zb4 K (.ref a__law_pop) = true
 a__law_many : Addr
 fd__law_many : FuncData
 F__law_many : Fun K "_law_many" "_law_many" Zeu a__law_many fd__law_many
 b__law_many : ZdQ K fd__law_many ["_law_stack", "_law_many_here"] []
 m__law_many : mg "_law_many" = some (.ref a__law_many)
 k__law_many : Zb4 K (.ref a__law_many) = true
 a__law_tree : Addr
 fd__law_tree : FuncData
 F__law_tree : Fun K "_law_tree" "_law_tree" Zev a__law_tree fd__law_tree
 b__law_tree : ZdQ K fd__law_tree ["_law_op", "_law_arg", "_law_parts"] []
 m__law_tree : mg "_law_tree" = some (.ref a__law_tree)
 k__law_tree : Zb4 K (.ref a__law_tree) = true
 a__law_item : Addr
 fd__law_item : FuncData
 F__law_item : Fun K "_law_item" "_law_item" Zew a__law_item fd__law_item
 b__law_item : ZdQ K fd__law_item ["_law_op", "_law_arg", "_law_stack"] []
 m__law_item : mg "_law_item" = some (.ref a__law_item)
 k__law_item : Zb4 K (.ref a__law_item) = true
 a__law_trees : Addr
 fd__law_trees : FuncData
 F__law_trees : Fun K "_law_trees" "_law_trees" Zed a__law_trees fd__law_trees
 b__law_trees : ZdQ K fd__law_trees ["_law_script"] []
 m__law_trees : mg "_law_trees" = some (.ref a__law_trees)
 k__law_trees : Zb4 K (.ref a__law_trees) = true
 a__law_place : Addr
 fd__law_place : FuncData
 F__law_place : Fun K "_law_place" "_law_place" Zee a__law_place fd__law_place
 b__law_place : ZdQ K fd__law_place ["_law_tree_here", "_law_rows"] []
 m__law_place : mg "_law_place" = some (.ref a__law_place)
 k__law_place : Zb4 K (.ref a__law_place) = true
 a__law_part : Addr
 fd__law_part : FuncData
 F__law_part : Fun K "_law_part" "_law_part" Zex a__law_part fd__law_part
 b__law_part : ZdQ K fd__law_part ["_law_part_here", "_law_rows"] []
 m__law_part : mg "_law_part" = some (.ref a__law_part)
 k__law_part : Zb4 K (.ref a__law_part) = true
 a__law_plain : Addr
 fd__law_plain : FuncData
 F__law_plain : Fun K "_law_plain" "_law_plain" Zef a__law_plain fd__law_plain
 b__law_plain : ZdQ K fd__law_plain ["_law_part_here"] []
 m__law_plain : mg "_law_plain" = some (.ref a__law_plain)
 k__law_plain : Zb4 K (.ref a__law_plain) = true
 a__law_spread : Addr
 fd__law_spread : FuncData
 F__law_spread : Fun K "_law_spread" "_law_spread" Zd1 a__law_spread fd__law_spread
 b__law_spread : ZdQ K fd__law_spread ["_law_text", "_law_cell"] []
 m__law_spread : mg "_law_spread" = some (.ref a__law_spread)
 k__law_spread : Zb4 K (.ref a__law_spread) = true
 a__law_same : Addr
 fd__law_same : FuncData
 F__law_same : Fun K "_law_same" "_law_same" Zey a__law_same fd__law_same
 b__law_same : ZdQ K fd__law_same ["_law_found", "_law_due"] []
 m__law_same : mg "_law_same" = some (.ref a__law_same)
 k__law_same : Zb4 K (.ref a__law_same) = true
 a__law_is : Addr
 fd__law_is : FuncData
 F__law_is : Fun K "_law_is" "_law_is" Zfd a__law_is fd__law_is
 b__law_is : ZdQ K fd__law_is ["_law_found", "_law_names", "_law_roots", "_law_rows"] []
 m__law_is : mg "_law_is" = some (.ref a__law_is)
 k__law_is : Zb4 K (.ref a__law_is) = true
 a_FlowError : Addr
 m_FlowError : mg "FlowError" = some (.ref a_FlowError)
 x_FlowError : Zre K a_FlowError
 a_BadText : Addr
 m_BadText : mg "BadText" = some (.ref a_BadText)
 x_BadText : Zre K a_BadText
 a_Program : Addr
 m_Program : mg "Program" = some (.ref a_Program)
 cl_Program : Cls K a_Program
 ty_Program : ∀ (H : Hp) (a dx : Addr) (fs : List (Str × V)), H a = some (.ins a_Program dx fs) -> ZjN K H (.ref a) (.ref a_Program)
 n_Program_names : Zfm K a_Program "names"
 n_Program_roots : Zfm K a_Program "roots"
 n_Program_rows : Zfm K a_Program "rows"
 a_Program___init__ : Addr
 fd_Program___init__ : FuncData
 F_Program___init__ : Fun K "__init__" "Program.__init__" Zdx a_Program___init__ fd_Program___init__
 b_Program___init__ : ZdQ K fd_Program___init__ ["self", "names", "roots", "rows"] []
 mk_Program : Mk K a_Program a_Program___init__
 a_Reader : Addr
 m_Reader : mg "Reader" = some (.ref a_Reader)
 cl_Reader : Cls K a_Reader
 ty_Reader : ∀ (H : Hp) (a dx : Addr) (fs : List (Str × V)), H a = some (.ins a_Reader dx fs) -> ZjN K H (.ref a) (.ref a_Reader)
 n_Reader_words : Zfm K a_Reader "words"
 n_Reader_taken : Zfm K a_Reader "taken"
 n_Reader_rows : Zfm K a_Reader "rows"
 a_Reader___init__ : Addr
 fd_Reader___init__ : FuncData
 F_Reader___init__ : Fun K "__init__" "Reader.__init__" ZdD a_Reader___init__ fd_Reader___init__
 b_Reader___init__ : ZdQ K fd_Reader___init__ ["self", "words"] []
 mk_Reader : Mk K a_Reader a_Reader___init__
 a_Reader_ahead : Addr
 fd_Reader_ahead : FuncData
 F_Reader_ahead : Fun K "ahead" "Reader.ahead" ZdV a_Reader_ahead fd_Reader_ahead
 b_Reader_ahead : ZdQ K fd_Reader_ahead ["self"] []
 me_Reader_ahead : Zkx K a_Reader "ahead" a_Reader_ahead
 a_Reader_take : Addr
 fd_Reader_take : FuncData
 F_Reader_take : Fun K "take" "Reader.take" Zd2 a_Reader_take fd_Reader_take
 b_Reader_take : ZdQ K fd_Reader_take ["self"] []
 me_Reader_take : Zkx K a_Reader "take" a_Reader_take
 a_Reader_pass_over : Addr
 fd_Reader_pass_over : FuncData
 F_Reader_pass_over : Fun K "pass_over" "Reader.pass_over" Zdy a_Reader_pass_over fd_Reader_pass_over
 b_Reader_pass_over : ZdQ K fd_Reader_pass_over ["self", "wanted"] []
 me_Reader_pass_over : Zkx K a_Reader "pass_over" a_Reader_pass_over
 a_Reader_take_name : Addr
 fd_Reader_take_name : FuncData
 F_Reader_take_name : Fun K "take_name" "Reader.take_name" Zdz a_Reader_take_name fd_Reader_take_name
 b_Reader_take_name : ZdQ K fd_Reader_take_name ["self"] []
 me_Reader_take_name : Zkx K a_Reader "take_name" a_Reader_take_name
 a_Reader_take_expr : Addr
 fd_Reader_take_expr : FuncData
 F_Reader_take_expr : Fun K "take_expr" "Reader.take_expr" ZdA a_Reader_take_expr fd_Reader_take_expr
 b_Reader_take_expr : ZdQ K fd_Reader_take_expr ["self", "depth"] []
 me_Reader_take_expr : Zkx K a_Reader "take_expr" a_Reader_take_expr
 a_Reader_take_row : Addr
 fd_Reader_take_row : FuncData
 F_Reader_take_row : Fun K "take_row" "Reader.take_row" ZdE a_Reader_take_row fd_Reader_take_row
 b_Reader_take_row : ZdQ K fd_Reader_take_row ["self", "depth"] []
 me_Reader_take_row : Zkx K a_Reader "take_row" a_Reader_take_row
 a_Reader_take_form : Addr
 fd_Reader_take_form : FuncData
 F_Reader_take_form : Fun K "take_form" "Reader.take_form" ZdB a_Reader_take_form fd_Reader_take_form
 b_Reader_take_form : ZdQ K fd_Reader_take_form ["self", "head", "depth"] []
 me_Reader_take_form : Zkx K a_Reader "take_form" a_Reader_take_form
 a_Reader_take_steady : Addr
 fd_Reader_take_steady : FuncData
 F_Reader_take_steady : Fun K "take_steady" "Reader.take_steady" Zdo a_Reader_take_steady fd_Reader_take_steady
 b_Reader_take_steady : ZdQ K fd_Reader_take_steady ["self", "parts", "depth"] []
 me_Reader_take_steady : Zkx K a_Reader "take_steady" a_Reader_take_steady
 a_Reader_take_fields : Addr
 fd_Reader_take_fields : FuncData
 F_Reader_take_fields : Fun K "take_fields" "Reader.take_fields" Zdp a_Reader_take_fields fd_Reader_take_fields
 b_Reader_take_fields : ZdQ K fd_Reader_take_fields ["self", "depth"] []
 me_Reader_take_fields : Zkx K a_Reader "take_fields" a_Reader_take_fields
 a_Reader_take_arms : Addr
 fd_Reader_take_arms : FuncData
 F_Reader_take_arms : Fun K "take_arms" "Reader.take_arms" ZdC a_Reader_take_arms fd_Reader_take_arms
 b_Reader_take_arms : ZdQ K fd_Reader_take_arms ["self", "depth"] []
 me_Reader_take_arms : Zkx K a_Reader "take_arms" a_Reader_take_arms
 a_Reader_take_things : Addr
 fd_Reader_take_things : FuncData
 F_Reader_take_things : Fun K "take_things" "Reader.take_things" Zdq a_Reader_take_things fd_Reader_take_things
 b_Reader_take_things : ZdQ K fd_Reader_take_things ["self", "depth"] []
 me_Reader_take_things : Zkx K a_Reader "take_things" a_Reader_take_things
 e_BadText_BadText : PySem.W.exmOne K (.ref a_BadText) (.ref a_BadText) = some true
 i_Program_Program : Zb7 K (.ref a_Program) (.ref a_Program) = some true
 z_ValueError : mg "ValueError" = none
 z_all : mg "all" = none
 z_bool : mg "bool" = none
 z_int : mg "int" = none
 z_isinstance : mg "isinstance" = none
 z_len : mg "len" = none
 z_list : mg "list" = none
 z_max : mg "max" = none
 z_range : mg "range" = none
 z_str : mg "str" = none
 z_sum : mg "sum" = none
 z_tuple : mg "tuple" = none
 z_zip : mg "zip" = none
theorem ZhD : Zdf ["text", "spaced"] ["text"] (ZcX ZeL) := ⟨rfl, rfl, rfl, by decide +kernel, rfl, by decide +kernel, by decide +kernel⟩
theorem Zlp : Zdf ["word"] ["word"] (ZcX Ze9) := ⟨rfl, rfl, rfl, by decide +kernel, rfl, by decide +kernel, by decide +kernel⟩
theorem Zjk : Zdf ["word"] ["word"] (ZcX Zes) := ⟨rfl, rfl, rfl, by decide +kernel, rfl, by decide +kernel, by decide +kernel⟩
theorem Zlq : Zdf ["word", "signs"] ["word", "signs"] (ZcX Zfa) := ⟨rfl, rfl, rfl, by decide +kernel, rfl, by decide +kernel, by decide +kernel⟩
theorem ZiG : Zdf ["text", "reader", "names", "roots"] ["text"] (ZcX ZhB) := ⟨rfl, rfl, rfl, by decide +kernel, rfl, by decide +kernel, by decide +kernel⟩
theorem ZhR : Zdf ["what", "count", "least", "most"] ["what", "count", "least", "most"] (ZcX Zd0) := ⟨rfl, rfl, rfl, by decide +kernel, rfl, by decide +kernel, by decide +kernel⟩
theorem ZjW : Zdf ["row"] ["row"] (ZcX ZeM) := ⟨rfl, rfl, rfl, by decide +kernel, rfl, by decide +kernel, by decide +kernel⟩
theorem ZiH : Zdf ["parts", "found", "part"] ["parts"] (ZcX ZhC) := ⟨rfl, rfl, rfl, by decide +kernel, rfl, by decide +kernel, by decide +kernel⟩
theorem Ze3 : Zdf ["program", "texts", "definitions", "name", "root", "body"] ["program"] (ZcX Zfb) := ⟨rfl, rfl, rfl, by decide +kernel, rfl, by decide +kernel, by decide +kernel⟩
theorem Zf8 : Zdf ["rows", "texts", "place"] ["rows"] (ZcX ZeN) := ⟨rfl, rfl, rfl, by decide +kernel, rfl, by decide +kernel, by decide +kernel⟩
theorem ZgN : Zdf ["row", "texts", "words", "part"] ["row", "texts"] (ZcX Zfc) := ⟨rfl, rfl, rfl, by decide +kernel, rfl, by decide +kernel, by decide +kernel⟩
theorem Zeg : Zdf ["_law_cell", "_law_number", "_law_word", "_law_k", "_law_kept"] ["_law_cell"] (ZcX Zet) := ⟨rfl, rfl, rfl, by decide +kernel, rfl, by decide +kernel, by decide +kernel⟩
theorem ZjX : Zdf ["_law_stack"] ["_law_stack"] (ZcX ZeO) := ⟨rfl, rfl, rfl, by decide +kernel, rfl, by decide +kernel, by decide +kernel⟩
theorem ZfL : Zdf ["_law_stack", "_law_many_here", "_law_parts", "_law_k"] ["_law_stack", "_law_many_here"] (ZcX Zeu) := ⟨rfl, rfl, rfl, by decide +kernel, rfl, by decide +kernel, by decide +kernel⟩
theorem Zfp : Zdf ["_law_op", "_law_arg", "_law_parts", "_law_trees_here", "_law_name_here", "_law_arms"] ["_law_op", "_law_arg", "_law_parts"] (ZcX Zev) := ⟨rfl, rfl, rfl, by decide +kernel, rfl, by decide +kernel, by decide +kernel⟩
theorem Zfq : Zdf ["_law_op", "_law_arg", "_law_stack", "_law_many_here", "_law_parts", "_law_nest"] ["_law_op", "_law_arg", "_law_stack"] (ZcX Zew) := ⟨rfl, rfl, rfl, by decide +kernel, rfl, by decide +kernel, by decide +kernel⟩
theorem ZdG : Zdf ["_law_script", "_law_made", "_law_stack", "_law_done", "_law_cell", "_law_number", "_law_op", "_law_item_here"] ["_law_script"] (ZcX Zed) := ⟨rfl, rfl, rfl, by decide +kernel, rfl, by decide +kernel, by decide +kernel⟩
theorem ZfA : Zdf ["_law_tree_here", "_law_rows", "_law_place_here"] ["_law_tree_here", "_law_rows"] (ZcX Zee) := ⟨rfl, rfl, rfl, by decide +kernel, rfl, by decide +kernel, by decide +kernel⟩
theorem ZgV : Zdf ["_law_part_here", "_law_rows"] ["_law_part_here", "_law_rows"] (ZcX Zex) := ⟨rfl, rfl, rfl, by decide +kernel, rfl, by decide +kernel, by decide +kernel⟩
theorem Zgt : Zdf ["_law_part_here"] ["_law_part_here"] (ZcX Zef) := ⟨rfl, rfl, rfl, by decide +kernel, rfl, by decide +kernel, by decide +kernel⟩
theorem Zdv : Zdf ["_law_text", "_law_cell", "_law_number", "_law_wide", "_law_sign", "_law_gap"] ["_law_text", "_law_cell"] (ZcX Zd1) := ⟨rfl, rfl, rfl, by decide +kernel, rfl, by decide +kernel, by decide +kernel⟩
theorem ZgW : Zdf ["_law_found", "_law_due"] ["_law_found", "_law_due"] (ZcX Zey) := ⟨rfl, rfl, rfl, by decide +kernel, rfl, by decide +kernel, by decide +kernel⟩
theorem Zif : Zdf ["_law_found", "_law_names", "_law_roots", "_law_rows", "_law_told"] ["_law_found", "_law_names", "_law_roots", "_law_rows"] (ZcX Zfd) := ⟨rfl, rfl, rfl, by decide +kernel, rfl, by decide +kernel, by decide +kernel⟩
theorem Zfw : Zdf ["_law_script", "_law_made", "_law_rows", "_law_roots", "_law_texts", "_law_name_here", "_law_tree_here", "_law_names", "_law_text", "_law_found", "_law_shown", "_law_other", "_law_turned"] ["_law_script"] (ZcX ZhQ) := ⟨rfl, rfl, rfl, by decide +kernel, rfl, by decide +kernel, by decide +kernel⟩
theorem Zf9 : Zdf ["self", "names", "roots", "rows"] ["self", "names", "roots", "rows"] (ZcX Zdx) := ⟨rfl, rfl, rfl, by decide +kernel, rfl, by decide +kernel, by decide +kernel⟩
theorem Zgu : Zdf ["self", "words"] ["self", "words"] (ZcX ZdD) := ⟨rfl, rfl, rfl, by decide +kernel, rfl, by decide +kernel, by decide +kernel⟩
theorem ZhE : Zdf ["self"] ["self"] (ZcX ZdV) := ⟨rfl, rfl, rfl, by decide +kernel, rfl, by decide +kernel, by decide +kernel⟩
theorem Zf1 : Zdf ["self", "word"] ["self"] (ZcX Zd2) := ⟨rfl, rfl, rfl, by decide +kernel, rfl, by decide +kernel, by decide +kernel⟩
theorem Zfe : Zdf ["self", "wanted", "word"] ["self", "wanted"] (ZcX Zdy) := ⟨rfl, rfl, rfl, by decide +kernel, rfl, by decide +kernel, by decide +kernel⟩
theorem Zff : Zdf ["self", "word"] ["self"] (ZcX Zdz) := ⟨rfl, rfl, rfl, by decide +kernel, rfl, by decide +kernel, by decide +kernel⟩
theorem Zez : Zdf ["self", "depth", "place"] ["self", "depth"] (ZcX ZdA) := ⟨rfl, rfl, rfl, by decide +kernel, rfl, by decide +kernel, by decide +kernel⟩
theorem ZeF : Zdf ["self", "depth", "word", "row"] ["self", "depth"] (ZcX ZdE) := ⟨rfl, rfl, rfl, by decide +kernel, rfl, by decide +kernel, by decide +kernel⟩
theorem Zfg : Zdf ["self", "head", "depth", "subject"] ["self", "head", "depth"] (ZcX ZdB) := ⟨rfl, rfl, rfl, by decide +kernel, rfl, by decide +kernel, by decide +kernel⟩
theorem Zeh : Zdf ["self", "parts", "depth", "found", "part"] ["self", "parts", "depth"] (ZcX Zdo) := ⟨rfl, rfl, rfl, by decide +kernel, rfl, by decide +kernel, by decide +kernel⟩
theorem ZeS : Zdf ["self", "depth", "found"] ["self", "depth"] (ZcX Zdp) := ⟨rfl, rfl, rfl, by decide +kernel, rfl, by decide +kernel, by decide +kernel⟩
theorem Zfh : Zdf ["self", "depth", "found"] ["self", "depth"] (ZcX ZdC) := ⟨rfl, rfl, rfl, by decide +kernel, rfl, by decide +kernel, by decide +kernel⟩
theorem ZeT : Zdf ["self", "depth", "found"] ["self", "depth"] (ZcX Zdq) := ⟨rfl, rfl, rfl, by decide +kernel, rfl, by decide +kernel, by decide +kernel⟩
noncomputable def Zjl (K : PySem.W.Frag) : Sp := fun vs H Q _ => ∃ (a : Addr) (ns : List Int), vs = [.ref a] /\ SqL K H a (ns.map V.int) /\ ns.length <= 63 /\ ∀ H', Q (.bl true) H'
end K04.Internal
namespace K04.Internal
open PySem L2.Internal GR.Internal
section
variable {P : Program} {w : World} {K : PySem.W.Frag} {mg : Str -> Option Value} {base : Heap}
noncomputable def ZhF : Sp := fun vs H Q _ => ∃ x : Str, vs = [.str x] /\ x.length <= 30000 /\ ∀ (p : Addr) (H' : Hp), Same H H' -> H p = none -> H' p = some (.lst (Zhu x.cps.toList)) -> Q (.ref p) H'
noncomputable abbrev r1 (x : Str) : Str := Txt.replace x "(" " ( "
noncomputable abbrev r2 (x : Str) : Str := Txt.replace (r1 x) ")" " ) "
noncomputable abbrev r3 (x : Str) : Str := Txt.replace (r2 x) "\n" " "
theorem c1 (x : Str) : (r1 x).cps.toList = T1.sub 40 [32, 40, 32] x.cps.toList := T1.replace_codes x " ( " 40
theorem c2 (x : Str) : (r2 x).cps.toList = T1.sub 41 [32, 41, 32] (T1.sub 40 [32, 40, 32] x.cps.toList) := by
 rw [<- c1]
 exact T1.replace_codes (r1 x) " ) " 41
theorem c3 (x : Str) : (r3 x).cps.toList = T1.spaced x.cps.toList := by
 rw [<- T1.spaced_sub, <- c2]
 exact T1.replace_codes (r2 x) " " 10
theorem ZjY (c : Nat) (z : List Nat) (n : Nat) (h1 : 1 <= n) (h : z.length <= n) (l : List Nat) : (T1.sub c z l).length <= n * l.length := T1.flat_len _ n (fun k => by split; exact h; exact h1) l
theorem l1 (x : Str) : (r1 x).length <= 3 * x.length := by
 rw [<- T1.len_codes, <- T1.len_codes, c1]
 exact ZjY _ _ 3 (by decide) (by decide) _
theorem l2 (x : Str) : (r2 x).length <= 9 * x.length := by
 have h := l1 x
 have e : (r2 x).length <= 3 * (r1 x).length := by
  rw [<- T1.len_codes, <- T1.len_codes, c2, c1]
  exact ZjY _ _ 3 (by decide) (by decide) _
 omega
theorem l3 (x : Str) : (r3 x).length <= 9 * x.length := by
 have h := l2 x
 have e : (r3 x).length <= 1 * (r2 x).length := by
  rw [<- T1.len_codes, <- T1.len_codes]
  have e3 : (r3 x).cps.toList = T1.sub 10 [32] (r2 x).cps.toList := T1.replace_codes (r2 x) " " 10
  rw [e3]
  exact ZjY _ _ 1 (by decide) (by decide) _
 omega
noncomputable def ne0 : V -> Bool := fun v => !decide (v = V.str "")
theorem ZjZ (x : Str) : (((Txt.split (r3 x) " ").map V.str).filter ne0).map id = Zhu x.cps.toList := by
 have e := T1.split_codes (r3 x) 32
 rw [c3] at e
 have e2 : T1.all (T1.W x.cps.toList) = ((Txt.split (r3 x) ⟨#[32]⟩).map (·.cps.toList)).filter fun p => decide (p ≠ []) := by
  rw [e, T1.words_cut]
  rfl
 unfold Zhu
 rw [e2, List.map_id, List.filter_map, List.filter_map, ZaY]
 show ((Txt.split (r3 x) ⟨#[32]⟩).filter (ne0 ∘ V.str)).map V.str = _
 have ef : (ne0 ∘ V.str) = ((fun p => decide (p ≠ [])) ∘ fun (y : Str) => y.cps.toList) := by
  funext y
  show (!decide (V.str y = V.str "")) = decide (y.cps.toList ≠ [])
  by_cases h : y = ("" : Str)
  ·subst h
   rfl
  ·have h1 : ¬ V.str y = V.str "" := fun z => h (by injection z)
   have h2 : y.cps.toList ≠ [] := fun z => h (T1.str_ext z)
   rw [decide_eq_false h1, decide_eq_true h2]
   rfl
 rw [ef]
 refine List.map_congr_left fun y _ => ?_
 show V.str y = V.str ⟨y.cps.toList.toArray⟩
 rw [Array.toArray_toList]
theorem Zj0 (T : Txt K mg) : ZdK P w K mg base CX0 1 T.a_words_of T.fd_words_of ["text"] ZhF := by
 obtain ⟨oc, od, kV, doc, pm, an, cdv, ct, osl, efd, lk, hcd⟩ := T.F_words_of.ex
 rw [efd] at lk ⊢
 refine ZpR lk hcd ZhD (by decide +kernel) (fun n => rfl) (fun vs H Q E h => ?_) (fun A outer s H vs Q E hr h => ?_)
 ·obtain ⟨x, rfl, _⟩ := h
  rfl
 obtain ⟨x, rfl, hx, q⟩ := h
 refine ⟨_, Zpi.nox (Zm6 (i := 1) ZhD.nd rfl (Or.inl rfl) (Ziu (Ziu (Ziu (PE.one (pv 0)) (by decide +kernel)) (by decide +kernel)) (by decide +kernel))
  (ZcW (Zc4 (Zgo rfl (ZnU (x := "word") rfl (by decide +kernel) (by decide +kernel) rfl rfl) (Ze4 (ZeD Zcq PySem.F.slot_str_split PySem.F.type_str_split Zm5 (pv 1) (ZcR Zc0 ZcT))) (fun _ _ _ _ _ => (Zl6 (ZdY Zin (pv 0) Zc0 (Zdk _)))) (fun _ _ _ _ _ => (pv 0)))))), ?_⟩
 have h1 := l1 x
 have h2 := l2 x
 have h3 := l3 x
 have z3 : (" ( " : Str).length = 3 := by decide +kernel
 have z3' : (" ) " : Str).length = 3 := by decide +kernel
 have z1 : (" " : Str).length = 1 := by decide +kernel
 refine ⟨_, rfl, x, rfl, (by rw [z3]; omega), r1 x, rfl, (by rw [z3']; omega), r2 x, rfl, (by rw [z1]; omega), ?_⟩
 refine ⟨_, rfl, rfl, r3 x, " ", rfl, rfl, rfl, (by have e : sizeLine = 16777216 := sizeLine_eq; omega), fun p hp => ⟨p, rfl, ⟨_, SqL.of ZcS⟩, fun D hD => ?_⟩⟩
 have sp : Same H (upd H p (.lst ((Txt.split (r3 x) " ").map V.str))) := ZcV hp _
 have hl := Zhr (r3 x) " "
 refine ZoD (xs := (Txt.split (r3 x) " ").map V.str) ne0 id hD ?_ ?_ ?_ ?_ ?_ ?_ ?_ ?_
 ·rw [Zaq]
  have e : sizeLine = 16777216 := sizeLine_eq
  omega
 ·rfl
 ·intro k H' hs hk
  exact ⟨_, _, SqL.of (hs _ _ ZcS), ZaW hk⟩
 ·intro k H' v H'' hs hv
  obtain ⟨e, z⟩ := hv
  exact ⟨e, z _ (SqL.of (hs _ _ ZcS))⟩
 ·intro H' hs
  exact ⟨_, SqL.of (hs _ _ ZcS), Zbz _⟩
 ·intro k v H' R hv _ r
  obtain ⟨y, rfl⟩ : ∃ y, v = V.str y := by
   rw [Zay] at hv
   obtain ⟨y, _, e⟩ := ZbN.mp hv
   exact ⟨y, e.symm⟩
  exact ⟨_, rfl, rfl, _, rfl, r⟩
 ·intro k v H' R hv _ _ r
  exact ⟨_, rfl, r⟩
 ·intro H' hs hl'
  refine q D H' (sp.trans hs) (sp.free hD) ?_
  rw [hl', ZjZ]
end
section
variable {P : Program} {w : World} {K : PySem.W.Frag} {mg : Str -> Option Value} {base : Heap}
noncomputable def ZgO : Sp := fun vs H Q _ => ∃ x y : Str, vs = [.str x, .str y] /\ x.length <= 30000 /\ ∀ H', Same H H' -> Q (.bl (allIn x y)) H'
theorem Zlr (T : Txt K mg) : ZdK P w K mg base CX0 1 T.a_made_of T.fd_made_of ["word", "signs"] ZgO := by
 refine T.F_made_of.ok Zlq (fun vs H Q E h => ?_) (fun cdv A outer s H vs Q E hr h => ?_)
 ·obtain ⟨x, y, rfl, _⟩ := h
  rfl
 obtain ⟨x, y, rfl, hx, q⟩ := h
 refine ⟨_, (ZcW (Zc4 (Zc3 (ZkC rfl) rfl T.z_all ZnR (ZcR (Zgo rfl (blk1 (x := "sign") (y := "signs") (j := 1) (c0 := s.heap.objs.size + 1) rfl (by decide +kernel) (by decide +kernel) rfl rfl rfl rfl rfl rfl rfl) (Zl5 (pv 0)) (fun _ _ _ _ _ => ZeK) (fun _ _ _ _ _ => (ZgF ZiT (pv 0) (pv 1) rfl))) ZcT)))), ?_⟩
 refine ⟨_, rfl, x, rfl, fun D hD => ?_⟩
 have sl : sizeLine = 16777216 := sizeLine_eq
 have ll := T1.len_codes x
 have sz' : x.cps.size = x.cps.toList.length := (ZcC).symm
 refine ZoD (xs := x.cps.toList.map fun c => V.str ⟨#[c]⟩) (fun _ => true) (fun v => match v with | .str z => .bl (!(Builtin.Str.occurrences y z 0 y.length 1).isEmpty) | _ => .non) hD ?_ ?_ ?_ ?_ ?_ ?_ ?_ ?_
 ·rw [Zaq]
  omega
 ·rfl
 ·intro k H' hs hk
  rw [Zaq] at hk
  show k < x.cps.size
  omega
 ·intro k H' v H'' hs hv
  obtain ⟨e, c, hc, rfl⟩ := hv
  refine ⟨e, ?_⟩
  rw [Zay, ZcE, hc]
  rfl
 ·intro H' hs
  show _ = x.cps.size
  rw [Zaq]
  omega
 ·intro k v H' R hv _ r
  exact r
 ·intro k v H' R hv _ _ r
  rw [Zay] at hv
  obtain ⟨c, _, rfl⟩ := ZbN.mp hv
  exact ⟨_, rfl, _, rfl, _, _, rfl, rfl, r⟩
 ·intro H' hs hl
  refine ⟨D, x.cps.toList.map fun c => decide (c ∈ y.cps.toList), rfl, SqL.of ?_, ?_⟩
  ·rw [hl, List.filter_eq_self.mpr (fun _ _ => rfl), ZaY, ZaY]
   refine congrArg (fun l => some (HO.lst l)) (List.map_congr_left fun c _ => ?_)
   show V.bl _ = V.bl _
   rw [StrLaws.found_one]
  ·have e : (x.cps.toList.map fun c => decide (c ∈ y.cps.toList)).all id = allIn x y := by
    rw [ZaT]
    rfl
   rw [e]
   exact q H' hs
noncomputable def ZfV : Sp := fun vs H Q _ => ∃ x : Str, vs = [.str x] /\ x.length <= 30000 /\ ∀ H', Same H H' -> Q (.bl (isName x)) H'
theorem Zls (T : Txt K mg) (G_made_of : ZdK P w K mg base CX0 1 T.a_made_of T.fd_made_of ["word", "signs"] ZgO) : ZdK P w K mg base CX0 2 T.a_is_name T.fd_is_name ["word"] ZfV := by
 refine T.F_is_name.ok Zlp (fun vs H Q E h => ?_) (fun cdv A outer s H vs Q E hr h => ?_)
 ·obtain ⟨x, rfl, _⟩ := h
  rfl
 obtain ⟨x, rfl, hx, q⟩ := h
 refine ⟨_, (ZcU (ZdF (PW.pt (Zik (Zft (Zio ZjM ZjM ZcZ (Zc3 ZgT rfl T.z_len Zeo (ZcR (pv 0) ZcT)) (Zg1 rfl T.m_MOST_SIGNS))) (ZgR (ZdY Zhn (pv 0) (Zm3 rfl T.m_KEPT_WORDS) rfl))))
   (ZcW (Zc4 Zii))
   Zc6)
  (ZcW (Zc4 (Zkr (ZgF ZiT (ZdR ZlX (pv 0) ZcZ (fun _ _ => rfl)) (Zm2 rfl T.m_LETTERS) rfl) (Zkq (Zc7 G_made_of (hr.mono (by decide)) rfl T.m_made_of T.k_made_of T.b_made_of .nil ZdL (ZcR (pv 0) (ZcR (Zde Zh1 (Zm2 rfl T.m_LETTERS) (Zm2 rfl T.m_FIGURES)) ZcT)))))))), ?_⟩
 have sl : sizeLine = 16777216 := sizeLine_eq
 refine ⟨_, rfl, x, rfl, by omega, _, _, rfl, rfl, _, rfl, ?_⟩
 refine ZqL (fun c1 => ?_) (fun c1 => ?_)
 ·have h1 : 1 <= x.length := by
   have z := of_decide_eq_true c1
   omega
  refine ⟨_, _, rfl, rfl, _, rfl, ?_⟩
  by_cases c2 : x.length <= 12
  ·rw [show decide ((x.length : Int) <= 12) = true from decide_eq_true (by omega)]
   refine Zeq ⟨_, rfl, T.a_KEPT_WORDS, KWV, rfl, .inr (T.q_KEPT_WORDS H), rfl, rfl, _, rfl, ?_⟩
   show if inV (.str x) KWV = true then _ else _
   cases ek : inV (.str x) KWV with
   | true =>
    refine ZeI ?_
    have e : isName x = false := by unfold isName; rw [ek]; simp
    rw [<- e]
    exact q H (Same.refl H)
   | false =>
    refine Zeq ?_
    obtain ⟨c, r, ec⟩ := first_of h1
    refine ⟨_, rfl, x, _, c, rfl, rfl, by omega, by rw [ec]; exact at0, _, _, rfl, rfl, _, rfl, ?_⟩
    have ef : (!(Builtin.Str.occurrences ("abcdefghijklmnopqrstuvwxyz" : Str) ⟨#[c]⟩ 0 ("abcdefghijklmnopqrstuvwxyz" : Str).length 1).isEmpty) = firstIn x SM := by
     rw [StrLaws.found_one]
     unfold firstIn
     rw [ec]
     rfl
    rw [ef]
    cases e1 : firstIn x SM with
    | false =>
     refine Zeq ?_
     have e : isName x = false := by unfold isName; rw [e1]; simp
     rw [<- e]
     exact q H (Same.refl H)
    | true =>
     refine ZeI ⟨_, rfl, _, _, rfl, rfl, ?_, _, _, rfl, ?_, fun H' hs => ?_⟩
     ·exact Zbw (show (26 : Nat) + 10 <= 100 by decide) (sz (Zbz _) |> Zbw (by decide))
     ·omega
     ·have e : isName x = allIn x (SM ++ FG) := by
       unfold isName
       rw [e1, ek, decide_eq_true h1, decide_eq_true c2]
       rfl
      have q' := q H' hs
      rw [e] at q'
      exact q'
  ·rw [show decide ((x.length : Int) <= 12) = false from decide_eq_false (by omega)]
   refine ZeI ?_
   have e : isName x = false := by unfold isName; rw [decide_eq_false c2]; simp
   show if true = true then _ else _
   refine ZeI ?_
   rw [<- e]
   exact q H (Same.refl H)
 ·have h1 : ¬ 1 <= x.length := by
   intro z
   exact c1 (decide_eq_true (by omega))
  refine ⟨_, rfl, ZeI ?_⟩
  show if true = true then _ else _
  refine ZeI ?_
  have e : isName x = false := by unfold isName; rw [decide_eq_false h1]; simp
  rw [<- e]
  exact q H (Same.refl H)
end
section
variable {P : Program} {w : World} {K : PySem.W.Frag} {mg : Str -> Option Value} {base : Heap}
noncomputable def ZfM : Sp := fun vs H Q _ => ∃ x : Str, vs = [.str x] /\ x.length <= 30000 /\ ∀ H', Same H H' -> Q (.bl (Zei x)) H'
theorem Zjm (T : Txt K mg) (G_made_of : ZdK P w K mg base CX0 1 T.a_made_of T.fd_made_of ["word", "signs"] ZgO) : ZdK P w K mg base CX0 2 T.a_is_number T.fd_is_number ["word"] ZfM := by
 refine T.F_is_number.ok Zjk (fun vs H Q E h => ?_) (fun cdv A outer s H vs Q E hr h => ?_)
 ·obtain ⟨x, rfl, _⟩ := h
  rfl
 obtain ⟨x, rfl, hx, q⟩ := h
 refine ⟨_, (ZcU (ZdF (PW.pt (Zik (Zft (Zio ZjM ZjM ZcZ (Zc3 ZgT rfl T.z_len Zeo (ZcR (pv 0) ZcT)) (Zg1 rfl T.m_MOST_FIGURES))) (ZgR (Zft (ZeB (Zc7 G_made_of (hr.mono (by decide)) rfl T.m_made_of T.k_made_of T.b_made_of .nil ZdL (ZcR (pv 0) (ZcR (Zm2 rfl T.m_FIGURES) ZcT))))))))
   (ZcW (Zc4 Zii))
   Zc6)
  (ZcW (Zc4 (ZqT (ZgF Zin (ZdR ZlX (pv 0) ZcZ (fun _ _ => rfl)) Zc0 (Zdk _)) (Zkq (ZgF Zim (pv 0) Zc0 (Zdk _))))))), ?_⟩
 have sl : sizeLine = 16777216 := sizeLine_eq
 refine ⟨_, rfl, x, rfl, by omega, _, _, rfl, rfl, _, rfl, ?_⟩
 refine ZqL (fun c1 => ?_) (fun c1 => ?_)
 ·have h1 : 1 <= x.length := by
   have z := of_decide_eq_true c1
   omega
  refine ⟨_, _, rfl, rfl, _, rfl, ?_⟩
  by_cases c2 : x.length <= 60
  ·rw [show decide ((x.length : Int) <= 60) = true from decide_eq_true (by omega)]
   refine Zeq ⟨_, rfl, x, _, rfl, hx, fun H' hs => ⟨_, rfl, ?_⟩⟩
   show if (!allIn x FG) = true then _ else _
   cases e1 : allIn x FG with
   | false =>
    refine ZeI ?_
    have e : Zei x = false := by unfold Zei; rw [e1]; simp
    rw [<- e]
    exact q H' hs
   | true =>
    refine Zeq ?_
    obtain ⟨c, r, ec⟩ := first_of h1
    refine ⟨_, rfl, x, _, c, rfl, rfl, by omega, by rw [ec]; exact at0, rfl, _, rfl, ?_⟩
    have ef : Zhv x = (c == 48) := by unfold Zhv; rw [ec]
    rw [ZoM, <- ef]
    cases e2 : Zhv x with
    | false =>
     refine ZeI ?_
     have e : Zei x = true := by
      unfold Zei
      rw [e1, e2, decide_eq_true h1, decide_eq_true c2]
      rfl
     rw [<- e]
     exact q H' hs
    | true =>
     refine Zeq ⟨_, rfl, rfl, ?_⟩
     have e : Zei x = decide (V.str x = V.str "0") := by
      unfold Zei
      rw [e1, e2, decide_eq_true h1, decide_eq_true c2]
      by_cases h0 : x = "0"
      ·subst h0
       rfl
      ·have h1 : ¬ V.str x = V.str "0" := fun z => h0 (by injection z)
       rw [decide_eq_false h0, decide_eq_false h1]
       rfl
     rw [<- e]
     exact q H' hs
  ·rw [show decide ((x.length : Int) <= 60) = false from decide_eq_false (by omega)]
   refine ZeI ?_
   have e : Zei x = false := by unfold Zei; rw [decide_eq_false c2]; simp
   show if true = true then _ else _
   refine ZeI ?_
   rw [<- e]
   exact q H (Same.refl H)
 ·have h1 : ¬ 1 <= x.length := by
   intro z
   exact c1 (decide_eq_true (by omega))
  refine ⟨_, rfl, ZeI ?_⟩
  show if true = true then _ else _
  refine ZeI ?_
  have e : Zei x = false := by unfold Zei; rw [decide_eq_false h1]; simp
  rw [<- e]
  exact q H (Same.refl H)
end
section
variable {P : Program} {w : World} {K : PySem.W.Frag} {mg : Str -> Option Value} {base : Heap}
noncomputable def Zfr (C : Addr) : Sp := fun vs H Q _ => ∃ (p dx wl : Addr) (ws : List Str), vs = [.ref p, .ref wl] /\ H p = some (.ins C dx []) /\ H wl = some (.lst (ws.map V.str)) /\ ∀ (rl : Addr) (H' : Hp), H rl = none -> Zgr C H' p dx wl rl ws 0 [] -> (∀ b o, H b = some o -> b ≠ p -> H' b = some o) -> Q .non H'
theorem Zgv (T : Txt K mg) : ZdK P w K mg base CX0 1 T.a_Reader___init__ T.fd_Reader___init__ ["self", "words"] (Zfr T.a_Reader) := by
 refine T.F_Reader___init__.ok Zgu (fun vs H Q E h => ?_) (fun cdv A outer s H vs Q E hr h => ?_)
 ·obtain ⟨p, dx, wl, ws, rfl, _⟩ := h
  rfl
 obtain ⟨p, dx, wl, ws, rfl, hp, hw, k⟩ := h
 refine ⟨_, (ZcU (Zh5 (pv 0) (pv 1) rfl)
  (ZcU (Zh5 (pv 0) ZcZ rfl)
  (ZcW (Zh5 (pv 0) (Zdl ZcT) rfl)))), ?_⟩
 have pw : wl ≠ p := ZfF hw hp (fun z => nomatch z)
 refine ⟨_, rfl, _, rfl, p, T.a_Reader, dx, [], rfl, hp, T.cl_Reader, T.n_Reader_words, (by show 0 < 1000; decide), ?_⟩
 refine ⟨_, rfl, p, T.a_Reader, dx, _, rfl, ZcS, T.cl_Reader, T.n_Reader_taken, (by show 1 < 1000; decide), ?_⟩
 refine ⟨(by show 0 <= sizeLine; decide), fun rl hrl => ?_⟩
 have nrl : p ≠ rl := ZcY ZcS hrl
 rw [Zc1 (Ne.symm nrl), Zc1 (Ne.symm nrl)] at hrl
 refine ⟨_, rfl, p, T.a_Reader, dx, _, rfl, by rw [Zc1 nrl]; exact ZcS, T.cl_Reader, T.n_Reader_rows, (by show 2 < 1000; decide), ?_⟩
 have wrl : wl ≠ rl := ZcY hw hrl
 refine k rl _ hrl ⟨?_, ?_, ?_, wrl⟩ fun b o e hb => ?_
 ·rw [ZcS]
  exact congrArg (fun l => some (HO.ins T.a_Reader dx l)) (Zrj wl 0 rl)
 ·rw [Zc1 pw, Zc1 wrl, Zc1 pw, Zc1 pw]
  exact hw
 ·rw [Zc1 (Ne.symm nrl)]
  exact ZcS
 ·rw [Zc1 hb, Zc1 (ZcY e hrl), Zc1 hb, Zc1 hb]
  exact e
noncomputable def ZdI (C : Addr) : Sp := fun vs H Q _ => ∃ (p dx wl rl : Addr) (ws : List Str) (k : Nat) (rows : List V), vs = [.ref p] /\ Zgr C H p dx wl rl ws k rows /\ WOk ws /\ k <= ws.length /\ Q (.str (ws.getD k "")) H
theorem ZhG (T : Txt K mg) : ZdK P w K mg base CX0 1 T.a_Reader_ahead T.fd_Reader_ahead ["self"] (ZdI T.a_Reader) := by
 refine T.F_Reader_ahead.ok ZhE (fun vs H Q E h => ?_) (fun cdv A outer s H vs Q E hr h => ?_)
 ·obtain ⟨p, dx, wl, rl, ws, k, rows, rfl, _⟩ := h
  rfl
 obtain ⟨p, dx, wl, rl, ws, k, rows, rfl, R, W, hk, q⟩ := h
 refine ⟨_, (ZcU (ZdF (ZdY Zim (Zgl (pv 0) rfl) (Zc3 Zda rfl T.z_len Zeo (ZcR (Zgl (pv 0) rfl) ZcT)) (Zdk _))
   (ZcW (Zc4 Zc0))
   Zc6)
  (ZcW (Zc4 (ZdR ZlW (Zgl (pv 0) rfl) (Zgl (pv 0) rfl) (fun _ _ => rfl))))), ?_⟩
 refine ⟨_, rfl, p, _, dx, _, _, rfl, R.ob, T.cl_Reader, T.n_Reader_taken, Ziz _ _ _, _, rfl, p, _, dx, _, _, rfl, R.ob, T.cl_Reader, T.n_Reader_words, ZkL _ _ _, wl, _, rfl, .inl (SqL.of R.wd), rfl, _, rfl, ZqL (fun c => ?_) (fun c => ?_)⟩
 ·have z := of_decide_eq_true c
  injection z with z
  rw [Zaq] at z
  have e : ws.getD k "" = "" := by
   rw [ZaO, Za6 (by omega)]
   rfl
  rw [e] at q
  exact q
 ·have hlt : k < ws.length := by
   by_cases z : k < ws.length
   ·exact z
   ·refine absurd (decide_eq_true ?_) c
    rw [Zaq]
    exact congrArg V.int (by omega)
  have e : ws.getD k "" = ws[k] := by
   rw [ZaO, ZaW hlt]
   rfl
  rw [e] at q
  refine ⟨_, rfl, p, _, dx, _, _, rfl, R.ob, T.cl_Reader, T.n_Reader_words, ZkL _ _ _, _, rfl, p, _, dx, _, _, rfl, R.ob, T.cl_Reader, T.n_Reader_taken, Ziz _ _ _, wl, _, _, _, rfl, rfl, SqL.of R.wd, Zdi (j := k) (v := .str ws[k]) ?_, q⟩
  rw [Zay, ZaW hlt]
  rfl
noncomputable def Zd4 (C CB : Addr) : Sp := fun vs H Q E => ∃ (p dx wl rl : Addr) (ws : List Str) (k : Nat) (rows : List V), vs = [.ref p] /\ Zgr C H p dx wl rl ws k rows /\ WOk ws /\ k <= ws.length /\
 (∀ x, ws[k]? = some x -> Q (.str x) (upd H p (.ins C dx (fR wl ((k + 1 : Nat) : Int) rl)))) /\ (ws[k]? = none -> E (.ref CB) none H)
theorem ZhS (T : Txt K mg) (G_Reader_ahead : ZdK P w K mg base CX0 1 T.a_Reader_ahead T.fd_Reader_ahead ["self"] (ZdI T.a_Reader)) : ZdK P w K mg base (CXE P w) 2 T.a_Reader_take T.fd_Reader_take ["self"] (Zd4 T.a_Reader T.a_BadText) := by
 refine T.F_Reader_take.okE Zf1 (fun vs H Q E h => ?_) (fun cdv A outer s H vs Q E hr h => ?_)
 ·obtain ⟨p, dx, wl, rl, ws, k, rows, rfl, _⟩ := h
  rfl
 obtain ⟨p, dx, wl, rl, ws, k, rows, rfl, R, W, hk, q, qe⟩ := h
 refine ⟨_, (ZcU (Zc9 (i := 1) Zf1.nd rfl (Or.inl rfl) (ZeC (pv 0) T.cl_Reader T.me_Reader_ahead G_Reader_ahead (hr.mono (by decide)) T.b_Reader_ahead .nil ZdL))
  (ZcU (ZdF (ZdY Zim (pv 1) Zc0 (Zdk _))
   (ZcW (ZeZ rfl Zfx T.x_BadText rfl T.m_BadText (ZcR Zc0 ZcT)))
   Zc6)
  (ZcU (ZlR (pv 0) ZcZ ZpE)
  (ZcW (Zc4 (pv 1)))))), ?_⟩
 refine ⟨_, rfl, p, dx, _, rfl, R.ob, Znh _ _ _ (by decide +kernel) (by decide +kernel) (by decide +kernel), p, dx, wl, rl, ws, k, rows, rfl, R, W, hk, ?_⟩
 refine ⟨_, rfl, rfl, _, rfl, ZqL (fun c => ?_) (fun c => ?_)⟩
 ·refine ⟨(by show 1 <= sizeLine; decide), qe ?_⟩
  cases e : ws[k]? with
  | none => rfl
  | some x =>
   have z := of_decide_eq_true c
   injection z with z
   rw [ZaO, e] at z
   exact absurd z (W.one x (Zaz e)).1
 ·cases e : ws[k]? with
  | none =>
   refine absurd (decide_eq_true (congrArg V.str ?_)) c
   rw [ZaO, e]
   rfl
  | some x =>
   have ex : ws.getD k "" = x := by rw [ZaO, e]; rfl
   rw [ex]
   refine ⟨_, rfl, p, _, dx, _, _, rfl, R.ob, T.cl_Reader, T.n_Reader_taken, Ziz _ _ _, _, _, rfl, rfl, dx, _, R.ob, (by show 3 < 1000; decide), _, rfl, ?_⟩
   have q' := q x e
   rw [<- Zp5 wl (k : Int) _ rl] at q'
   exact q'
noncomputable def ZdO (C CB : Addr) : Sp := fun vs H Q E => ∃ (p dx wl rl : Addr) (ws : List Str) (k : Nat) (rows : List V) (y : Str), vs = [.ref p, .str y] /\ Zgr C H p dx wl rl ws k rows /\ WOk ws /\ k <= ws.length /\ (reprText y).length <= 300002 /\
 (ws[k]? = some y -> Q .non (upd H p (.ins C dx (fR wl ((k + 1 : Nat) : Int) rl)))) /\ (ws[k]? = none -> E (.ref CB) none H) /\ (∀ x, ws[k]? = some x -> x ≠ y -> E (.ref CB) none (upd H p (.ins C dx (fR wl ((k + 1 : Nat) : Int) rl))))
theorem Zga (T : Txt K mg) (G_Reader_take : ZdK P w K mg base (CXE P w) 2 T.a_Reader_take T.fd_Reader_take ["self"] (Zd4 T.a_Reader T.a_BadText)) : ZdK P w K mg base (CXE P w) 3 T.a_Reader_pass_over T.fd_Reader_pass_over ["self", "wanted"] (ZdO T.a_Reader T.a_BadText) := by
 refine T.F_Reader_pass_over.okE Zfe (fun vs H Q E h => ?_) (fun cdv A outer s H vs Q E hr h => ?_)
 ·obtain ⟨p, dx, wl, rl, ws, k, rows, y, rfl, _⟩ := h
  rfl
 obtain ⟨p, dx, wl, rl, ws, k, rows, y, rfl, R, W, hk, hy, q, qe, qx⟩ := h
 refine ⟨_, (ZcU (Zc9 (i := 2) Zfe.nd rfl (Or.inl rfl) (ZeC (pv 0) T.cl_Reader T.me_Reader_take G_Reader_take (hr.mono (by decide)) T.b_Reader_take .nil ZeQ))
  (ZcW (ZdF (ZdY Zin (pv 2) (pv 1) (Zdk _))
   (ZcW (ZeZ rfl Zfx T.x_BadText rfl T.m_BadText (ZcR (Zfy (Zdu (Zi6 (pv 2)) (Zdu Zc0 (Zdu (Zi6 (pv 1)) (Zdu Zc0 Zgp))))) ZcT)))
   Zc6))), ?_⟩
 have sl : sizeLine = 16777216 := sizeLine_eq
 refine ⟨_, rfl, p, dx, _, rfl, R.ob, Znh _ _ _ (by decide +kernel) (by decide +kernel) (by decide +kernel), p, dx, wl, rl, ws, k, rows, rfl, R, W, hk, fun x hx => ?_, qe⟩
 refine ⟨_, rfl, _, rfl, rfl, _, rfl, ?_⟩
 by_cases e : x = y
 ·subst e
  exact Zrc rfl (q hx)
 ·have ne : ¬ V.str x = V.str y := fun z => e (by injection z)
  rw [decide_eq_false ne]
  have hr := Zgs W (Zaz hx)
  refine ZeI ⟨_, rfl, x, rfl, by omega, _, rfl, ?_, _, rfl, ?_, _, rfl, y, rfl, by omega, _, rfl, ?_, _, rfl, ?_, ?_, (by show 1 <= sizeLine; decide), qx x hx e⟩
  ·exact ZqM hr
  ·exact ZoO hr (by decide +kernel)
  ·exact cat3 hr (by decide +kernel) hy
  ·exact ZrV hr (by decide +kernel) hy (by decide +kernel)
  ·exact ZrV hr (by decide +kernel) hy (by decide +kernel)
noncomputable def ZdP (C CB : Addr) : Sp := fun vs H Q E => ∃ (p dx wl rl : Addr) (ws : List Str) (k : Nat) (rows : List V), vs = [.ref p] /\ Zgr C H p dx wl rl ws k rows /\ WOk ws /\ k <= ws.length /\
 (∀ x H', ws[k]? = some x -> isName x = true -> Same (upd H p (.ins C dx (fR wl ((k + 1 : Nat) : Int) rl))) H' -> Q (.str x) H') /\ (ws[k]? = none -> E (.ref CB) none H) /\
 (∀ x H', ws[k]? = some x -> isName x = false -> Same (upd H p (.ins C dx (fR wl ((k + 1 : Nat) : Int) rl))) H' -> E (.ref CB) none H')
theorem Zgb (T : Txt K mg) (G_Reader_take : ZdK P w K mg base (CXE P w) 2 T.a_Reader_take T.fd_Reader_take ["self"] (Zd4 T.a_Reader T.a_BadText)) (G_is_name : ZdK P w K mg base CX0 2 T.a_is_name T.fd_is_name ["word"] ZfV) :
  ZdK P w K mg base (CXE P w) 3 T.a_Reader_take_name T.fd_Reader_take_name ["self"] (ZdP T.a_Reader T.a_BadText) := by
 refine T.F_Reader_take_name.okE Zff (fun vs H Q E h => ?_) (fun cdv A outer s H vs Q E hr h => ?_)
 ·obtain ⟨p, dx, wl, rl, ws, k, rows, rfl, _⟩ := h
  rfl
 obtain ⟨p, dx, wl, rl, ws, k, rows, rfl, R, W, hk, q, qe, qx⟩ := h
 refine ⟨_, (ZcU (Zc9 (i := 1) Zff.nd rfl (Or.inl rfl) (ZeC (pv 0) T.cl_Reader T.me_Reader_take G_Reader_take (hr.mono (by decide)) T.b_Reader_take .nil ZeQ))
  (ZcU (ZdF (Zft (ZeB (Zc7 G_is_name (hr.mono (by decide)) rfl T.m_is_name T.k_is_name T.b_is_name .nil ZdL (ZcR (pv 1) ZcT))))
   (ZcW (ZeZ rfl Zfx T.x_BadText rfl T.m_BadText (ZcR (Zfy (Zdu (Zi6 (pv 1)) (Zdu Zc0 Zgp))) ZcT)))
   Zc6)
  (ZcW (Zc4 (pv 1))))), ?_⟩
 have sl : sizeLine = 16777216 := sizeLine_eq
 refine ⟨_, rfl, p, dx, _, rfl, R.ob, Znh _ _ _ (by decide +kernel) (by decide +kernel) (by decide +kernel), p, dx, wl, rl, ws, k, rows, rfl, R, W, hk, fun x hx => ?_, qe⟩
 have hm := Zaz hx
 refine ⟨_, rfl, x, rfl, (W.one x hm).2.1, fun H' hs => ⟨_, rfl, ?_⟩⟩
 cases e : isName x with
 | true => exact Zeq ⟨_, rfl, q x H' hx e hs⟩
 | false =>
  have hr := Zgs W hm
  refine ZeI ⟨_, rfl, x, rfl, by omega, _, rfl, ?_, _, rfl, ?_, ?_, (by show 1 <= sizeLine; decide), qx x H' hx e hs⟩
  ·exact ZqM hr
  ·exact ZoO hr (by decide +kernel)
  ·exact ZoO hr (by decide +kernel)
end
section
variable {P : Program} {w : World} {K : PySem.W.Frag} {mg : Str -> Option Value} {base : Heap}
section
variable {C CB p dx wl rl : Addr} {H : Hp} {ws rest : List Str} {rows : List Dt} {Q : VK} {E : XK}
theorem Znp (R : RS K C H p dx wl rl ws rest rows) (W : WOk ws) (q : Q (.str (rest.headD "")) H) : ZdI C [.ref p] H Q E := by
 obtain ⟨k, rv, R, h1, h2, h3⟩ := R
 refine ⟨p, dx, wl, rl, ws, k, rv, rfl, R, W, h2, ?_⟩
 have e : ws.getD k "" = rest.headD "" := by
  rw [<- h1, ZaO, Zbm, Zbn]
 rw [e]
 exact q
theorem RS.step1 {k : Nat} {rv : List V} {x : Str} {r : List Str} {H' : Hp} (R : Zgr C H p dx wl rl ws k rv) (h1 : ws.drop k = x :: r) (h3 : Zfl K H rv rows) (s : Same (upd H p (.ins C dx (fR wl ((k + 1 : Nat) : Int) rl))) H') : RS K C H' p dx wl rl ws r rows /\ K2 p rl H H' := by
 obtain ⟨e1, e2, e3⟩ := Ze8 h1
 have kk : K2 p rl H H' := (K2.upd1 (K2.refl p rl H) _).trans (Same.k2 s)
 exact ⟨⟨k + 1, rv, (R.next (k + 1)).same s, e2, by omega, h3.mono fun a xs t => Zgr.tpT R kk t⟩, kk⟩
theorem Zqd (R : RS K C H p dx wl rl ws rest rows) (W : WOk ws) (q : ∀ x r H', rest = x :: r -> RS K C H' p dx wl rl ws r rows -> K2 p rl H H' -> Q (.str x) H') (qe : rest = [] -> E (.ref CB) none H) : Zd4 C CB [.ref p] H Q E := by
 obtain ⟨k, rv, R, h1, h2, h3⟩ := R
 refine ⟨p, dx, wl, rl, ws, k, rv, rfl, R, W, h2, fun x hx => ?_, fun hx => ?_⟩
 ·cases e : rest with
  | nil =>
   rw [e] at h1
   rw [ZiE h1] at hx
   cases hx
  | cons y r =>
   rw [e] at h1
   have ey : y = x := ZbM.inj ((Ze8 h1).1.symm.trans hx)
   subst ey
   obtain ⟨a, b⟩ := RS.step1 R h1 h3 (Same.refl _)
   exact q y r _ e a b
 ·cases e : rest with
  | nil => exact qe e
  | cons y r =>
   rw [e] at h1
   rw [(Ze8 h1).1] at hx
   cases hx
theorem Znq {y : Str} (R : RS K C H p dx wl rl ws rest rows) (W : WOk ws) (hy : (reprText y).length <= 300002) (q : ∀ r H', rest = y :: r -> RS K C H' p dx wl rl ws r rows -> K2 p rl H H' -> Q .non H') (qe : rest.head? ≠ some y -> ∀ H', K2 p rl H H' -> E (.ref CB) none H') : ZdO C CB [.ref p, .str y] H Q E := by
 obtain ⟨k, rv, R, h1, h2, h3⟩ := R
 refine ⟨p, dx, wl, rl, ws, k, rv, y, rfl, R, W, h2, hy, fun hx => ?_, fun hx => ?_, fun x hx ne => ?_⟩
 ·cases e : rest with
  | nil =>
   rw [e] at h1
   rw [ZiE h1] at hx
   cases hx
  | cons z r =>
   rw [e] at h1
   have ey : z = y := ZbM.inj ((Ze8 h1).1.symm.trans hx)
   subst ey
   obtain ⟨a, b⟩ := RS.step1 R h1 h3 (Same.refl _)
   exact q r _ e a b
 ·refine qe (fun z => ?_) H (K2.refl _ _ _)
  rw [<- h1, Zbn, hx] at z
  cases z
 ·refine qe (fun z => ?_) _ (K2.upd1 (K2.refl _ _ _) _)
  rw [<- h1, Zbn, hx] at z
  exact ne (ZbM.inj z)
theorem Zqe (R : RS K C H p dx wl rl ws rest rows) (W : WOk ws) (q : ∀ x r H', rest = x :: r -> isName x = true -> RS K C H' p dx wl rl ws r rows -> K2 p rl H H' -> Q (.str x) H') (qe : (∀ x r, rest = x :: r -> isName x = false) -> ∀ H', K2 p rl H H' -> E (.ref CB) none H') : ZdP C CB [.ref p] H Q E := by
 obtain ⟨k, rv, R, h1, h2, h3⟩ := R
 refine ⟨p, dx, wl, rl, ws, k, rv, rfl, R, W, h2, fun x H' hx hn s => ?_, fun hx => ?_, fun x H' hx hn s => ?_⟩
 ·cases e : rest with
  | nil =>
   rw [e] at h1
   rw [ZiE h1] at hx
   cases hx
  | cons z r =>
   rw [e] at h1
   have ey : z = x := ZbM.inj ((Ze8 h1).1.symm.trans hx)
   subst ey
   obtain ⟨a, b⟩ := RS.step1 R h1 h3 s
   exact q z r _ e hn a b
 ·refine qe (fun x r e => ?_) H (K2.refl _ _ _)
  rw [e] at h1
  rw [(Ze8 h1).1] at hx
  cases hx
 ·refine qe (fun y r e => ?_) H' ((K2.upd1 (K2.refl _ _ _) _).trans (Same.k2 s))
  rw [e] at h1
  have ey : y = x := ZbM.inj ((Ze8 h1).1.symm.trans hx)
  rw [ey]
  exact hn
end
noncomputable def Zd5 (CB : Addr) : Sp := fun vs H Q E => ∃ (x : Str) (n a b : Nat), vs = [.str x, .int n, .int a, .int b] /\ x.length <= 100 /\ n <= 100000 /\ a <= 100 /\ b <= 100 /\ (a <= n /\ n <= b -> Q .non H) /\ (¬ (a <= n /\ n <= b) -> E (.ref CB) none H)
theorem Zgw {n : Nat} (h : n <= 100000) : (n : Int).natAbs.log2 < 1920 /\ (PySem.Str.ofString (toString (n : Int))).length <= 6 := by
 have s70 : (100000 : Int) < 10 ^ 70 := by decide +kernel
 refine ⟨Zp6 (by omega) (by omega), ?_⟩
 have z := (str_fig (n := (n : Int)) (k := 5) (by omega) (by
  have e : (10 : Int) ^ (5 + 1) = 1000000 := by decide +kernel
  rw [e]
  omega)).2.2
 exact z
theorem ZhT (T : Txt K mg) : ZdK P w K mg base (CXE P w) 1 T.a_check_count T.fd_check_count ["what", "count", "least", "most"] (Zd5 T.a_BadText) := by
 refine T.F_check_count.okE ZhR (fun vs H Q E h => ?_) (fun cdv A outer s H vs Q E hr h => ?_)
 ·obtain ⟨x, n, a, b, rfl, _⟩ := h
  rfl
 obtain ⟨x, n, a, b, rfl, hx, hn, ha, hb, q, qe⟩ := h
 refine ⟨_, (ZcW (ZdF (Zft (Zio ZjM ZjM (pv 2) (pv 1) (pv 3)))
   (ZcW (ZeZ rfl Zfx T.x_BadText rfl T.m_BadText (ZcR (Zfy (Zdu (Ziv (pv 1)) (Zdu Zc0 (Zdu (Ziv (pv 0)) (Zdu Zc0 (Zdu (Ziv (pv 2)) (Zdu Zc0 (Zdu (Ziv (pv 3)) (Zdu Zc0 Zgp))))))))) ZcT)))
   Zc6)), ?_⟩
 have sl : sizeLine = 16777216 := sizeLine_eq
 have nn := Zgw hn
 have na := Zgw (show a <= 100000 by omega)
 have nb := Zgw (show b <= 100000 by omega)
 have fail : ¬ (a <= n /\ n <= b) -> ZnW T.a_BadText E (ZmV ((tJ (tFV (Zpg 1)) (tJ (tC (V.str " ")) (tJ (tFV (Zpg 0)) (tJ (tC (V.str ": ")) (tJ (tFV (Zpg 2)) (tJ (tC (V.str " to ")) (tJ (tFV (Zpg 3)) (tJ (tC (V.str " may be")) tJ0)))))))) Str.empty) Zph) { nx := fun _ H' => Q .non H', rt := Q } [some (.str x), some (.int n), some (.int a), some (.int b)] H := fun hz => by
  refine ⟨_, rfl, .inr ⟨_, rfl, nn.1, _, rfl, ?_, _, rfl, ?_, _, rfl, .inl ⟨x, rfl, by omega, _, rfl, ?_, _, rfl, ?_, _, rfl, .inr ⟨_, rfl, na.1, _, rfl, ?_, _, rfl, ?_, _, rfl, .inr ⟨_, rfl, nb.1, _, rfl, ?_, _, rfl, ?_, ?_, (by show 1 <= sizeLine; decide), qe hz⟩⟩⟩⟩⟩
  all_goals
   simp only [Str.length_append]
   have e0 : Str.empty.length = 0 := rfl
   have e1 : (" " : Str).length = 1 := by decide +kernel
   have e2 : (": " : Str).length = 2 := by decide +kernel
   have e3 : (" to " : Str).length = 4 := by decide +kernel
   have e4 : (" may be" : Str).length = 7 := by decide +kernel
   omega
 refine ⟨_, rfl, _, rfl, _, _, rfl, rfl, _, rfl, ?_⟩
 by_cases h1 : a <= n
 ·rw [show decide ((a : Int) <= (n : Int)) = true from decide_eq_true (by omega)]
  refine ZeI ⟨_, rfl, _, _, rfl, rfl, _, rfl, ?_⟩
  by_cases h2 : n <= b
  ·rw [show decide ((n : Int) <= (b : Int)) = true from decide_eq_true (by omega)]
   exact Zeq (q ⟨h1, h2⟩)
  ·rw [show decide ((n : Int) <= (b : Int)) = false from decide_eq_false (by omega)]
   exact ZeI (fail fun z => h2 z.2)
 ·rw [show decide ((a : Int) <= (n : Int)) = false from decide_eq_false (by omega)]
  exact Zeq ⟨_, rfl, ZeI (fail fun z => h1 z.1)⟩
noncomputable def ZoS (K : PySem.W.Frag) (C CB : Addr) (f : Nat) : Sp := fun vs H Q E => ∃ (p dx wl rl : Addr) (ws rest : List Str) (rows : List Dt), vs = [.ref p, .int (25 - (f : Int))] /\ RS K C H p dx wl rl ws rest rows /\ WOk ws /\ rows.length <= 160 /\
 (∀ r rows' H', Zc8 f rest rows = some (r, rows') -> RS K C H' p dx wl rl ws r rows' -> K2 p rl H H' -> Q (.int (rows.length : Int)) H') /\ (Zc8 f rest rows = none -> ∀ H', K2 p rl H H' -> E (.ref CB) none H')
noncomputable def pV (b : Bool) : V := if b then .str "name" else .str "expr"
noncomputable def ZqO (K : PySem.W.Frag) (C CB : Addr) (f : Nat) : Sp := fun vs H Q E => ∃ (p dx wl rl pt : Addr) (ws rest : List Str) (rows : List Dt) (ps : List Bool), vs = [.ref p, .ref pt, .int (25 - (f : Int))] /\ RS K C H p dx wl rl ws rest rows /\ WOk ws /\ rows.length <= 160 /\ SqT K H pt (ps.map pV) /\ ps.length <= 3 /\
 (∀ ds r rows' t H', Zc5 (Zc8 f) ps [] rest rows = some (ds, r, rows') -> RS K C H' p dx wl rl ws r rows' -> K2 p rl H H' -> TAt K H' (.ref t) (.tup ds) -> Q (.ref t) H') /\ (Zc5 (Zc8 f) ps [] rest rows = none -> ∀ H', K2 p rl H H' -> E (.ref CB) none H')
noncomputable def Zpl (K : PySem.W.Frag) (C CB : Addr) (f : Nat) (item : List Str -> List Dt -> Option (Dt × Rs)) (lo hi : Nat) : Sp := fun vs H Q E => ∃ (p dx wl rl : Addr) (ws rest : List Str) (rows : List Dt), vs = [.ref p, .int (25 - (f : Int))] /\ RS K C H p dx wl rl ws rest rows /\ WOk ws /\ rows.length <= 160 /\
 (∀ l r rows' t H', chk lo hi (ZdZ item rest rows []) = some (l, r, rows') -> RS K C H' p dx wl rl ws r rows' -> K2 p rl H H' -> TAt K H' (.ref t) (.tup l) -> Q (.ref t) H') /\ (chk lo hi (ZdZ item rest rows []) = none -> ∀ H', K2 p rl H H' -> E (.ref CB) none H')
end
end K04.Internal
namespace K04.Internal
open PySem L2.Internal GR.Internal
section
variable {P : Program} {w : World} {K : PySem.W.Frag} {mg : Str -> Option Value} {base : Heap}
theorem Zmq (T : Txt K mg) (f : Nat)
  (G_Reader_take_name : ZdK P w K mg base (CXE P w) 3 T.a_Reader_take_name T.fd_Reader_take_name ["self"] (ZdP T.a_Reader T.a_BadText))
  (G_Reader_take_expr : ZdK P w K mg base (CXE P w) (5 * f + 5) T.a_Reader_take_expr T.fd_Reader_take_expr ["self", "depth"] (ZoS K T.a_Reader T.a_BadText f)) :
  ZdK P w K mg base (CXE P w) (5 * f + 6) T.a_Reader_take_steady T.fd_Reader_take_steady ["self", "parts", "depth"] (ZqO K T.a_Reader T.a_BadText f) := by
 refine T.F_Reader_take_steady.okE Zeh (fun vs H Q E h => ?_) (fun cdv A outer s H vs Q E hr h => ?_)
 ·obtain ⟨p, dx, wl, rl, pt, ws, rest, rows, ps, rfl, _⟩ := h
  rfl
 obtain ⟨p, dx, wl, rl, pt, ws, rest, rows, ps, rfl, R, W, hrows, hpt, hps, q, qe⟩ := h
 refine ⟨_, (ZcU (Zc9 (i := 3) Zeh.nd rfl (Or.inl rfl) (Zdl ZcT))
  (ZcU (ZfZ PassesOwn.leaving rfl (Zkv (pv 1)) (ZeW (i := 4) Zeh.nd rfl (Or.inl rfl))
   (ZcW (ZdF (ZdY Zim (pv 4) Zc0 (Zdk _))
    (ZcW (Zdw (ZeD Zcr Zcs Zct Zdr (pv 3) (ZcR (ZeC (pv 0) T.cl_Reader T.me_Reader_take_name G_Reader_take_name (hr.mono (by omega)) T.b_Reader_take_name .nil ZeQ) ZcT))))
    (ZcW (Zdw (ZeD Zcr Zcs Zct Zdr (pv 3) (ZcR (Zem (pv 0) T.cl_Reader T.me_Reader_take_expr G_Reader_take_expr (hr.mono (by omega)) T.b_Reader_take_expr .nil ZeQ (ZcR (pv 2) ZcT)) ZcT)))))))
  (ZcW (Zc4 (Zdm Zdj rfl T.z_tuple ZdJ (ZcR (pv 3) ZcT)))))), ?_⟩
 have sl : sizeLine = 16777216 := sizeLine_eq
 refine ⟨(by show 0 <= sizeLine; decide), fun fl hfl => ?_⟩
 have ep := Zec f
 have R0 := R.same (ZcV hfl (.lst []))
 have fp : fl ≠ p := by
  obtain ⟨k, hk⟩ := R.ob
  exact Ne.symm (ZcY hk hfl)
 have frl : fl ≠ rl := by
  obtain ⟨rv, hk, _⟩ := R.len
  exact Ne.symm (ZcY hk hfl)
 have fwl : fl ≠ wl := by
  obtain ⟨k, rv, R', _⟩ := R
  exact Ne.symm (ZcY R'.wd hfl)
 have hpt0 : SqT K (upd H fl (.lst [])) pt (ps.map pV) := by
  rcases hpt with t | t
  ·refine .inl ?_
   rcases t with t | ⟨o', t⟩
   ·exact .inl (by rw [Zc1 (ZcY t hfl)]; exact t)
   ·exact .inr ⟨o', by rw [Zc1 (ZcY t hfl)]; exact t⟩
  ·exact .inr t
 refine ⟨_, rfl, pt, rfl, ⟨_, hpt0⟩, ZlL (K := K) (a := pt) (xs := ps.map pV) (fun i σ H2 => ∃ (o : Option V) (acc : List Dt) (fv : List V) (rest2 : List Str) (rows2 : List Dt),
   σ = [some (.ref p), some (.ref pt), some (.int (25 - (f : Int))), some (.ref fl), o] /\ SqT K H2 pt (ps.map pV) /\ RS K T.a_Reader H2 p dx wl rl ws rest2 rows2 /\ K2 p rl H H2 /\ H2 fl = some (.lst fv) /\ Zfl K H2 fv acc /\ acc.length = i /\ rows2.length <= 160 /\
   Zc5 (Zc8 f) ps [] rest rows = Zc5 (Zc8 f) (ps.drop i) acc rest2 rows2)
  ⟨none, [], [], rest, rows, rfl, hpt0, R0, Same.k2 (ZcV hfl _), ZcS, .nil, rfl, hrows, rfl⟩ (fun i σ H2 _ ⟨_, _, _, _, _, _, z, _⟩ => z) ?_ ?_⟩
 ·rintro i y σ H2 hi ⟨o, acc, fv, rest2, rows2, rfl, hpt2, R2, k2, hfl2, tf, hacc, hr2, heq⟩
  rw [Zay] at hi
  obtain ⟨b, hb, rfl⟩ := ZbN.mp hi
  have hlt : i < ps.length := (Zai.mp hb).1
  have ed : ps.drop i = b :: ps.drop (i + 1) := by
   rw [Za2 hlt]
   rw [(Zai.mp hb).2]
  rw [ed] at heq
  have lf : fv.length < sizeLine := by rw [tf.length]; omega
  cases b with
  | true =>
   refine ⟨_, rfl, rfl, _, rfl, ?_⟩
   rw [show decide (pV true = V.str "name") = true by decide +kernel]
   obtain ⟨k', hk⟩ := R2.ob
   refine ZeI ⟨_, rfl, .inl ⟨rfl, _, SqL.of hfl2⟩, _, rfl, p, dx, _, rfl, hk, ZdM _ _ _ _ (by simp), ?_⟩
   refine tn0 ?_
   refine Zqe R2 W (fun x r H3 e hn R3 k3 => ?_) (fun hno H3 k3 => ?_)
   ·have h3 : H3 fl = some (.lst fv) := k3 _ _ hfl2 fp frl
    refine ⟨fl, fv, _, rfl, rfl, h3, lf, _, acc ++ [.flat (.str x)], fv ++ [.str x], r, rows2, rfl, Zje h3 (R2.sqt k3 hpt2), R3.other h3 fp fwl frl, Zjf hfl (k2.trans k3), ZcS, ((R2.tats k3 tf).snoc (.flat rfl)).other h3, (by rw [ZaA, hacc]; rfl), hr2, ?_⟩
    rw [heq, e, Zc5, if_pos hn]
   ·refine qe ?_ H3 (k2.trans k3)
    rw [heq]
    cases rest2 with
    | nil => rw [Zc5]
    | cons x r => rw [Zc5, if_neg (by rw [hno x r rfl]; exact Zcw)]
  | false =>
   refine ⟨_, rfl, rfl, _, rfl, ?_⟩
   rw [show decide (pV false = V.str "name") = false by decide +kernel]
   obtain ⟨k', hk⟩ := R2.ob
   refine Zeq ⟨_, rfl, .inl ⟨rfl, _, SqL.of hfl2⟩, _, rfl, p, dx, _, rfl, hk, ZdM _ _ _ _ (by simp), _, rfl, p, dx, wl, rl, ws, rest2, rows2, rfl, R2, W, hr2, fun r rows' H3 e R3 k3 => ?_, fun e H3 k3 => ?_⟩
   ·have h3 : H3 fl = some (.lst fv) := k3 _ _ hfl2 fp frl
    refine ⟨fl, fv, _, rfl, rfl, h3, lf, _, acc ++ [.flat (.int (rows2.length : Int))], fv ++ [.int (rows2.length : Int)], r, rows', rfl, Zje h3 (R2.sqt k3 hpt2), R3.other h3 fp fwl frl, Zjf hfl (k2.trans k3), ZcS, ((R2.tats k3 tf).snoc (.flat rfl)).other h3, (by rw [ZaA, hacc]; rfl), (ep _ _ _ e).1.most hr2, ?_⟩
    rw [heq, Zc5, e]
   ·refine qe ?_ H3 (k2.trans k3)
    rw [heq, Zc5, e]
 ·rintro σ H2 ⟨o, acc, fv, rest2, rows2, rfl, hpt2, R2, k2, hfl2, tf, hacc, hr2, heq⟩
  rw [Zaq, List.drop_length, Zc5] at heq
  refine ⟨_, rfl, fl, fv, rfl, .inl ⟨SqL.of hfl2, fun t ht => ?_⟩⟩
  have s := ZcV ht (.tup fv)
  exact q acc rest2 rows2 t _ heq (R2.same s) (k2.trans (Same.k2 s)) (.tup ZcS (R2.tats (Same.k2 s) tf))
end
end K04.Internal
namespace K04.Internal
open PySem L2.Internal GR.Internal
section
variable {P : Program} {w : World} {K : PySem.W.Frag} {mg : Str -> Option Value} {base : Heap}
theorem Zmr (T : Txt K mg) (f : Nat)
  (G_Reader_ahead : ZdK P w K mg base CX0 1 T.a_Reader_ahead T.fd_Reader_ahead ["self"] (ZdI T.a_Reader))
  (G_Reader_take_steady : ZdK P w K mg base (CXE P w) (5 * f + 6) T.a_Reader_take_steady T.fd_Reader_take_steady ["self", "parts", "depth"] (ZqO K T.a_Reader T.a_BadText f))
  (G_check_count : ZdK P w K mg base (CXE P w) 1 T.a_check_count T.fd_check_count ["what", "count", "least", "most"] (Zd5 T.a_BadText)) :
  ZdK P w K mg base (CXE P w) (5 * f + 7) T.a_Reader_take_fields T.fd_Reader_take_fields ["self", "depth"] (Zpl K T.a_Reader T.a_BadText f (ZdW (Zc8 f) [true, false]) 0 6) := by
 refine T.F_Reader_take_fields.okE ZeS (fun vs H Q E h => ?_) (fun cdv A outer s H vs Q E hr h => ?_)
 ·obtain ⟨p, dx, wl, rl, ws, rest, rows, rfl, _⟩ := h
  rfl
 obtain ⟨p, dx, wl, rl, ws, rest, rows, rfl, R, W, hrows, q, qe⟩ := h
 refine ⟨_, (ZcU (Zc9 (i := 2) ZeS.nd rfl (Or.inl rfl) (Zdl ZcT))
  (ZcU (Zg5 PassesOwn.leaving (ZdY Zin (ZeC (pv 0) T.cl_Reader T.me_Reader_ahead G_Reader_ahead (hr.mono (by omega)) T.b_Reader_ahead .nil ZdL) Zc0 (Zdk _))
   (ZcW (Zdw (ZeD Zcr Zcs Zct Zdr (pv 2) (ZcR (Zem (pv 0) T.cl_Reader T.me_Reader_take_steady G_Reader_take_steady (hr.mono (by omega)) T.b_Reader_take_steady .nil ZeQ (ZcR (Zfn (ZcR Zc0 (ZcR Zc0 ZcT))) (ZcR (pv 1) ZcT))) ZcT)))))
  (ZcU (Zdw (Zc7 G_check_count (hr.mono (by omega)) rfl T.m_check_count T.k_check_count T.b_check_count .nil ZeQ (ZcR Zc0 (ZcR (Zc3 Zda rfl T.z_len Zeo (ZcR (pv 2) ZcT)) (ZcR ZcZ (ZcR (Zg1 rfl T.m_MOST_FIELDS) ZcT))))))
  (ZcW (Zc4 (Zdm Zdj rfl T.z_tuple ZdJ (ZcR (pv 2) ZcT))))))), ?_⟩
 have sl : sizeLine = 16777216 := sizeLine_eq
 refine ⟨(by show 0 <= sizeLine; decide), fun fl hfl => ?_⟩
 have ep := Zec f
 have gi : Zjd (ZdW (Zc8 f) [true, false]) := Zfv ep _ (by simp)
 have R0 := R.same (ZcV hfl (.lst []))
 obtain ⟨fp, frl, fwl⟩ := R.apart hfl
 have hs0 := R.short
 have hs1 := W.len
 refine ⟨fun m σ H2 => ∃ (acc : List Dt) (fv : List V) (rest2 : List Str) (rows2 : List Dt), m = rest2.length /\ σ = [some (.ref p), some (.int (25 - (f : Int))), some (.ref fl)] /\ RS K T.a_Reader H2 p dx wl rl ws rest2 rows2 /\ K2 p rl H H2 /\ H2 fl = some (.lst fv) /\ Zfl K H2 fv acc /\ acc.length + rest2.length <= 30000 /\ rows2.length <= 160 /\
   ZdZ (ZdW (Zc8 f) [true, false]) rest rows [] = ZdZ (ZdW (Zc8 f) [true, false]) rest2 rows2 acc,
  ⟨_, [], [], rest, rows, rfl, rfl, R0, Same.k2 (ZcV hfl _), ZcS, .nil, (by show 0 + _ <= _; omega), hrows, rfl⟩, ?_⟩
 rintro m σ H2 ⟨acc, fv, rest2, rows2, rfl, rfl, R2, k2, hfl2, tf, hlen, hr2, heq⟩
 have tl := tf.length
 have lf : fv.length < sizeLine := by omega
 obtain ⟨k', hk⟩ := R2.ob
 refine ⟨_, rfl, p, dx, _, rfl, hk, ZdM _ _ _ _ (.inl rfl), ?_⟩
 refine tn0 ?_
 refine Znp R2 W ?_
 refine ⟨rfl, _, rfl, ?_⟩
 by_cases hh : rest2.head? = some ")"
 ·have e1 : rest2.headD "" = ")" := by rw [Zbm, hh]; rfl
  rw [e1, show (decide (V.str ")" = V.str ")")) = true by decide +kernel]
  refine Zeq ?_
  rw [Zfz _ _ _ hh] at heq
  refine ⟨_, rfl, fl, fv, rfl, .inl (SqL.of hfl2), "fields", fv.length, 0, 6, rfl, by decide +kernel, by omega, by decide, by decide, fun hc => ?_, fun hc => ?_⟩
  ·refine ⟨_, rfl, fl, fv, rfl, .inl ⟨SqL.of hfl2, fun t ht => ?_⟩⟩
   have s := ZcV ht (.tup fv)
   refine q acc rest2 rows2 t _ ?_ (R2.same s) (k2.trans (Same.k2 s)) (.tup ZcS (R2.tats (Same.k2 s) tf))
   rw [heq, chk, if_pos (by rw [<- tl]; exact hc)]
  ·refine qe ?_ H2 k2
   rw [heq, chk, if_neg (by rw [<- tl]; exact hc)]
 ·have e1 : ¬ V.str (rest2.headD "") = V.str ")" := fun z => by
   injection z with z
   cases rest2 with
   | nil => exact absurd z (by decide +kernel)
   | cons a r => exact hh (congrArg some z)
  rw [decide_eq_false e1]
  have hm := ZgM gi rest2 rows2 acc hh
  refine ZeI ⟨_, fun σ' H' z => z, ?_⟩
  refine ⟨_, rfl, .inl ⟨rfl, _, SqL.of hfl2⟩, _, rfl, p, dx, _, rfl, hk, ZdM _ _ _ _ (by simp), (by show 2 <= sizeLine; decide), fun pt hpt => ?_⟩
  have s3 := ZcV hpt (.tup [.str "name", .str "expr"])
  have R3 := R2.same s3
  refine ⟨_, rfl, p, dx, wl, rl, pt, ws, rest2, rows2, [true, false], rfl, R3, W, hr2, .inl (.inl ZcS), by decide, fun ds r rows' t H4 e R4 k4 ht => ?_, fun e H4 k4 => ?_⟩
  ·have h4 : H4 fl = some (.lst fv) := k4 _ _ (s3 _ _ hfl2) fp frl
   have ei : (ZdW (Zc8 f) [true, false]) rest2 rows2 = some (.tup ds, r, rows') := by rw [ZdW, e]
   obtain ⟨st, lt⟩ := gi _ _ _ _ ei
   refine ⟨fl, fv, _, rfl, rfl, h4, lf, r.length, lt, acc ++ [.tup ds], fv ++ [.ref t], r, rows', rfl, rfl, R4.other h4 fp fwl frl, Zjf hfl (k2.trans ((Same.k2 s3).trans k4)), ZcS, ((R2.tats ((Same.k2 s3).trans k4) tf).snoc ht).other h4, (by rw [ZaA]; have lt' : r.length < rest2.length := lt; show acc.length + 1 + _ <= _; omega), st.most hr2, ?_⟩
   rw [heq, hm, ei]
  ·refine qe ?_ H4 (k2.trans ((Same.k2 s3).trans k4))
   rw [heq, hm, show (ZdW (Zc8 f) [true, false]) rest2 rows2 = none by rw [ZdW, e]]
   rfl
theorem ZoT (T : Txt K mg) (f : Nat)
  (G_Reader_ahead : ZdK P w K mg base CX0 1 T.a_Reader_ahead T.fd_Reader_ahead ["self"] (ZdI T.a_Reader))
  (G_Reader_take_steady : ZdK P w K mg base (CXE P w) (5 * f + 6) T.a_Reader_take_steady T.fd_Reader_take_steady ["self", "parts", "depth"] (ZqO K T.a_Reader T.a_BadText f))
  (G_check_count : ZdK P w K mg base (CXE P w) 1 T.a_check_count T.fd_check_count ["what", "count", "least", "most"] (Zd5 T.a_BadText)) :
  ZdK P w K mg base (CXE P w) (5 * f + 7) T.a_Reader_take_arms T.fd_Reader_take_arms ["self", "depth"] (Zpl K T.a_Reader T.a_BadText f (ZdW (Zc8 f) [true, true, false]) 1 6) := by
 refine T.F_Reader_take_arms.okE Zfh (fun vs H Q E h => ?_) (fun cdv A outer s H vs Q E hr h => ?_)
 ·obtain ⟨p, dx, wl, rl, ws, rest, rows, rfl, _⟩ := h
  rfl
 obtain ⟨p, dx, wl, rl, ws, rest, rows, rfl, R, W, hrows, q, qe⟩ := h
 refine ⟨_, (ZcU (Zc9 (i := 2) Zfh.nd rfl (Or.inl rfl) (Zdl ZcT))
  (ZcU (Zg5 PassesOwn.leaving (ZdY Zin (ZeC (pv 0) T.cl_Reader T.me_Reader_ahead G_Reader_ahead (hr.mono (by omega)) T.b_Reader_ahead .nil ZdL) Zc0 (Zdk _))
   (ZcW (Zdw (ZeD Zcr Zcs Zct Zdr (pv 2) (ZcR (Zem (pv 0) T.cl_Reader T.me_Reader_take_steady G_Reader_take_steady (hr.mono (by omega)) T.b_Reader_take_steady .nil ZeQ (ZcR (Zfn (ZcR Zc0 (ZcR Zc0 (ZcR Zc0 ZcT)))) (ZcR (pv 1) ZcT))) ZcT)))))
  (ZcU (Zdw (Zc7 G_check_count (hr.mono (by omega)) rfl T.m_check_count T.k_check_count T.b_check_count .nil ZeQ (ZcR Zc0 (ZcR (Zc3 Zda rfl T.z_len Zeo (ZcR (pv 2) ZcT)) (ZcR ZcZ (ZcR (Zg1 rfl T.m_MOST_ARMS) ZcT))))))
  (ZcW (Zc4 (Zdm Zdj rfl T.z_tuple ZdJ (ZcR (pv 2) ZcT))))))), ?_⟩
 have sl : sizeLine = 16777216 := sizeLine_eq
 refine ⟨(by show 0 <= sizeLine; decide), fun fl hfl => ?_⟩
 have ep := Zec f
 have gi : Zjd (ZdW (Zc8 f) [true, true, false]) := Zfv ep _ (by simp)
 have R0 := R.same (ZcV hfl (.lst []))
 obtain ⟨fp, frl, fwl⟩ := R.apart hfl
 have hs0 := R.short
 have hs1 := W.len
 refine ⟨fun m σ H2 => ∃ (acc : List Dt) (fv : List V) (rest2 : List Str) (rows2 : List Dt), m = rest2.length /\ σ = [some (.ref p), some (.int (25 - (f : Int))), some (.ref fl)] /\ RS K T.a_Reader H2 p dx wl rl ws rest2 rows2 /\ K2 p rl H H2 /\ H2 fl = some (.lst fv) /\ Zfl K H2 fv acc /\ acc.length + rest2.length <= 30000 /\ rows2.length <= 160 /\
   ZdZ (ZdW (Zc8 f) [true, true, false]) rest rows [] = ZdZ (ZdW (Zc8 f) [true, true, false]) rest2 rows2 acc,
  ⟨_, [], [], rest, rows, rfl, rfl, R0, Same.k2 (ZcV hfl _), ZcS, .nil, (by show 0 + _ <= _; omega), hrows, rfl⟩, ?_⟩
 rintro m σ H2 ⟨acc, fv, rest2, rows2, rfl, rfl, R2, k2, hfl2, tf, hlen, hr2, heq⟩
 have tl := tf.length
 have lf : fv.length < sizeLine := by omega
 obtain ⟨k', hk⟩ := R2.ob
 refine ⟨_, rfl, p, dx, _, rfl, hk, ZdM _ _ _ _ (.inl rfl), ?_⟩
 refine tn0 ?_
 refine Znp R2 W ?_
 refine ⟨rfl, _, rfl, ?_⟩
 by_cases hh : rest2.head? = some ")"
 ·have e1 : rest2.headD "" = ")" := by rw [Zbm, hh]; rfl
  rw [e1, show (decide (V.str ")" = V.str ")")) = true by decide +kernel]
  refine Zeq ?_
  rw [Zfz _ _ _ hh] at heq
  refine ⟨_, rfl, fl, fv, rfl, .inl (SqL.of hfl2), "arms", fv.length, 1, 6, rfl, by decide +kernel, by omega, by decide, by decide, fun hc => ?_, fun hc => ?_⟩
  ·refine ⟨_, rfl, fl, fv, rfl, .inl ⟨SqL.of hfl2, fun t ht => ?_⟩⟩
   have s := ZcV ht (.tup fv)
   refine q acc rest2 rows2 t _ ?_ (R2.same s) (k2.trans (Same.k2 s)) (.tup ZcS (R2.tats (Same.k2 s) tf))
   rw [heq, chk, if_pos (by rw [<- tl]; exact hc)]
  ·refine qe ?_ H2 k2
   rw [heq, chk, if_neg (by rw [<- tl]; exact hc)]
 ·have e1 : ¬ V.str (rest2.headD "") = V.str ")" := fun z => by
   injection z with z
   cases rest2 with
   | nil => exact absurd z (by decide +kernel)
   | cons a r => exact hh (congrArg some z)
  rw [decide_eq_false e1]
  have hm := ZgM gi rest2 rows2 acc hh
  refine ZeI ⟨_, fun σ' H' z => z, ?_⟩
  refine ⟨_, rfl, .inl ⟨rfl, _, SqL.of hfl2⟩, _, rfl, p, dx, _, rfl, hk, ZdM _ _ _ _ (by simp), (by show 3 <= sizeLine; decide), fun pt hpt => ?_⟩
  have s3 := ZcV hpt (.tup [.str "name", .str "name", .str "expr"])
  have R3 := R2.same s3
  refine ⟨_, rfl, p, dx, wl, rl, pt, ws, rest2, rows2, [true, true, false], rfl, R3, W, hr2, .inl (.inl ZcS), by decide, fun ds r rows' t H4 e R4 k4 ht => ?_, fun e H4 k4 => ?_⟩
  ·have h4 : H4 fl = some (.lst fv) := k4 _ _ (s3 _ _ hfl2) fp frl
   have ei : (ZdW (Zc8 f) [true, true, false]) rest2 rows2 = some (.tup ds, r, rows') := by rw [ZdW, e]
   obtain ⟨st, lt⟩ := gi _ _ _ _ ei
   refine ⟨fl, fv, _, rfl, rfl, h4, lf, r.length, lt, acc ++ [.tup ds], fv ++ [.ref t], r, rows', rfl, rfl, R4.other h4 fp fwl frl, Zjf hfl (k2.trans ((Same.k2 s3).trans k4)), ZcS, ((R2.tats ((Same.k2 s3).trans k4) tf).snoc ht).other h4, (by rw [ZaA]; have lt' : r.length < rest2.length := lt; show acc.length + 1 + _ <= _; omega), st.most hr2, ?_⟩
   rw [heq, hm, ei]
  ·refine qe ?_ H4 (k2.trans ((Same.k2 s3).trans k4))
   rw [heq, hm, show (ZdW (Zc8 f) [true, true, false]) rest2 rows2 = none by rw [ZdW, e]]
   rfl
theorem Zms (T : Txt K mg) (f : Nat)
  (G_Reader_ahead : ZdK P w K mg base CX0 1 T.a_Reader_ahead T.fd_Reader_ahead ["self"] (ZdI T.a_Reader))
  (G_Reader_take_expr : ZdK P w K mg base (CXE P w) (5 * f + 5) T.a_Reader_take_expr T.fd_Reader_take_expr ["self", "depth"] (ZoS K T.a_Reader T.a_BadText f))
  (G_check_count : ZdK P w K mg base (CXE P w) 1 T.a_check_count T.fd_check_count ["what", "count", "least", "most"] (Zd5 T.a_BadText)) :
  ZdK P w K mg base (CXE P w) (5 * f + 7) T.a_Reader_take_things T.fd_Reader_take_things ["self", "depth"] (Zpl K T.a_Reader T.a_BadText f (Ze6 (Zc8 f)) 0 8) := by
 refine T.F_Reader_take_things.okE ZeT (fun vs H Q E h => ?_) (fun cdv A outer s H vs Q E hr h => ?_)
 ·obtain ⟨p, dx, wl, rl, ws, rest, rows, rfl, _⟩ := h
  rfl
 obtain ⟨p, dx, wl, rl, ws, rest, rows, rfl, R, W, hrows, q, qe⟩ := h
 refine ⟨_, (ZcU (Zc9 (i := 2) ZeT.nd rfl (Or.inl rfl) (Zdl ZcT))
  (ZcU (Zg5 PassesOwn.leaving (ZdY Zin (ZeC (pv 0) T.cl_Reader T.me_Reader_ahead G_Reader_ahead (hr.mono (by omega)) T.b_Reader_ahead .nil ZdL) Zc0 (Zdk _))
   (ZcW (Zdw (ZeD Zcr Zcs Zct Zdr (pv 2) (ZcR (Zem (pv 0) T.cl_Reader T.me_Reader_take_expr G_Reader_take_expr (hr.mono (by omega)) T.b_Reader_take_expr .nil ZeQ (ZcR (pv 1) ZcT)) ZcT)))))
  (ZcU (Zdw (Zc7 G_check_count (hr.mono (by omega)) rfl T.m_check_count T.k_check_count T.b_check_count .nil ZeQ (ZcR Zc0 (ZcR (Zc3 Zda rfl T.z_len Zeo (ZcR (pv 2) ZcT)) (ZcR ZcZ (ZcR (Zg1 rfl T.m_MOST_THINGS) ZcT))))))
  (ZcW (Zc4 (Zdm Zdj rfl T.z_tuple ZdJ (ZcR (pv 2) ZcT))))))), ?_⟩
 have sl : sizeLine = 16777216 := sizeLine_eq
 refine ⟨(by show 0 <= sizeLine; decide), fun fl hfl => ?_⟩
 have ep := Zec f
 have gi : Zjd (Ze6 (Zc8 f)) := ZgL ep
 have R0 := R.same (ZcV hfl (.lst []))
 obtain ⟨fp, frl, fwl⟩ := R.apart hfl
 have hs0 := R.short
 have hs1 := W.len
 refine ⟨fun m σ H2 => ∃ (acc : List Dt) (fv : List V) (rest2 : List Str) (rows2 : List Dt), m = rest2.length /\ σ = [some (.ref p), some (.int (25 - (f : Int))), some (.ref fl)] /\ RS K T.a_Reader H2 p dx wl rl ws rest2 rows2 /\ K2 p rl H H2 /\ H2 fl = some (.lst fv) /\ Zfl K H2 fv acc /\ acc.length + rest2.length <= 30000 /\ rows2.length <= 160 /\
   ZdZ (Ze6 (Zc8 f)) rest rows [] = ZdZ (Ze6 (Zc8 f)) rest2 rows2 acc,
  ⟨_, [], [], rest, rows, rfl, rfl, R0, Same.k2 (ZcV hfl _), ZcS, .nil, (by show 0 + _ <= _; omega), hrows, rfl⟩, ?_⟩
 rintro m σ H2 ⟨acc, fv, rest2, rows2, rfl, rfl, R2, k2, hfl2, tf, hlen, hr2, heq⟩
 have tl := tf.length
 have lf : fv.length < sizeLine := by omega
 obtain ⟨k', hk⟩ := R2.ob
 refine ⟨_, rfl, p, dx, _, rfl, hk, ZdM _ _ _ _ (.inl rfl), ?_⟩
 refine tn0 ?_
 refine Znp R2 W ?_
 refine ⟨rfl, _, rfl, ?_⟩
 by_cases hh : rest2.head? = some ")"
 ·have e1 : rest2.headD "" = ")" := by rw [Zbm, hh]; rfl
  rw [e1, show (decide (V.str ")" = V.str ")")) = true by decide +kernel]
  refine Zeq ?_
  rw [Zfz _ _ _ hh] at heq
  refine ⟨_, rfl, fl, fv, rfl, .inl (SqL.of hfl2), "things", fv.length, 0, 8, rfl, by decide +kernel, by omega, by decide, by decide, fun hc => ?_, fun hc => ?_⟩
  ·refine ⟨_, rfl, fl, fv, rfl, .inl ⟨SqL.of hfl2, fun t ht => ?_⟩⟩
   have s := ZcV ht (.tup fv)
   refine q acc rest2 rows2 t _ ?_ (R2.same s) (k2.trans (Same.k2 s)) (.tup ZcS (R2.tats (Same.k2 s) tf))
   rw [heq, chk, if_pos (by rw [<- tl]; exact hc)]
  ·refine qe ?_ H2 k2
   rw [heq, chk, if_neg (by rw [<- tl]; exact hc)]
 ·have e1 : ¬ V.str (rest2.headD "") = V.str ")" := fun z => by
   injection z with z
   cases rest2 with
   | nil => exact absurd z (by decide +kernel)
   | cons a r => exact hh (congrArg some z)
  rw [decide_eq_false e1]
  have hm := ZgM gi rest2 rows2 acc hh
  refine ZeI ⟨_, fun σ' H' z => z, ?_⟩
  refine ⟨_, rfl, .inl ⟨rfl, _, SqL.of hfl2⟩, _, rfl, p, dx, _, rfl, hk, ZdM _ _ _ _ (by simp), _, rfl, p, dx, wl, rl, ws, rest2, rows2, rfl, R2, W, hr2, fun r rows' H4 e R4 k4 => ?_, fun e H4 k4 => ?_⟩
  ·have h4 : H4 fl = some (.lst fv) := k4 _ _ hfl2 fp frl
   have ei : (Ze6 (Zc8 f)) rest2 rows2 = some (.flat (.int (rows2.length : Int)), r, rows') := by rw [Ze6, e]
   obtain ⟨st, lt⟩ := gi _ _ _ _ ei
   refine ⟨fl, fv, _, rfl, rfl, h4, lf, r.length, lt, acc ++ [.flat (.int (rows2.length : Int))], fv ++ [.int (rows2.length : Int)], r, rows', rfl, rfl, R4.other h4 fp fwl frl, Zjf hfl (k2.trans k4), ZcS, ((R2.tats k4 tf).snoc (.flat rfl)).other h4, (by rw [ZaA]; have lt' : r.length < rest2.length := lt; show acc.length + 1 + _ <= _; omega), st.most hr2, ?_⟩
   rw [heq, hm, ei]
  ·refine qe ?_ H4 (k2.trans k4)
   rw [heq, hm, show (Ze6 (Zc8 f)) rest2 rows2 = none by rw [Ze6, e]]
   rfl
end
end K04.Internal
namespace K04.Internal
open PySem L2.Internal GR.Internal
structure Dk (P : Program) (w : World) (K : PySem.W.Frag) (mg : Str -> Option Value) where
 a : Addr
 m : mg "STEADY_FORMS" = some (.ref a)
 kvs : List (Key × V)
 kd : Zm7 P w K a kvs
 no : ∀ h, stP h = none -> Zhk kvs (Sum.inr h) = none
 yes : ∀ h ps, stP h = some ps -> ∃ q, Zhk kvs (Sum.inr h) = some (.ref q) /\ ∀ H : Hp, SqT K H q (ps.map pV)
theorem Znr {h : Str} {ps : List Bool} (e : stP h = some ps) : ps ≠ [] /\ ps.length <= 3 := by
 unfold stP at e
 obtain ⟨p, hp, rfl⟩ := ZbN.mp e
 have hm := Zbo hp
 clear hp e
 have z : ∀ p ∈ stT, p.2 ≠ [] /\ p.2.length <= 3 := by decide +kernel
 exact z p hm
section
variable {P : Program} {w : World} {K : PySem.W.Frag} {mg : Str -> Option Value} {base : Heap}
noncomputable def ZrY (K : PySem.W.Frag) (C CB : Addr) (f : Nat) : Sp := fun vs H Q E => ∃ (p dx wl rl : Addr) (ws rest : List Str) (rows : List Dt) (h : Str), vs = [.ref p, .str h, .int (25 - (f : Int))] /\ RS K C H p dx wl rl ws rest rows /\ WOk ws /\ rows.length <= 160 /\ h ∈ ws /\
 (∀ ds r rows' t H', Zd6 (Zc8 f) h rest rows = some (ds, r, rows') -> RS K C H' p dx wl rl ws r rows' -> K2 p rl H H' -> TAt K H' (.ref t) (.tup ds) -> Q (.ref t) H') /\ (Zd6 (Zc8 f) h rest rows = none -> ∀ H', K2 p rl H H' -> E (.ref CB) none H')
theorem ZoU (T : Txt K mg) (D : Dk P w K mg) (f : Nat)
  (G_Reader_take_expr : ZdK P w K mg base (CXE P w) (5 * f + 5) T.a_Reader_take_expr T.fd_Reader_take_expr ["self", "depth"] (ZoS K T.a_Reader T.a_BadText f))
  (G_Reader_take_steady : ZdK P w K mg base (CXE P w) (5 * f + 6) T.a_Reader_take_steady T.fd_Reader_take_steady ["self", "parts", "depth"] (ZqO K T.a_Reader T.a_BadText f))
  (G_Reader_take_fields : ZdK P w K mg base (CXE P w) (5 * f + 7) T.a_Reader_take_fields T.fd_Reader_take_fields ["self", "depth"] (Zpl K T.a_Reader T.a_BadText f (ZdW (Zc8 f) [true, false]) 0 6))
  (G_Reader_take_arms : ZdK P w K mg base (CXE P w) (5 * f + 7) T.a_Reader_take_arms T.fd_Reader_take_arms ["self", "depth"] (Zpl K T.a_Reader T.a_BadText f (ZdW (Zc8 f) [true, true, false]) 1 6))
  (G_Reader_take_things : ZdK P w K mg base (CXE P w) (5 * f + 7) T.a_Reader_take_things T.fd_Reader_take_things ["self", "depth"] (Zpl K T.a_Reader T.a_BadText f (Ze6 (Zc8 f)) 0 8)) :
  ZdK P w K mg base (CXE P w) (5 * f + 8) T.a_Reader_take_form T.fd_Reader_take_form ["self", "head", "depth"] (ZrY K T.a_Reader T.a_BadText f) := by
 refine T.F_Reader_take_form.okE Zfg (fun vs H Q E h => ?_) (fun cdv A outer s H vs Q E hr h => ?_)
 ·obtain ⟨p, dx, wl, rl, ws, rest, rows, h, rfl, _⟩ := h
  rfl
 obtain ⟨p, dx, wl, rl, ws, rest, rows, h, rfl, R, W, hrows, hm, q, qe⟩ := h
 refine ⟨_, (ZcU (ZdF (ZdY Zim (pv 1) Zc0 (Zdk _))
   (ZcW (Zc4 (Zfn (ZcR Zc0 (ZcR (Zem (pv 0) T.cl_Reader T.me_Reader_take_fields G_Reader_take_fields (hr.mono (by omega)) T.b_Reader_take_fields .nil ZeQ (ZcR (pv 2) ZcT)) ZcT)))))
   Zc6)
  (ZcU (ZdF (ZdY Zim (pv 1) Zc0 (Zdk _))
   (ZcU (Zc9 (i := 3) Zfg.nd rfl (Or.inl rfl) (Zem (pv 0) T.cl_Reader T.me_Reader_take_expr G_Reader_take_expr (hr.mono (by omega)) T.b_Reader_take_expr .nil ZeQ (ZcR (pv 2) ZcT)))
   (ZcW (Zc4 (Zfn (ZcR Zc0 (ZcR (pv 3) (ZcR (Zem (pv 0) T.cl_Reader T.me_Reader_take_arms G_Reader_take_arms (hr.mono (by omega)) T.b_Reader_take_arms .nil ZeQ (ZcR (pv 2) ZcT)) ZcT)))))))
   Zc6)
  (ZcU (ZdF (ZdY Zim (pv 1) Zc0 (Zdk _))
   (ZcW (Zc4 (Zfn (ZcR Zc0 (ZcR (Zem (pv 0) T.cl_Reader T.me_Reader_take_things G_Reader_take_things (hr.mono (by omega)) T.b_Reader_take_things .nil ZeQ (ZcR (pv 2) ZcT)) ZcT)))))
   Zc6)
  (ZcU (ZdF (Zpr (Zma D.kd (pv 1) (Zm3 rfl D.m)) rfl)
   (ZcW (ZeZ rfl Zfx T.x_BadText rfl T.m_BadText (ZcR (Zfy (Zdu (Zi6 (pv 1)) (Zdu Zc0 Zgp))) ZcT)))
   Zc6)
  (ZcW (Zc4 (Zde Zox (Zfn (ZcR (pv 1) ZcT)) (Zem (pv 0) T.cl_Reader T.me_Reader_take_steady G_Reader_take_steady (hr.mono (by omega)) T.b_Reader_take_steady .nil ZeQ (ZcR (ZoH D.kd (Zm3 rfl D.m) (pv 1) (fun _ _ => rfl)) (ZcR (pv 2) ZcT)))))))))), ?_⟩
 have sl : sizeLine = 16777216 := sizeLine_eq
 have ep := Zec f
 obtain ⟨k', hk⟩ := R.ob
 refine ⟨_, rfl, rfl, _, rfl, ?_⟩
 by_cases h1 : h = "rec"
 ·subst h1
  rw [show decide (V.str "rec" = V.str "rec") = true by decide +kernel]
  have ef : Zd6 (Zc8 f) "rec" rest rows = match chk 0 6 (ZdZ (ZdW (Zc8 f) [true, false]) rest rows []) with
   | none => none
   | some (l, r) => some ([.flat (.str "rec"), .tup l], r) := by rw [Zd6, if_pos rfl] <;> rfl
  refine ZeI ⟨_, rfl, p, dx, _, rfl, hk, ZdM _ _ _ _ (by simp), _, rfl, p, dx, wl, rl, ws, rest, rows, rfl, R, W, hrows, fun l r rows' t H1 e R1 k1 ht => ?_, fun e H1 k1 => ?_⟩
  ·refine ⟨(by show 2 <= sizeLine; decide), fun u hu => ?_⟩
   have s := ZcV hu (.tup [.str "rec", .ref t])
   refine q _ r rows' u _ (by rw [ef, e]) (R1.same s) (k1.trans (Same.k2 s)) (.tup ZcS (.cons (.flat rfl) (.cons (R1.tat (Same.k2 s) ht) .nil)))
  ·exact qe (by rw [ef, e]) H1 k1
 rw [decide_eq_false (fun z : V.str h = V.str "rec" => h1 (by injection z))]
 refine Zeq ⟨_, rfl, rfl, _, rfl, ?_⟩
 by_cases h2 : h = "case"
 ·subst h2
  rw [show decide (V.str "case" = V.str "case") = true by decide +kernel]
  have ef : Zd6 (Zc8 f) "case" rest rows = match Zc8 f rest rows with
   | none => none
   | some (r1, rows1) => match chk 1 6 (ZdZ (ZdW (Zc8 f) [true, true, false]) r1 rows1 []) with
    | none => none
    | some (l, r) => some ([.flat (.str "case"), .flat (.int (rows.length : Int)), .tup l], r) := by rw [Zd6, if_neg h1, if_pos rfl] <;> rfl
  refine ZeI ⟨_, rfl, p, dx, _, rfl, hk, ZdM _ _ _ _ (by simp), _, rfl, p, dx, wl, rl, ws, rest, rows, rfl, R, W, hrows, fun r1 rows1 H1 e1 R1 k1 => ?_, fun e1 H1 k1 => ?_⟩
  ·obtain ⟨k1', hk1⟩ := R1.ob
   refine ⟨_, rfl, _, rfl, p, dx, _, rfl, hk1, ZdM _ _ _ _ (by simp), _, rfl, p, dx, wl, rl, ws, r1, rows1, rfl, R1, W, (ep _ _ _ e1).1.most hrows, fun l r rows' t H2 e R2 k2 ht => ?_, fun e H2 k2 => ?_⟩
   ·refine ⟨(by show 3 <= sizeLine; decide), fun u hu => ?_⟩
    have s := ZcV hu (.tup [.str "case", .int (rows.length : Int), .ref t])
    refine q _ r rows' u _ (by rw [ef, e1]; show (match chk 1 6 _ with | none => none | some (l, r) => _) = _; rw [e]) (R2.same s) ((k1.trans k2).trans (Same.k2 s)) (.tup ZcS (.cons (.flat rfl) (.cons (.flat rfl) (.cons (R2.tat (Same.k2 s) ht) .nil))))
   ·exact qe (by rw [ef, e1]; show (match chk 1 6 _ with | none => none | some (l, r) => _) = _; rw [e]) H2 (k1.trans k2)
  ·exact qe (by rw [ef, e1]) H1 k1
 rw [decide_eq_false (fun z : V.str h = V.str "case" => h2 (by injection z))]
 refine Zeq ⟨_, rfl, rfl, _, rfl, ?_⟩
 by_cases h3 : h = "row"
 ·subst h3
  rw [show decide (V.str "row" = V.str "row") = true by decide +kernel]
  have ef : Zd6 (Zc8 f) "row" rest rows = match chk 0 8 (ZdZ (Ze6 (Zc8 f)) rest rows []) with
   | none => none
   | some (l, r) => some ([.flat (.str "row"), .tup l], r) := by rw [Zd6, if_neg h1, if_neg h2, if_pos rfl] <;> rfl
  refine ZeI ⟨_, rfl, p, dx, _, rfl, hk, ZdM _ _ _ _ (by simp), _, rfl, p, dx, wl, rl, ws, rest, rows, rfl, R, W, hrows, fun l r rows' t H1 e R1 k1 ht => ?_, fun e H1 k1 => ?_⟩
  ·refine ⟨(by show 2 <= sizeLine; decide), fun u hu => ?_⟩
   have s := ZcV hu (.tup [.str "row", .ref t])
   refine q _ r rows' u _ (by rw [ef, e]) (R1.same s) (k1.trans (Same.k2 s)) (.tup ZcS (.cons (.flat rfl) (.cons (R1.tat (Same.k2 s) ht) .nil)))
  ·exact qe (by rw [ef, e]) H1 k1
 rw [decide_eq_false (fun z : V.str h = V.str "row" => h3 (by injection z))]
 have ef : Zd6 (Zc8 f) h rest rows = match stP h with
  | none => none
  | some ps => match Zc5 (Zc8 f) ps [] rest rows with
   | none => none
   | some (ds, r) => some (.flat (.str h) :: ds, r) := by rw [Zd6, if_neg h1, if_neg h2, if_neg h3] <;> rfl
 refine Zeq ⟨_, rfl, Sum.inr h, rfl, rfl, _, rfl, ?_⟩
 cases e4 : stP h with
 | none =>
  rw [D.no h e4]
  have hrp := Zgs W hm
  refine ZeI ⟨_, rfl, h, rfl, by omega, _, rfl, ZqM hrp, _, rfl, ZoO hrp (by decide +kernel), ZoO hrp (by decide +kernel), (by show 1 <= sizeLine; decide), qe (by rw [ef, e4]) H (K2.refl _ _ _)⟩
 | some ps =>
  obtain ⟨dq, ev, hq⟩ := D.yes h ps e4
  obtain ⟨ne, le⟩ := Znr e4
  rw [ev]
  refine Zeq ⟨_, rfl, (by show 1 <= sizeLine; decide), fun t1 ht1 => ?_⟩
  have s1 := ZcV ht1 (.tup [.str h])
  have R1 := R.same s1
  obtain ⟨k1', hk1⟩ := R1.ob
  refine ⟨_, rfl, p, dx, _, rfl, hk1, ZdM _ _ _ _ (by simp), _, rfl, Sum.inr h, _, rfl, rfl, ev, _, rfl, p, dx, wl, rl, dq, ws, rest, rows, ps, rfl, R1, W, hrows, hq _, le, fun ds r rows' t H2 e R2 k2 ht => ?_, fun e H2 k2 => ?_⟩
  ·cases ht with
   | tup hsq hts =>
    rename_i xs
    have l1 := (Ze7 ep _ _ _ _ _ _ e).2.2
    have l2 := hts.length
    have hne : xs ≠ [] := fun z => by
     rw [z] at l2
     rw [<- l2] at l1
     have : ps.length = 0 := by simpa using l1.symm
     exact ne (Zbb.mp this)
    have ht2 : SqT K H2 t1 [.str h] := R1.sqt k2 (.inl (.inl ZcS))
    refine ⟨t1, t, [.str h], xs, rfl, rfl, ht2, .inl (.inl hsq), (fun z => nomatch z), (by
     have : ([] : List Dt).length = 0 := rfl
     show 1 + xs.length <= _
     omega), fun z => absurd z hne, fun _ u hu => ?_⟩
    have s := ZcV hu (.tup ([.str h] ++ xs))
    refine q _ r rows' u _ (by rw [ef, e4]; show (match Zc5 _ _ _ _ _ with | none => none | some (ds, r) => _) = _; rw [e]) (R2.same s) (((Same.k2 s1).trans k2).trans (Same.k2 s)) (.tup ZcS (.cons (.flat rfl) (R2.tats (Same.k2 s) hts)))
  ·exact qe (by rw [ef, e4]; show (match Zc5 _ _ _ _ _ with | none => none | some (ds, r) => _) = _; rw [e]) H2 ((Same.k2 s1).trans k2)
end
end K04.Internal
namespace K04.Internal
open PySem L2.Internal GR.Internal
theorem Zns : (reprText ")").length <= 300002 := by decide +kernel
section
variable {P : Program} {w : World} {K : PySem.W.Frag} {mg : Str -> Option Value} {base : Heap}
noncomputable def ZrZ (K : PySem.W.Frag) (C CB : Addr) (f : Nat) : Sp := fun vs H Q E => ∃ (p dx wl rl : Addr) (ws rest : List Str) (rows : List Dt), vs = [.ref p, .int (25 - ((f + 1 : Nat) : Int))] /\ RS K C H p dx wl rl ws rest rows /\ WOk ws /\ rows.length <= 160 /\
 (∀ ds r rows' t H', Zie (Zc8 f) rest rows = some (ds, r, rows') -> RS K C H' p dx wl rl ws r rows' -> K2 p rl H H' -> TAt K H' (.ref t) (.tup ds) -> Q (.ref t) H') /\ (Zie (Zc8 f) rest rows = none -> ∀ H', K2 p rl H H' -> E (.ref CB) none H')
theorem Zqf (T : Txt K mg) (f : Nat)
  (G_Reader_take : ZdK P w K mg base (CXE P w) 2 T.a_Reader_take T.fd_Reader_take ["self"] (Zd4 T.a_Reader T.a_BadText))
  (G_Reader_pass_over : ZdK P w K mg base (CXE P w) 3 T.a_Reader_pass_over T.fd_Reader_pass_over ["self", "wanted"] (ZdO T.a_Reader T.a_BadText))
  (G_is_name : ZdK P w K mg base CX0 2 T.a_is_name T.fd_is_name ["word"] ZfV)
  (G_is_number : ZdK P w K mg base CX0 2 T.a_is_number T.fd_is_number ["word"] ZfM)
  (G_Reader_take_form : ZdK P w K mg base (CXE P w) (5 * f + 8) T.a_Reader_take_form T.fd_Reader_take_form ["self", "head", "depth"] (ZrY K T.a_Reader T.a_BadText f)) :
  ZdK P w K mg base (CXE P w) (5 * f + 9) T.a_Reader_take_row T.fd_Reader_take_row ["self", "depth"] (ZrZ K T.a_Reader T.a_BadText f) := by
 refine T.F_Reader_take_row.okE ZeF (fun vs H Q E h => ?_) (fun cdv A outer s H vs Q E hr h => ?_)
 ·obtain ⟨p, dx, wl, rl, ws, rest, rows, rfl, _⟩ := h
  rfl
 obtain ⟨p, dx, wl, rl, ws, rest, rows, rfl, R, W, hrows, q, qe⟩ := h
 refine ⟨_, (ZcU (Zc9 (i := 2) ZeF.nd rfl (Or.inl rfl) (ZeC (pv 0) T.cl_Reader T.me_Reader_take G_Reader_take (hr.mono (by omega)) T.b_Reader_take .nil ZeQ))
  (ZcU (ZdF (ZeB (Zc7 G_is_number (hr.mono (by omega)) rfl T.m_is_number T.k_is_number T.b_is_number .nil ZdL (ZcR (pv 2) ZcT)))
   (ZcW (Zc4 (Zfn (ZcR Zc0 (ZcR (Zdm Zi7 rfl T.z_int ZnT (ZcR (pv 2) ZcT)) ZcT)))))
   Zc6)
  (ZcU (ZdF (ZeB (Zc7 G_is_name (hr.mono (by omega)) rfl T.m_is_name T.k_is_name T.b_is_name .nil ZdL (ZcR (pv 2) ZcT)))
   (ZcW (Zc4 (Zfn (ZcR Zc0 (ZcR (pv 2) ZcT)))))
   Zc6)
  (ZcU (ZdF (ZdY Zin (pv 2) Zc0 (Zdk _))
   (ZcW (ZeZ rfl Zfx T.x_BadText rfl T.m_BadText (ZcR (Zfy (Zdu (Zi6 (pv 2)) (Zdu Zc0 Zgp))) ZcT)))
   Zc6)
  (ZcU (Zc9 (i := 3) ZeF.nd rfl (Or.inl rfl) (Zem (pv 0) T.cl_Reader T.me_Reader_take_form G_Reader_take_form (hr.mono (by omega)) T.b_Reader_take_form .nil ZeQ (ZcR (ZeC (pv 0) T.cl_Reader T.me_Reader_take G_Reader_take (hr.mono (by omega)) T.b_Reader_take .nil ZeQ) (ZcR (Zde ZnN (pv 1) ZcZ) ZcT))))
  (ZcU (Zdw (Zem (pv 0) T.cl_Reader T.me_Reader_pass_over G_Reader_pass_over (hr.mono (by omega)) T.b_Reader_pass_over .nil ZeQ (ZcR Zc0 ZcT)))
  (ZcW (Zc4 (pv 3))))))))), ?_⟩
 have sl : sizeLine = 16777216 := sizeLine_eq
 obtain ⟨k', hk⟩ := R.ob
 refine ⟨_, rfl, p, dx, _, rfl, hk, ZdM _ _ _ _ (by simp), ?_⟩
 refine tn0 ?_
 refine Zqd R W (fun x r H1 e R1 k1 => ?_) (fun e => qe (by rw [e]; rfl) H (K2.refl _ _ _))
 have hx : x ∈ ws := R.mem x (by rw [e]; exact Zad ..)
 have xl := (W.one x hx).2.1
 refine ⟨_, rfl, x, rfl, xl, fun H2 s2 => ⟨_, rfl, ?_⟩⟩
 have R2 := R1.same s2
 have k2 := k1.trans (Same.k2 (p := p) (q := rl) s2)
 cases e1 : Zei x with
 | true =>
  obtain ⟨n1, n2, n3⟩ := Zhw e1
  refine ZeI ⟨_, rfl, x, Zjc x, rfl, Zln n1 (by omega) n3, by omega, (by show 2 <= sizeLine; decide), fun t ht => ?_⟩
  have s := ZcV ht (.tup [.str "num", .int (Zjc x)])
  exact q _ r rows t _ (by rw [e]; exact ZjS e1) (R2.same s) (k2.trans (Same.k2 s)) (.tup ZcS (.cons (.flat rfl) (.cons (.flat rfl) .nil)))
 | false =>
  have f1 : ¬ Zei x = true := by rw [e1]; exact Zcw
  refine Zeq ⟨_, rfl, x, rfl, xl, fun H3 s3 => ⟨_, rfl, ?_⟩⟩
  have R3 := R2.same s3
  have k3 := k2.trans (Same.k2 (p := p) (q := rl) s3)
  cases e2 : isName x with
  | true =>
   refine ZeI ⟨_, rfl, (by show 2 <= sizeLine; decide), fun t ht => ?_⟩
   have s := ZcV ht (.tup [.str "name", .str x])
   exact q _ r rows t _ (by rw [e]; exact ZiD f1 e2) (R3.same s) (k3.trans (Same.k2 s)) (.tup ZcS (.cons (.flat rfl) (.cons (.flat rfl) .nil)))
  | false =>
   have f2 : ¬ isName x = true := by rw [e2]; exact Zcw
   refine Zeq ⟨_, rfl, rfl, _, rfl, ?_⟩
   by_cases h3 : x = "("
   ·rw [decide_eq_true (congrArg V.str h3)]
    obtain ⟨k3', hk3⟩ := R3.ob
    refine Zeq ⟨_, rfl, p, dx, _, rfl, hk3, ZdM _ _ _ _ (by simp), _, rfl, p, dx, _, rfl, hk3, ZdM _ _ _ _ (by simp), ?_⟩
    refine tn0 ?_
    refine Zqd R3 W (fun h r2 H4 e4 R4 k4 => ?_) (fun e4 => qe (by rw [e, e4]; exact Zni f1 f2 h3) H3 k3)
    have hh : h ∈ ws := R3.mem h (by rw [e4]; exact Zad ..)
    have er' : Zie (Zc8 f) rest rows = ZfJ (Zd6 (Zc8 f) h r2 rows) := by rw [e, e4]; exact ZjT f1 f2 h3
    refine ⟨_, rfl, _, _, rfl, rfl, p, dx, wl, rl, ws, r2, rows, h, (by
     show [V.ref p, V.str h, V.int (25 - ((f + 1 : Nat) : Int) + 1)] = _
     rw [show (25 - ((f + 1 : Nat) : Int) + 1) = 25 - (f : Int) by omega]), R4, W, hrows, hh, fun ds r3 rows' t H5 e5 R5 k5 ht => ?_, fun e5 H5 k5 => ?_⟩
    ·obtain ⟨k5', hk5⟩ := R5.ob
     refine ⟨_, rfl, p, dx, _, rfl, hk5, ZdM _ _ _ _ (by simp), ?_⟩
     refine tc1 ?_
     refine Znq R5 W Zns (fun r4 H6 e6 R6 k6 => ?_) (fun ne H6 k6 => ?_)
     ·refine ⟨_, rfl, q ds r4 rows' t H6 ?_ R6 (((k3.trans k4).trans k5).trans k6) (R5.tat k6 ht)⟩
      rw [er', e5, e6]
      unfold ZfJ
      exact if_pos rfl
     ·refine qe ?_ H6 (((k3.trans k4).trans k5).trans k6)
      rw [er', e5]
      unfold ZfJ
      cases r3 with
      | nil => rfl
      | cons y r4 =>
       refine if_neg fun z => ne ?_
       rw [z]
       rfl
    ·exact qe (by rw [er', e5]; rfl) H5 ((k3.trans k4).trans k5)
   ·rw [decide_eq_false (fun z : V.str x = V.str "(" => h3 (by injection z))]
    have hrp := Zgs W hx
    refine ZeI ⟨_, rfl, x, rfl, by omega, _, rfl, ZqM hrp, _, rfl, ZoO hrp (by decide +kernel), ZoO hrp (by decide +kernel), (by show 1 <= sizeLine; decide), qe ?_ H3 k3⟩
    rw [e]
    exact Zp7 f1 f2 h3
theorem Znt (T : Txt K mg) : ZdK P w K mg base (CXE P w) 5 T.a_Reader_take_expr T.fd_Reader_take_expr ["self", "depth"] (ZoS K T.a_Reader T.a_BadText 0) := by
 refine T.F_Reader_take_expr.okE Zez (fun vs H Q E h => ?_) (fun cdv A outer s H vs Q E hr h => ?_)
 ·obtain ⟨p, dx, wl, rl, ws, rest, rows, rfl, _⟩ := h
  rfl
 obtain ⟨p, dx, wl, rl, ws, rest, rows, rfl, R, W, hrows, q, qe⟩ := h
 refine ⟨_, (ZcU (ZdF (ZdY Zoo (pv 1) (Zg1 rfl T.m_MOST_NEST) (Zdk _))
   (ZcW (ZeZ rfl Zfx T.x_BadText rfl T.m_BadText (ZcR (Zfy (Zdu Zc0 (Zdu (Ziv (Zg1 rfl T.m_MOST_NEST)) Zgp))) ZcT)))
   Zc6)
  ZlF), ?_⟩
 have sl : sizeLine = 16777216 := sizeLine_eq
 have nn := Zgw (show 24 <= 100000 by decide)
 refine ⟨_, rfl, _, _, rfl, rfl, _, rfl, ZeI ?_⟩
 refine ⟨_, rfl, ?_, .inr ⟨_, rfl, nn.1, _, rfl, ?_, ?_, (by show 1 <= sizeLine; decide), qe rfl H (K2.refl _ _ _)⟩⟩
 all_goals
  simp only [Str.length_append]
  have e0 : Str.empty.length = 0 := rfl
  have e1 : ("a nest above " : Str).length = 13 := by decide +kernel
  have e2 : (PySem.Str.ofString (toString (24 : Int))).length <= 6 := nn.2
  try omega
theorem Znu (T : Txt K mg) (f : Nat)
  (G_Reader_take_row : ZdK P w K mg base (CXE P w) (5 * f + 9) T.a_Reader_take_row T.fd_Reader_take_row ["self", "depth"] (ZrZ K T.a_Reader T.a_BadText f)) :
  ZdK P w K mg base (CXE P w) (5 * (f + 1) + 5) T.a_Reader_take_expr T.fd_Reader_take_expr ["self", "depth"] (ZoS K T.a_Reader T.a_BadText (f + 1)) := by
 refine T.F_Reader_take_expr.okE (k := 5 * f + 9) Zez (fun vs H Q E h => ?_) (fun cdv A outer s H vs Q E hr h => ?_)
 ·obtain ⟨p, dx, wl, rl, ws, rest, rows, rfl, _⟩ := h
  rfl
 obtain ⟨p, dx, wl, rl, ws, rest, rows, rfl, R, W, hrows, q, qe⟩ := h
 refine ⟨_, (ZcU (ZdF (ZdY Zoo (pv 1) (Zg1 rfl T.m_MOST_NEST) (Zdk _))
   (ZcW (ZeZ rfl Zfx T.x_BadText rfl T.m_BadText (ZcR (Zfy (Zdu Zc0 (Zdu (Ziv (Zg1 rfl T.m_MOST_NEST)) Zgp))) ZcT)))
   Zc6)
  (ZcU (Zc9 (i := 2) Zez.nd rfl (Or.inl rfl) (Zc3 Zda rfl T.z_len Zeo (ZcR (Zgl (pv 0) rfl) ZcT)))
  (ZcU (ZdF (ZdY Zim (pv 2) (Zg1 rfl T.m_MOST_PLACES) (Zdk _))
   (ZcW (ZeZ rfl Zfx T.x_BadText rfl T.m_BadText (ZcR (Zfy (Zdu Zc0 (Zdu (Ziv (Zg1 rfl T.m_MOST_PLACES)) (Zdu Zc0 Zgp)))) ZcT)))
   Zc6)
  (ZcU (Zdw (ZeD Zcr Zcs Zct Zdr (Zgl (pv 0) rfl) (ZcR ZnK ZcT)))
  (ZcU (Zkt (Zem (pv 0) T.cl_Reader T.me_Reader_take_row G_Reader_take_row (hr.mono (by omega)) T.b_Reader_take_row .nil ZeQ (ZcR (pv 1) ZcT)) (Zks (Zgl (pv 0) rfl) (pv 2) Zg7))
  (ZcW (Zc4 (pv 2)))))))), ?_⟩
 have sl : sizeLine = 16777216 := sizeLine_eq
 have nn := Zgw (show 160 <= 100000 by decide)
 obtain ⟨k, rv, R', h1, h2, h3⟩ := R
 have tl := h3.length
 refine ⟨_, rfl, _, _, rfl, rfl, _, rfl, ?_⟩
 rw [decide_eq_false (by omega)]
 refine Zeq ⟨_, rfl, p, _, dx, _, _, rfl, R'.ob, T.cl_Reader, T.n_Reader_rows, ZiA _ _ _, rl, _, rfl, .inl (SqL.of R'.rw), ?_⟩
 refine ⟨_, rfl, rfl, _, rfl, ?_⟩
 by_cases h160 : rows.length = 160
 ·rw [decide_eq_true (show V.int ((rv.length : Nat) : Int) = V.int 160 by rw [tl, h160]; rfl)]
  refine ZeI ⟨_, rfl, ?_, .inr ⟨_, rfl, nn.1, _, rfl, ?_, _, rfl, ?_, ?_, (by show 1 <= sizeLine; decide), qe (by rw [Zc8, if_pos h160]) H (K2.refl _ _ _)⟩⟩
  all_goals
   simp only [Str.length_append]
   have e0 : Str.empty.length = 0 := rfl
   have e1 : ("more than " : Str).length = 10 := by decide +kernel
   have e3 : (" places" : Str).length = 7 := by decide +kernel
   have e2 : (PySem.Str.ofString (toString (160 : Int))).length <= 6 := nn.2
   try omega
 ·rw [decide_eq_false (show ¬ V.int ((rv.length : Nat) : Int) = V.int 160 from fun z => by injection z with z; omega)]
  refine Zeq ⟨_, rfl, p, _, dx, _, _, rfl, R'.ob, T.cl_Reader, T.n_Reader_rows, ZiA _ _ _, .inl ⟨rfl, _, SqL.of R'.rw⟩, rl, _, _, rfl, rfl, R'.rw, by omega, ?_⟩
  have npr := R'.ne2
  have nwr := R'.ne
  have R1' : Zgr T.a_Reader (upd H rl (.lst (rv ++ [.non]))) p dx wl rl ws k (rv ++ [.non]) := ⟨by rw [Zc1 npr]; exact R'.ob, by rw [Zc1 nwr]; exact R'.wd, ZcS, nwr⟩
  have R1 : RS K T.a_Reader (upd H rl (.lst (rv ++ [.non]))) p dx wl rl ws rest (rows ++ [.flat .non]) := ⟨k, _, R1', h1, h2, (h3.snoc (.flat rfl)).other R'.rw⟩
  have k1 : K2 p rl H (upd H rl (.lst (rv ++ [.non]))) := (K2.refl p rl H).upd2 _
  have lr : (rows ++ [Dt.flat .non]).length = rows.length + 1 := by rw [ZaA]; rfl
  refine ⟨_, rfl, p, dx, _, rfl, R1'.ob, ZdM _ _ _ _ (by simp), _, rfl, p, dx, wl, rl, ws, rest, _, rfl, R1, W, by omega, fun ds r rows' t H2 e R2 k2 ht => ?_, fun e H2 k2 => ?_⟩
  ·have up := (ZkM (Zec f) e).1.up
   obtain ⟨kk, rv2, R2', g1, g2, g3⟩ := R2
   have tl2 := g3.length
   have lt : rows.length < rv2.length := by
    have up' : (rows ++ [Dt.flat .non]).length <= rows'.length := up
    omega
   refine ⟨_, rfl, p, _, dx, _, _, rfl, R2'.ob, T.cl_Reader, T.n_Reader_rows, ZiA _ _ _, _, rfl, rl, _, _, rv.length, rfl, rfl, R2'.rw, ZoN (by omega), ?_⟩
   refine ⟨_, rfl, ?_⟩
   rw [tl]
   refine q r (rows'.set rows.length (.tup ds)) _ ?_ ⟨kk, _, ⟨?_, ?_, ZcS, nwr⟩, g1, g2, (Zfl.set _ g3 ht).other R2'.rw⟩ ((k1.trans k2).upd2 _)
   ·rw [Zc8, if_neg h160, e]
   ·rw [Zc1 npr]
    exact R2'.ob
   ·rw [Zc1 nwr]
    exact R2'.wd
  ·refine qe ?_ H2 (k1.trans k2)
   rw [Zc8, if_neg h160, e]
theorem Zmt (T : Txt K mg) (D : Dk P w K mg)
  (G_Reader_ahead : ZdK P w K mg base CX0 1 T.a_Reader_ahead T.fd_Reader_ahead ["self"] (ZdI T.a_Reader))
  (G_Reader_take : ZdK P w K mg base (CXE P w) 2 T.a_Reader_take T.fd_Reader_take ["self"] (Zd4 T.a_Reader T.a_BadText))
  (G_Reader_pass_over : ZdK P w K mg base (CXE P w) 3 T.a_Reader_pass_over T.fd_Reader_pass_over ["self", "wanted"] (ZdO T.a_Reader T.a_BadText))
  (G_Reader_take_name : ZdK P w K mg base (CXE P w) 3 T.a_Reader_take_name T.fd_Reader_take_name ["self"] (ZdP T.a_Reader T.a_BadText))
  (G_is_name : ZdK P w K mg base CX0 2 T.a_is_name T.fd_is_name ["word"] ZfV)
  (G_is_number : ZdK P w K mg base CX0 2 T.a_is_number T.fd_is_number ["word"] ZfM)
  (G_check_count : ZdK P w K mg base (CXE P w) 1 T.a_check_count T.fd_check_count ["what", "count", "least", "most"] (Zd5 T.a_BadText)) :
  ∀ f, ZdK P w K mg base (CXE P w) (5 * f + 5) T.a_Reader_take_expr T.fd_Reader_take_expr ["self", "depth"] (ZoS K T.a_Reader T.a_BadText f)
 | 0 => Znt T
 | f + 1 => by
  have g := Zmt T D G_Reader_ahead G_Reader_take G_Reader_pass_over G_Reader_take_name G_is_name G_is_number G_check_count f
  have gs := Zmq T f G_Reader_take_name g
  exact Znu T f (Zqf T f G_Reader_take G_Reader_pass_over G_is_name G_is_number
   (ZoU T D f g gs (Zmr T f G_Reader_ahead gs G_check_count) (ZoT T f G_Reader_ahead gs G_check_count) (Zms T f G_Reader_ahead g G_check_count)))
end
end K04.Internal
namespace K04.Internal
open PySem L2.Internal GR.Internal
theorem Znv : (reprText "(").length <= 300002 /\ (reprText "def").length <= 300002 /\ (reprText ")").length <= 300002 := by decide +kernel
section
variable {P : Program} {w : World} {K : PySem.W.Frag} {mg : Str -> Option Value} {base : Heap}
noncomputable def Zfi (C : Addr) : Sp := fun vs H Q _ => ∃ (p dx a b c : Addr), vs = [.ref p, .ref a, .ref b, .ref c] /\ H p = some (.ins C dx []) /\ ∀ H', H' p = some (.ins C dx (fP a b c)) -> (∀ z o, H z = some o -> z ≠ p -> H' z = some o) -> Q .non H'
theorem Zfj (T : Txt K mg) : ZdK P w K mg base CX0 1 T.a_Program___init__ T.fd_Program___init__ ["self", "names", "roots", "rows"] (Zfi T.a_Program) := by
 refine T.F_Program___init__.ok Zf9 (fun vs H Q E h => ?_) (fun cdv A outer s H vs Q E hr h => ?_)
 ·obtain ⟨p, dx, a, b, c, rfl, _⟩ := h
  rfl
 obtain ⟨p, dx, a, b, c, rfl, hp, k⟩ := h
 refine ⟨_, (ZcU (Zh5 (pv 0) (pv 1) rfl)
  (ZcU (Zh5 (pv 0) (pv 2) rfl)
  (ZcW (Zh5 (pv 0) (pv 3) rfl)))), ?_⟩
 refine ⟨_, rfl, _, rfl, p, T.a_Program, dx, [], rfl, hp, T.cl_Program, T.n_Program_names, (by show 0 < 1000; decide), ?_⟩
 refine ⟨_, rfl, _, rfl, p, T.a_Program, dx, _, rfl, ZcS, T.cl_Program, T.n_Program_roots, (by show 1 < 1000; decide), ?_⟩
 refine ⟨_, rfl, _, rfl, p, T.a_Program, dx, _, rfl, ZcS, T.cl_Program, T.n_Program_rows, (by show 2 < 1000; decide), ?_⟩
 refine k _ ?_ fun z o e hz => ?_
 ·rw [ZcS]
  exact congrArg (fun l => some (HO.ins T.a_Program dx l)) (Zrk a b c)
 ·rw [Zc1 hz, Zc1 hz, Zc1 hz]
  exact e
structure PrAt (C : Addr) (H : Hp) (g : Addr) (nl tl rl : Addr) (names roots rows : List V) : Prop where
 ob : ∃ dx, H g = some (.ins C dx (fP nl tl rl))
 nm : H nl = some (.lst names)
 rt : H tl = some (.lst roots)
 rw : H rl = some (.lst rows)
 n1 : nl ≠ tl
 n2 : nl ≠ rl
 n3 : tl ≠ rl
noncomputable def Zmu (K : PySem.W.Frag) (C CB : Addr) : Sp := fun vs H Q E => ∃ (x : Str) (ws : List Str), vs = [.str x] /\ x.length <= 30000 /\ Zhu x.cps.toList = ws.map V.str /\ WOk ws /\
 (∀ names roots rows g nl tl rl rtv rwv H', ZfY ws = some (names, roots, rows) -> Same H H' -> H nl = none -> H tl = none -> H rl = none -> PrAt C H' g nl tl rl (names.map V.str) rtv rwv -> Zfl K H' rtv roots -> Zfl K H' rwv rows -> Q (.ref g) H') /\ (ZfY ws = none -> ∀ H', Same H H' -> E (.ref CB) none H')
theorem ZgP {p rl : Addr} {H H1 H2 : Hp} (np : H p = none) (nr : H rl = none) (s : Same H H1) (k : K2 p rl H1 H2) : Same H H2 := fun b o e => k b o (s b o e) (ZcY e np) (ZcY e nr)
theorem ZoV (T : Txt K mg) (G_words_of : ZdK P w K mg base CX0 1 T.a_words_of T.fd_words_of ["text"] ZhF) (G_Reader___init__ : ZdK P w K mg base CX0 1 T.a_Reader___init__ T.fd_Reader___init__ ["self", "words"] (Zfr T.a_Reader))
  (G_Reader_ahead : ZdK P w K mg base CX0 1 T.a_Reader_ahead T.fd_Reader_ahead ["self"] (ZdI T.a_Reader))
  (G_Reader_pass_over : ZdK P w K mg base (CXE P w) 3 T.a_Reader_pass_over T.fd_Reader_pass_over ["self", "wanted"] (ZdO T.a_Reader T.a_BadText))
  (G_Reader_take_name : ZdK P w K mg base (CXE P w) 3 T.a_Reader_take_name T.fd_Reader_take_name ["self"] (ZdP T.a_Reader T.a_BadText))
  (G_Reader_take_expr : ZdK P w K mg base (CXE P w) (5 * 24 + 5) T.a_Reader_take_expr T.fd_Reader_take_expr ["self", "depth"] (ZoS K T.a_Reader T.a_BadText 24))
  (G_check_count : ZdK P w K mg base (CXE P w) 1 T.a_check_count T.fd_check_count ["what", "count", "least", "most"] (Zd5 T.a_BadText))
  (G_Program___init__ : ZdK P w K mg base CX0 1 T.a_Program___init__ T.fd_Program___init__ ["self", "names", "roots", "rows"] (Zfi T.a_Program)) :
  ZdK P w K mg base (CXE P w) 126 T.a_read T.fd_read ["text"] (Zmu K T.a_Program T.a_BadText) := by
 refine T.F_read.okE ZiG (fun vs H Q E h => ?_) (fun cdv A outer s H vs Q E hr h => ?_)
 ·obtain ⟨x, ws, rfl, _⟩ := h
  rfl
 obtain ⟨x, ws, rfl, hx, hw, W, q, qe⟩ := h
 refine ⟨_, (ZcU (Zc9 (i := 1) ZiG.nd rfl (Or.inl rfl) (ZjO T.mk_Reader G_Reader___init__ (hr.mono (by omega)) rfl T.m_Reader T.b_Reader___init__ .nil ZdL (ZcR (Zc7 G_words_of (hr.mono (by omega)) rfl T.m_words_of T.k_words_of T.b_words_of .nil ZdL (ZcR (pv 0) ZcT)) ZcT)))
  (ZcU (Zc9 (i := 2) ZiG.nd rfl (Or.inl rfl) (Zdl ZcT))
  (ZcU (Zc9 (i := 3) ZiG.nd rfl (Or.inl rfl) (Zdl ZcT))
  (ZcU (Zg5 PassesOwn.leaving (ZdY Zin (ZeC (pv 1) T.cl_Reader T.me_Reader_ahead G_Reader_ahead (hr.mono (by omega)) T.b_Reader_ahead .nil ZdL) Zc0 (Zdk _))
   (ZcU (Zdw (Zem (pv 1) T.cl_Reader T.me_Reader_pass_over G_Reader_pass_over (hr.mono (by omega)) T.b_Reader_pass_over .nil ZeQ (ZcR Zc0 ZcT)))
   (ZcU (Zdw (Zem (pv 1) T.cl_Reader T.me_Reader_pass_over G_Reader_pass_over (hr.mono (by omega)) T.b_Reader_pass_over .nil ZeQ (ZcR Zc0 ZcT)))
   (ZcU (Zdw (ZeD Zcr Zcs Zct Zdr (pv 2) (ZcR (ZeC (pv 1) T.cl_Reader T.me_Reader_take_name G_Reader_take_name (hr.mono (by omega)) T.b_Reader_take_name .nil ZeQ) ZcT)))
   (ZcU (Zdw (ZeD Zcr Zcs Zct Zdr (pv 3) (ZcR (Zem (pv 1) T.cl_Reader T.me_Reader_take_expr G_Reader_take_expr (hr.mono (by omega)) T.b_Reader_take_expr .nil ZeQ (ZcR ZcZ ZcT)) ZcT)))
   (ZcW (Zdw (Zem (pv 1) T.cl_Reader T.me_Reader_pass_over G_Reader_pass_over (hr.mono (by omega)) T.b_Reader_pass_over .nil ZeQ (ZcR Zc0 ZcT)))))))))
  (ZcU (Zdw (Zc7 G_check_count (hr.mono (by omega)) rfl T.m_check_count T.k_check_count T.b_check_count .nil ZeQ (ZcR Zc0 (ZcR (Zc3 Zda rfl T.z_len Zeo (ZcR (pv 2) ZcT)) (ZcR ZcZ (ZcR (Zg1 rfl T.m_MOST_DEFINITIONS) ZcT))))))
  (ZcW (Zc4 (ZjO T.mk_Program G_Program___init__ (hr.mono (by omega)) rfl T.m_Program T.b_Program___init__ .nil ZdL (ZcR (pv 2) (ZcR (pv 3) (ZcR (Zgl (pv 1) rfl) ZcT))))))))))), ?_⟩
 have sl : sizeLine = 16777216 := sizeLine_eq
 obtain ⟨rp1, rp2, rp3⟩ := Znv
 refine ⟨_, rfl, x, rfl, hx, fun wl H1 s1 nwl hwl p dx np ndx nex => ?_⟩
 rw [hw] at hwl
 have wp : wl ≠ p := ZcY hwl np
 have wdx : wl ≠ dx := ZcY hwl ndx
 refine ⟨p, dx, wl, ws, rfl, ZcS, by rw [Zc1 wp, Zc1 wdx]; exact hwl, fun rl H2 nrl R2 keep => ⟨rfl, ?_⟩⟩
 have np0 : H p = none := s1.free np
 have S1 : Same H (upd (upd H1 dx (.own p)) p (.ins T.a_Reader dx [])) := ZiB _ np0 (ZiB _ (s1.free ndx) s1)
 have nr0 : H rl = none := S1.free nrl
 have S2 : Same H H2 := fun b o e => keep b o (S1 b o e) (ZcY e np0)
 refine ⟨(by show 0 <= sizeLine; decide), fun nl hnl => ⟨(by show 0 <= sizeLine; decide), fun tl htl => ?_⟩⟩
 have nn0 : H nl = none := S2.free hnl
 have S3 : Same H (upd H2 nl (.lst [])) := S2.trans (ZcV hnl _)
 have nt0 : H tl = none := S3.free htl
 have S4 : Same H (upd (upd H2 nl (.lst [])) tl (.lst [])) := S3.trans (ZcV htl _)
 have R4' := (R2.same (ZcV hnl (.lst []))).same (ZcV htl (.lst []))
 have R4 : RS K T.a_Reader (upd (upd H2 nl (.lst [])) tl (.lst [])) p dx wl rl ws ws [] := ⟨0, [], R4', rfl, ZbA _, .nil⟩
 have ntn : nl ≠ tl := ZcY ZcS htl
 have hN4 : upd (upd H2 nl (.lst [])) tl (.lst []) nl = some (.lst []) := by rw [Zc1 ntn]; exact ZcS
 have hT4 : upd (upd H2 nl (.lst [])) tl (.lst []) tl = some (.lst []) := ZcS
 have pn : nl ≠ p := Ne.symm (ZcY R2.ob hnl)
 have rn : nl ≠ rl := Ne.symm (ZcY R2.rw hnl)
 have pt : tl ≠ p := Ne.symm (ZcY (R2.same (ZcV hnl (.lst []))).ob htl)
 have rt : tl ≠ rl := Ne.symm (ZcY (R2.same (ZcV hnl (.lst []))).rw htl)
 have wn : nl ≠ wl := Ne.symm (ZcY R2.wd hnl)
 have wt : tl ≠ wl := Ne.symm (ZcY (R2.same (ZcV hnl (.lst []))).wd htl)
 have wlen := W.len
 have ra : ZfY ws = match Zep ws [] [] [] with
  | none => none
  | some (n, r, rows) => if 1 <= n.length /\ n.length <= 12 then some (n, r, rows) else none := by rw [ZfY] <;> rfl
 generalize hH4 : upd (upd H2 nl (.lst [])) tl (.lst []) = H4 at R4 S4 hN4 hT4
 refine ⟨fun m σ H5 => ∃ (names : List Str) (roots : List Dt) (rtv : List V) (rest : List Str) (rows : List Dt), m = rest.length /\ σ = [some (.str x), some (.ref p), some (.ref nl), some (.ref tl)] /\ RS K T.a_Reader H5 p dx wl rl ws rest rows /\ Same H H5 /\ H5 nl = some (.lst (names.map V.str)) /\ H5 tl = some (.lst rtv) /\ Zfl K H5 rtv roots /\ names.length + rest.length <= 30000 /\ roots.length = names.length /\ rows.length <= 160 /\ Zep ws [] [] [] = Zep rest rows names roots,
  ⟨_, [], [], [], ws, [], rfl, rfl, R4, S4, hN4, hT4, .nil, (by show 0 + _ <= _; omega), rfl, ZbA _, rfl⟩, ?_⟩
 rintro m σ H5 ⟨names, roots, rtv, rest, rows, rfl, rfl, R5, S5, hN5, hT5, ht5, hlen, hlr, hrows, heq⟩
 obtain ⟨k5, hk5⟩ := R5.ob
 have lroot := ht5.length
 refine ⟨_, rfl, p, dx, _, rfl, hk5, ZdM _ _ _ _ (.inl rfl), ?_⟩
 refine tn0 ?_
 refine Znp R5 W ?_
 refine ⟨rfl, _, rfl, ?_⟩
 by_cases hnil : rest = []
 ·subst hnil
  rw [show decide (V.str (([] : List Str).headD "") = V.str "") = true by decide +kernel]
  rw [defs_nil] at heq
  rw [heq] at ra
  have ra' : ZfY ws = if 1 <= names.length /\ names.length <= 12 then some (names, roots, rows) else none := ra
  have lm : (names.map V.str).length = names.length := Zaq ..
  refine Zeq ⟨_, rfl, nl, _, rfl, .inl (SqL.of hN5), "definitions", (names.map V.str).length, 1, 12, rfl, by decide +kernel, by omega, by decide, by decide, fun hc => ?_, fun hc => ?_⟩
  ·rw [lm] at hc
   rw [if_pos hc] at ra'
   refine ⟨_, rfl, _, rfl, _, rfl, p, _, dx, _, _, rfl, hk5, T.cl_Reader, T.n_Reader_rows, ZiA _ _ _, fun g dg ng ndg neg => ?_⟩
   refine ⟨g, dg, nl, tl, rl, rfl, ZcS, fun H6 hg keep6 => ⟨rfl, ?_⟩⟩
   have k6 : Same H5 H6 := fun b o e => keep6 b o (by rw [Zc1 (ZcY e ng), Zc1 (ZcY e ndg)]; exact e) (ZcY e ng)
   obtain ⟨k, rv, R5', h1, h2, h3⟩ := R5
   have kk : K2 p rl H5 H6 := Same.k2 k6
   exact q names roots rows g nl tl rl rtv rv H6 ra' (S5.trans k6) nn0 nt0 nr0 ⟨⟨dg, hg⟩, k6 _ _ hN5, k6 _ _ hT5, k6 _ _ R5'.rw, ntn, rn, rt⟩ (ht5.mono fun a xs t => Zgr.tpT R5' kk t) (h3.mono fun a xs t => Zgr.tpT R5' kk t)
  ·rw [lm] at hc
   rw [if_neg hc] at ra'
   exact qe ra' H5 S5
 ·have e1 : ¬ V.str (rest.headD "") = V.str "" := fun z => by
   injection z with z
   cases rest with
   | nil => exact hnil rfl
   | cons a r => exact (W.one a (R5.mem a (Zad ..))).1 z
  rw [decide_eq_false e1]
  have fail : ∀ {H' : Hp}, Zep rest rows names roots = none -> K2 p rl H5 H' -> E (.ref T.a_BadText) none H' := fun {H'} z k => by
   refine qe ?_ H' (ZgP np0 nr0 S5 k)
   rw [ra, heq, z]
  refine ZeI ⟨_, fun σ' H' z => z, ?_⟩
  refine ⟨_, rfl, p, dx, _, rfl, hk5, ZdM _ _ _ _ (by simp), ?_⟩
  refine tc1 ?_
  refine Znq R5 W rp1 (fun r1 H6 e6 R6 k6 => ?_) (fun ne H6 k6 => fail (Znj hnil ne) k6)
  subst e6
  obtain ⟨k6', hk6⟩ := R6.ob
  refine ⟨_, rfl, p, dx, _, rfl, hk6, ZdM _ _ _ _ (by simp), ?_⟩
  refine tc1 ?_
  refine Znq R6 W rp2 (fun r2 H7 e7 R7 k7 => ?_) (fun ne H7 k7 => fail (Znk ne) (k6.trans k7))
  subst e7
  have kk7 := k6.trans k7
  have hN7 : H7 nl = some (.lst (names.map V.str)) := kk7 _ _ hN5 pn rn
  obtain ⟨k7', hk7⟩ := R7.ob
  refine ⟨_, rfl, .inl ⟨rfl, _, SqL.of hN7⟩, _, rfl, p, dx, _, rfl, hk7, ZdM _ _ _ _ (by simp), ?_⟩
  refine tn0 ?_
  refine Zqe R7 W (fun c r3 H8 e8 hc R8 k8 => ?_) (fun hno H8 k8 => fail (Znl hno) (kk7.trans k8))
  subst e8
  have kk8 := kk7.trans k8
  have hN8 : H8 nl = some (.lst (names.map V.str)) := kk8 _ _ hN5 pn rn
  have hT8 : H8 tl = some (.lst rtv) := kk8 _ _ hT5 pt rt
  simp only [Zan] at hlen
  refine ⟨nl, _, _, rfl, rfl, hN8, (by rw [Zaq]; omega), ?_⟩
  have R9 := R8.other (o := .lst (names.map V.str ++ [.str c])) hN8 pn wn rn
  have S8 := ZgP np0 nr0 S5 kk8
  have S9 : Same H (upd H8 nl (.lst (names.map V.str ++ [.str c]))) := ZiB _ nn0 S8
  have hT9 : upd H8 nl (.lst (names.map V.str ++ [.str c])) tl = some (.lst rtv) := by rw [Zc1 (Ne.symm ntn)]; exact hT8
  have ht9 := (R5.tats kk8 ht5).other (o := .lst (names.map V.str ++ [.str c])) hN8
  obtain ⟨k9', hk9⟩ := R9.ob
  refine ⟨_, rfl, .inl ⟨rfl, _, SqL.of hT9⟩, _, rfl, p, dx, _, rfl, hk9, ZdM _ _ _ _ (by simp), ?_⟩
  refine tc1 ?_
  refine ⟨p, dx, wl, rl, ws, r3, rows, rfl, R9, W, hrows, fun r4 rows4 H10 e10 R10 k10 => ?_, fun e10 H10 k10 => ?_⟩
  ·have hN10 : H10 nl = some (.lst (names.map V.str ++ [.str c])) := k10 _ _ ZcS pn rn
   have hT10 : H10 tl = some (.lst rtv) := k10 _ _ hT9 pt rt
   have S10 := ZgP np0 nr0 S9 k10
   obtain ⟨st, lt, _⟩ := Zec 24 _ _ _ e10
   refine ⟨tl, _, _, rfl, rfl, hT10, (by omega), ?_⟩
   have R11 := R10.other (o := .lst (rtv ++ [.int (rows.length : Int)])) hT10 pt wt rt
   have ht11 := ((R9.tats k10 ht9).snoc (.flat (v := .int (rows.length : Int)) rfl)).other (o := .lst (rtv ++ [.int (rows.length : Int)])) hT10
   have hN11 : upd H10 tl (.lst (rtv ++ [.int (rows.length : Int)])) nl = some (.lst (names.map V.str ++ [.str c])) := by rw [Zc1 ntn]; exact hN10
   have S11 : Same H (upd H10 tl (.lst (rtv ++ [.int (rows.length : Int)]))) := ZiB _ nt0 S10
   obtain ⟨k11', hk11⟩ := R11.ob
   refine ⟨_, rfl, p, dx, _, rfl, hk11, ZdM _ _ _ _ (by simp), ?_⟩
   refine tc1 ?_
   refine Znq R11 W rp3 (fun r5 H12 e12 R12 k12 => ?_) (fun ne H12 k12 => ?_)
   ·subst e12
    have lt' : r5.length + 1 < r3.length := lt
    refine ⟨r5.length, (by simp only [Zan]; omega), names ++ [c], roots ++ [.flat (.int (rows.length : Int))], _, r5, rows4, rfl, rfl, R12, ZgP np0 nr0 S11 k12, ?_, k12 _ _ ZcS pt rt, R11.tats k12 ht11, ?_, ?_, st.most hrows, ?_⟩
    ·rw [ZaQ]
     exact k12 _ _ hN11 pn rn
    ·rw [ZaA]
     show names.length + 1 + _ <= _
     omega
    ·rw [ZaA, ZaA, hlr]
     rfl
    ·rw [heq, defs_yes hc e10]
   ·refine qe ?_ H12 (ZgP np0 nr0 S11 k12)
    rw [ra, heq, Znn hc e10 ne]
  ·refine qe ?_ H10 (ZgP np0 nr0 S9 k10)
   rw [ra, heq, Znm hc e10]
end
end K04.Internal
namespace K04.Internal
open PySem L2.Internal BO.Internal
seal L2.Internal.PE L2.Internal.PA L2.Internal.PS L2.Internal.PSs L2.Internal.PT L2.Internal.PI
open TM.Internal GR.Internal in
theorem ZoW : ∀ w ∈ (["def", "fn", "call", "let", "rec", "get", "tag", "case", "row", "at", "join", "size", "add", "sub", "less"] : List Str), isName (w ++ "0") = true := by decide +kernel
theorem Ze0 {H H2 : Hp} {l : Addr} (s : Same H H2) (h : H l = none) (o : HO) : Same H (upd H2 l o) := fun b u e => by rw [Zc1 (ZcY e h)]; exact s b u e
theorem sg26 : ("abcdefghijklmnopqrstuvwxyz" : Str).cps.toList.length = 26 := by decide +kernel
theorem sg36 : ("abcdefghijklmnopqrstuvwxyz0123456789" : Str).cps.toList.length = 36 := by decide +kernel
theorem ZoX : ∀ c ∈ ("abcdefghijklmnopqrstuvwxyz0123456789" : Str).cps.toList, c ∈ (GR.Internal.SM ++ GR.Internal.FG).cps.toList := by decide +kernel
theorem Zd3 (a b : Str) : (a ++ b).cps.toList = a.cps.toList ++ b.cps.toList := ZcF
theorem ZhH (c : Nat) : (⟨#[c]⟩ : Str).length = 1 := rfl
theorem Zqg : ∀ c ∈ GR.Internal.SM.cps.toList, c ∈ (GR.Internal.SM ++ GR.Internal.FG).cps.toList := by decide +kernel
theorem Zj1 {w : Str} {l : List Str} (h : inV (.str w) (l.map V.str) = true) : w ∈ l := by
 unfold inV at h
 obtain ⟨y, hy, e⟩ := List.any_eq_true.mp h
 obtain ⟨x, hx, rfl⟩ := ZaX.mp hy
 have : x = w := by simpa [eqV] using e
 exact this ▸ hx
noncomputable def NW (w : Str) (n : Nat) : Prop := w.length = n /\ (∃ c r, w.cps.toList = c :: r /\ c ∈ GR.Internal.SM.cps.toList) /\ ∀ c ∈ w.cps.toList, c ∈ (GR.Internal.SM ++ GR.Internal.FG).cps.toList
theorem NW.name {w : Str} {n : Nat} (h : NW w n) (h1 : 1 <= n) (h2 : n <= 12) (hk : inV (.str w) GR.Internal.KWV = false) : GR.Internal.isName w = true := by
 obtain ⟨l, ⟨c, r, e, hc⟩, ha⟩ := h
 unfold GR.Internal.isName
 have f1 : GR.Internal.firstIn w GR.Internal.SM = true := by unfold GR.Internal.firstIn; rw [e]; exact decide_eq_true hc
 have f2 : GR.Internal.allIn w (GR.Internal.SM ++ GR.Internal.FG) = true := Zbd.mpr fun c hc => decide_eq_true (ha c hc)
 rw [l, decide_eq_true h1, decide_eq_true h2, hk, f1, f2]
 rfl
section
variable {P : Program} {w : World} {K : PySem.W.Frag} {mg : Str -> Option Value} {base : Heap}
noncomputable def Zjn : Sp := fun vs H Q _ => ∃ c : Int, vs = [.int c] /\ ∀ (x : Str) (H' : Hp), Same H H' -> GR.Internal.isName x = true -> Q (.str x) H'
theorem ZfN (T : Txt K mg) : ZdK P w K mg base CX0 1 T.a__law_name T.fd__law_name ["_law_cell"] Zjn := by
 refine T.F__law_name.ok Zeg (fun vs H Q E h => ?_) (fun cdv A outer s H vs Q E hr h => ?_)
 ·obtain ⟨c, rfl, _⟩ := h
  rfl
 obtain ⟨c, rfl, q⟩ := h
 refine ⟨_, (ZcU (Zc9 (i := 1) Zeg.nd rfl (Or.inl rfl) (Zde ZeR (cv 0) ZcZ))
  (ZcU (Zc9 (i := 2) Zeg.nd rfl (Or.inl rfl) (ZdR Zn1 Zc0 (Zde ZeR (cv 1) ZcZ) (fun _ _ => rfl)))
  (ZcU (ZfZ PassesOwn.never rfl (Zgi rfl T.z_range (ZcR (Zde ZeR (Zde ZfI (cv 1) ZcZ) ZcZ) ZcT)) (ZeW (i := 3) Zeg.nd rfl (Or.inl rfl))
   (ZcU (Zc9 (i := 1) Zeg.nd rfl (Or.inl rfl) (Zde ZeR (Zde Zib (Zde ZfC (Zde ZfC (cv 1) (cv 3)) ZcZ) ZcZ) ZcZ))
   (ZcW (Zc9 (i := 2) Zeg.nd rfl (Or.inl rfl) (Zde ZdH (cv 2) (ZdR Zn1 Zc0 (Zde ZeR (Zde ZfI (cv 1) ZcZ) ZcZ) (fun _ _ => rfl)))))))
  (ZcU (Zc9 (i := 4) Zeg.nd rfl (Or.inl rfl) (Zdl (Zl4 (xs := ["def", "fn", "call", "let", "rec", "get", "tag", "case", "row", "at", "join", "size", "add", "sub", "less"]) (by decide +kernel))))
  (ZcU (ZdF (Zdh Zhn (cv 2) (cv 4) rfl)
   (ZcW (Zc4 (Zde ZdH (cv 2) Zc0)))
   Zc6)
  (ZcW (Zc4 (cv 2)))))))), ?_⟩
 have sl : sizeLine = 16777216 := sizeLine_eq
 refine ⟨(by show (0 : Int) < 2147483647; decide), ?_⟩
 dsimp only [Zeb]
 generalize c % 2147483647 = n
 obtain ⟨c0, e0, m0⟩ := Zmc ("abcdefghijklmnopqrstuvwxyz" : Str).cps.toList (n % 26) (ZcI _ (by decide)) (by rw [sg26]; exact ZcJ _ (by decide))
 have k0 : 0 <= n / 26 % 12 := ZcI _ (by decide)
 have k1 : n / 26 % 12 < 12 := ZcJ _ (by decide)
 refine ⟨(by show (0 : Int) < 26; decide), sz (by decide +kernel), Zdn e0 ⟨⟨by decide, by decide⟩, (by show (0 : Int) < 12; decide), _, rfl, by omega, by omega, ZiS (fun i σ H2 => ∃ (n : Int) (x : Str) (o : Option V), σ = [some (.int c), some (.int n), some (.str x), o, none] /\ H2 = H /\ NW x (i + 1)) ⟨n, _, none, rfl, rfl, rfl, ⟨c0, [], rfl, m0⟩, fun c hc => by
   have : c = c0 := by simpa using hc
   rw [this]
   exact Zqg _ m0⟩ ?_ ?_⟩⟩
 ·rintro i σ H2 hi ⟨n, x, o, rfl, rfl, hx⟩
  have hi12 : i < 12 := by omega
  refine ⟨.inr ⟨by decide, by decide⟩, (by show (0 : Int) < 2147483647; decide), ?_⟩
  dsimp only [Zeb]
  generalize (n + (0 + (i : Int)) + 1) * 48271 % 2147483647 = n2
  obtain ⟨c1, e1, m1⟩ := Zmc ("abcdefghijklmnopqrstuvwxyz0123456789" : Str).cps.toList (n2 / 16 % 36) (ZcI _ (by decide)) (by rw [sg36]; exact ZcJ _ (by decide))
  obtain ⟨l, ⟨c2, r, e2, m2⟩, ha⟩ := hx
  refine ⟨⟨by decide, by decide⟩, (by show (0 : Int) < 36; decide), sz (by decide +kernel), Zdn e1 ⟨by rw [ZhH]; omega, _, _, _, rfl, rfl, by rw [Str.length_append, ZhH]; omega, ⟨c2, r ++ [c1], by rw [Zd3, e2]; rfl, m2⟩, fun c hc => ?_⟩⟩
  rw [Zd3] at hc
  rcases Zag.mp hc with hc | hc
  ·exact ha c hc
  ·have : c = c1 := by simpa using hc
   rw [this]
   exact ZoX _ m1
 ·rintro σ H2 ⟨n', x, o, rfl, rfl, hx⟩
  have ln : (n / 26 % 12).toNat + 1 <= 12 := by omega
  refine ⟨(by show 15 <= sizeLine; decide), fun l hl => ?_⟩
  have s1 := ZcV hl (.lst ((["def", "fn", "call", "let", "rec", "get", "tag", "case", "row", "at", "join", "size", "add", "sub", "less"] : List Str).map V.str))
  refine ⟨l, _, rfl, .inl (SqL.of ZcS), rfl, by decide +kernel, ?_⟩
  dsimp only [onB]
  rw [if_neg Zcw]
  cases hk : inV (.str x) ((["def", "fn", "call", "let", "rec", "get", "tag", "case", "row", "at", "join", "size", "add", "sub", "less"] : List Str).map V.str) with
  | true => exact ZeI ⟨by have := hx.1; show x.length + 1 <= sizeLine; omega, q _ _ s1 (ZoW x (Zj1 hk))⟩
  | false => exact Zeq (q x _ s1 (hx.name (by omega) (by omega) hk))
end
end K04.Internal
namespace K04.Internal
open PySem L2.Internal BO.Internal
seal L2.Internal.PE L2.Internal.PA L2.Internal.PS L2.Internal.PSs L2.Internal.PT L2.Internal.PI
open TM.Internal in
noncomputable def pr1 : List Str -> List Dt -> List Dt
 | w :: l, k :: ks => .tup [sD w, k] :: pr1 l ks
 | _, _ => []
open TM.Internal in
noncomputable def pr2 : List (Str × Str) -> List Dt -> List Dt
 | p :: l, k :: ks => .tup [sD p.1, sD p.2, k] :: pr2 l ks
 | _, _ => []
open TM.Internal in
noncomputable def _root_.TM.Internal.Kn.td (κ : Kn) (ks : List Dt) : Dt := match κ, ks with
 | .num n, _ => .lst [sD "num", .flat (.int n)]
 | .name w, _ => .lst [sD "name", sD w]
 | .fn w, ks => .lst (sD "fn" :: sD w :: ks)
 | .tag w, ks => .lst (sD "tag" :: sD w :: ks)
 | .lt w, ks => .lst (sD "let" :: sD w :: ks)
 | .get w, ks => .lst (sD "get" :: (ks ++ [sD w]))
 | .rcd l, ks => .lst [sD "rec", .tup (pr1 l ks)]
 | .case l, k :: ks => .lst [sD "case", k, .tup (pr2 l ks)]
 | .case _, [] => .lst []
 | .row _, ks => .lst [sD "row", .tup ks]
 | .op s _, ks => .lst (sD s :: ks)
mutual
noncomputable def _root_.TM.Internal.Tr.td : TM.Internal.Tr -> Dt
 | .mk κ ks => κ.td (Zf2 ks)
noncomputable def Zf2 : List TM.Internal.Tr -> List Dt
 | [] => []
 | t :: ts => t.td :: Zf2 ts
end
theorem Zej : ∀ ts : List TM.Internal.Tr, Zf2 ts = ts.map TM.Internal.Tr.td
 | [] => rfl
 | t :: ts => by rw [Zf2, Zej ts]; rfl
noncomputable def iD (k : Nat) : Dt := .flat (.int (k : Int))
noncomputable def itD (t : TM.Internal.Tr) : Dt := .lst [t.td, iD t.nest, iD t.sz]
noncomputable def Gd (t : TM.Internal.Tr) : Prop := t.ok /\ t.nest <= 24 /\ t.sz <= 160
noncomputable def FrD (D : Addr) (H H' : Hp) : Prop := ∀ a o, H a = some o -> a ≠ D -> H' a = some o
noncomputable def noD (N : Hp) (D : Addr) : Hp := fun a => if a = D then none else N a
theorem Zjo {N : Hp} {D a : Addr} {u : HO} (h : a ≠ D) (e : N a = some u) : noD N D a = some u := by unfold noD; rw [if_neg h]; exact e
theorem Zmv {N : Hp} {D a : Addr} {u : HO} (e : noD N D a = some u) : a ≠ D /\ N a = some u := by
 unfold noD at e
 by_cases h : a = D
 ·rw [if_pos h] at e; cases e
 ·rw [if_neg h] at e; exact ⟨h, e⟩
theorem Zmw {N : Hp} {D : Addr} : Same (noD N D) N := fun b u e => (Zmv e).2
theorem FrD.refl (D : Addr) (H : Hp) : FrD D H H := fun a o e _ => e
theorem FrD.trans {D : Addr} {H H1 H2 : Hp} (a : FrD D H H1) (b : FrD D H1 H2) : FrD D H H2 := fun x o e n => b x o (a x o e n) n
theorem FrD.upd (D : Addr) (H : Hp) (o : HO) : FrD D H (L2.Internal.upd H D o) := fun a u e n => by rw [Zc1 n]; exact e
theorem _root_.L2.Internal.Same.frD {D : Addr} {H H' : Hp} (s : Same H H') : FrD D H H' := fun a o e _ => s a o e
theorem ZeG {H : Hp} : ∀ {xs ys : List V} {ds es : List Dt}, Zfu H xs ds -> Zfu H ys es -> Zfu H (xs ++ ys) (ds ++ es)
 | _, _, _, _, .nil, h => h
 | _, _, _, _, .cons h t, h' => .cons h (ZeG t h')
theorem ZeP {H : Hp} : ∀ {xs : List V} {ds : List Dt} {j : Nat} {x : V}, Zfu H xs ds -> xs[j]? = some x -> ∃ d, ds[j]? = some d /\ Dta H x d
 | _, _, 0, _, .cons h _, e => ⟨_, rfl, by cases e; exact h⟩
 | _, _, j + 1, _, .cons _ t, e => by
  rw [Za0] at e
  obtain ⟨d, e1, e2⟩ := ZeP t e
  exact ⟨d, by rw [Za0]; exact e1, e2⟩
theorem Zds {H : Hp} : ∀ {xs : List V} {ds : List Dt}, Zfu H xs ds -> xs.length = ds.length
 | _, _, .nil => rfl
 | _, _, .cons _ t => by rw [Zan, Zan, Zds t]
theorem ZfW {H : Hp} : ∀ {xs ys : List V} {ds : List Dt}, Zfu H (xs ++ ys) ds -> ∃ d1 d2, ds = d1 ++ d2 /\ Zfu H xs d1 /\ Zfu H ys d2
 | [], ys, ds, h => ⟨[], ds, rfl, .nil, h⟩
 | x :: xs, ys, _, .cons h t => by
  obtain ⟨d1, d2, rfl, h1, h2⟩ := ZfW (xs := xs) t
  exact ⟨_ :: d1, d2, rfl, .cons h h1, h2⟩
theorem ifc {A B u : TS} {D : Zih} {σ : St} {H : Hp} {t : TT} (b : Bool) (ht : ∀ R : Bool -> Hp -> Prop, R b H -> t σ H R) (k : if b = true then A { D with nx := u D } σ H else B { D with nx := u D } σ H) : ZnL (ZnM t A B) u D σ H := ht _ k
theorem gd0 : Gd (.mk (.num 0) []) := by
 refine ⟨?_, ?_, ?_⟩
 ·rw [TM.Internal.Tr.ok]; exact ⟨⟨by decide, by decide +kernel⟩, rfl, by rw [TM.Internal.oks]; trivial⟩
 ·rw [TM.Internal.Tr.nest, TM.Internal.nests]; decide
 ·rw [TM.Internal.Tr.sz, TM.Internal.szs]; decide
structure Gw (F H F' H' : Hp) : Prop where
 ff : Same F F'
 fh : Same F' H'
 no : ∀ a o, H a = some o -> F a = none -> F' a = none
 al : ∀ a o, H a = some o -> ∃ o', H' a = some o'
theorem Gw.refl {F H : Hp} (s : Same F H) : Gw F H F H := ⟨Same.refl _, s, fun _ _ _ h => h, fun _ o e => ⟨o, e⟩⟩
theorem Gw.trans {F H F1 H1 F2 H2 : Hp} (a : Gw F H F1 H1) (b : Gw F1 H1 F2 H2) : Gw F H F2 H2 :=
 ⟨a.ff.trans b.ff, b.fh, fun x o e h => by
  obtain ⟨o1, e1⟩ := a.al x o e
  exact b.no x o1 e1 (a.no x o e h), fun x o e => by
  obtain ⟨o1, e1⟩ := a.al x o e
  exact b.al x o1 e1⟩
theorem Gw.new {F H : Hp} {a : Addr} (s : Same F H) (h : H a = none) (o : HO) : Gw F H (upd F a o) (upd H a o) := by
 have hf : F a = none := s.free h
 refine ⟨ZcV hf o, fun b u e => ?_, fun x u e hx => ?_, fun x u e => ⟨u, ZcV h o _ _ e⟩⟩
 ·by_cases z : b = a
  ·rw [z, ZcS] at e ⊢; exact e
  ·rw [Zc1 z] at e ⊢; exact s _ _ e
 ·rw [Zc1 (ZcY e h)]; exact hx
theorem Gw.mut {F H : Hp} {a : Addr} (s : Same F H) (h : H a = none) (o : HO) : Gw F H F (upd H a o) := ⟨Same.refl _, s.trans (ZcV h o), fun _ _ _ hx => hx, fun x u e => ⟨u, ZcV h o _ _ e⟩⟩
theorem Gw.put {F H : Hp} {a : Addr} (s : Same F H) (hf : F a = none) (o : HO) : Gw F H F (upd H a o) := ⟨Same.refl _, Ze0 s hf o, fun _ _ _ hx => hx, fun x u e => by
 by_cases z : x = a
 ·rw [z]; exact ⟨o, ZcS⟩
 ·exact ⟨u, by rw [Zc1 z]; exact e⟩⟩
theorem Gw.fix {F H : Hp} {a : Addr} {o : HO} (s : Same F H) (hf : F a = none) (e : H a = some o) : Same F (upd F a o) /\ Same (upd F a o) H := ⟨ZcV hf o, fun b u eb => by
 by_cases z : b = a
 ·rw [z, ZcS] at eb; rw [z, e]; exact eb
 ·rw [Zc1 z] at eb; exact s _ _ eb⟩
noncomputable def Sb (ts' ts : List TM.Internal.Tr) : Prop := ts'.length <= ts.length /\ ∀ x ∈ ts', x ∈ ts
theorem Sb.refl (ts : List TM.Internal.Tr) : Sb ts ts := ⟨Zbz _, fun _ h => h⟩
theorem Sb.trans {a b c : List TM.Internal.Tr} (h : Sb a b) (k : Sb b c) : Sb a c := ⟨Zbw h.1 k.1, fun x hx => k.2 x (h.2 x hx)⟩
section
variable {P : Program} {w : World} {K : PySem.W.Frag} {mg : Str -> Option Value} {base : Heap}
noncomputable def Stk (F H : Hp) (st : Addr) (ts : List TM.Internal.Tr) : Prop := ∃ vs, H st = some (.lst vs) /\ Zfu F vs (ts.map itD) /\ ts.length <= 100 /\ (∀ t ∈ ts, Gd t) /\ F st = none
noncomputable def Zj2 : Sp := fun vs H Q _ => ∃ (F : Hp) (st : Addr) (ts : List TM.Internal.Tr), vs = [.ref st] /\ Same F H /\ Stk F H st ts /\ ∀ (v : V) (t : TM.Internal.Tr) (ts' : List TM.Internal.Tr) (F' H' : Hp), Gw F H F' H' -> FrD st H H' -> Stk F' H' st ts' -> Dta F' v (itD t) -> Gd t -> Sb ts' ts -> (0 < ts.length -> t ∈ ts) -> Q v H'
theorem ZhI (T : Txt K mg) : ZdK P w K mg base CX0 1 T.a__law_pop T.fd__law_pop ["_law_stack"] Zj2 := by
 refine T.F__law_pop.ok ZjX (fun vs H Q E h => ?_) (fun cdv A outer s H vs Q E hr h => ?_)
 ·obtain ⟨F, st, ts, rfl, _⟩ := h
  rfl
 obtain ⟨F, st, ts, rfl, SF, hS, q⟩ := h
 refine ⟨_, (ZcU (ZdF (Zdh ZfD (Zc3 Zda rfl T.z_len Zeo (ZcR (cv 0) ZcT)) ZcZ (Zdk _))
   (ZcW (Zc4 (Zdl (ZcR (Zdl (ZcR Zc0 (ZcR ZcZ ZcT))) (ZcR ZcZ (ZcR ZcZ ZcT))))))
   Zc6)
  (ZcW (Zc4 (ZnQ Zcr PySem.F.slot_list_pop PySem.F.type_list_pop ZpM (cv 0))))), ?_⟩
 obtain ⟨vs, e, d, l, g, fs⟩ := id hS
 have lv := Zds d
 rw [Zaq] at lv
 refine ifc (decide (ts.length = 0)) (fun R h => ⟨st, _, rfl, .inl (SqL.of e), ?_⟩) ?_
 ·show R (false ^^ decide ((vs.length : Int) = 0)) H
  rw [ZcA, lv, show decide ((ts.length : Int) = 0) = decide (ts.length = 0) from decide_eq_decide.mpr (by omega)]
  exact h
 ·by_cases h0 : ts.length = 0
  ·rw [decide_eq_true h0]
   refine ZeI ⟨(by show 2 <= sizeLine; decide), fun p hp => ⟨(by show 3 <= sizeLine; decide), fun r hr' => ?_⟩⟩
   have g1 := Gw.new SF hp (.lst [.str "num", .int 0])
   have g2 := Gw.new g1.fh hr' (.lst [.ref p, .int 1, .int 1])
   have g12 := g1.trans g2
   have t12 := (ZcV hp (.lst [.str "num", .int 0])).trans (ZcV hr' (.lst [.ref p, .int 1, .int 1]))
   refine q (.ref r) (.mk (.num 0) []) ts _ _ g12 t12.frD ⟨vs, t12 _ _ e, d.same g12.ff, l, g, g12.no _ _ e fs⟩ ?_ gd0 (Sb.refl _) (fun h => absurd h (by omega))
   exact .lst ZcS (.cons (.lst (g2.ff _ _ ZcS) (.cons (.flat rfl) (.cons (.flat rfl) .nil))) (.cons (.flat rfl) (.cons (.flat rfl) .nil)))
  ·rw [decide_eq_false h0]
   refine Zeq ?_
   obtain ⟨v0, vz, ev⟩ : ∃ v0 vz, vs = vz ++ [v0] := ⟨_, _, (Zbc (fun z => h0 (by rw [z] at lv; exact lv.symm))).symm⟩
   subst ev
   obtain ⟨d1, d2, ed, h1, h2⟩ := ZfW d
   have ld2 := Zds h2
   obtain ⟨tz, t, rfl⟩ : ∃ tz t, ts = tz ++ [t] := ⟨_, _, (Zbc (fun z => h0 (by rw [z]; rfl))).symm⟩
   rw [ZaQ] at ed
   have el : d1.length = (tz.map itD).length := by
    have := Zds h1
    rw [ZaA, ZaA] at lv
    rw [Zaq]
    simp only [ZaL] at lv
    omega
   obtain ⟨e1, e2⟩ := Zbp ed.symm el
   subst e1 e2
   refine ⟨.inl ⟨rfl, _, SqL.of e⟩, st, _, v0, rfl, rfl, e, by rw [ZaA, ZaL, Nat.add_sub_cancel, Zaw (Zbz _), ZbJ]; rfl, ?_⟩
   rw [List.dropLast_concat]
   refine q v0 t tz F _ (Gw.put SF fs _) (FrD.upd st H _) ⟨vz, ZcS, h1, by rw [ZaA] at l; omega, fun x hx => g x (Zah _ hx), fs⟩ ?_ (g t (Zam _ (ZaU.mpr rfl))) ⟨by rw [ZaA]; omega, fun x hx => Zah _ hx⟩ (fun _ => Zam _ (ZaU.mpr rfl))
   cases h2 with
   | cons a b => exact a
noncomputable def Zjp : Sp := fun vs H Q _ => ∃ (F : Hp) (st : Addr) (ts : List TM.Internal.Tr) (m : Nat), vs = [.ref st, .int (m : Int)] /\ Same F H /\ Stk F H st ts /\ m <= 20 /\ ∀ (l : Addr) (xs : List TM.Internal.Tr) (ts' : List TM.Internal.Tr) (F' H' : Hp), Gw F H F' H' -> FrD st H H' -> Stk F' H' st ts' -> Dta F' (.ref l) (.lst (xs.map itD)) -> xs.length = m -> (∀ x ∈ xs, Gd x) -> Sb ts' ts -> Q (.ref l) H'
theorem Zjq (T : Txt K mg) : ZdK P w K mg base CX0 2 T.a__law_many T.fd__law_many ["_law_stack", "_law_many_here"] Zjp := by
 have G__law_pop := ZhI (P := P) (w := w) (base := base) T
 refine T.F__law_many.ok ZfL (fun vs H Q E h => ?_) (fun cdv A outer s H vs Q E hr h => ?_)
 ·obtain ⟨F, st, ts, m, rfl, _⟩ := h
  rfl
 obtain ⟨F, st, ts, m, rfl, SF, hS, hm, q⟩ := h
 refine ⟨_, (ZcU (Zc9 (i := 2) ZfL.nd rfl (Or.inl rfl) (Zdl ZcT))
  (ZcU (ZfZ PassesOwn.never rfl (Zgi rfl T.z_range (ZcR (cv 1) ZcT)) (ZeW (i := 3) ZfL.nd rfl (Or.inl rfl))
   (ZcW (Zdw (Ze5 (ZeD Zcr Zcs Zct Zdr (PE.mono (cv 2)) (ZcR (PE.mono (Zc7 G__law_pop (hr.mono (by decide)) rfl T.m__law_pop T.k__law_pop T.b__law_pop .nil ZdL (ZcR (cv 0) ZcT))) ZcT))))))
  (ZcW (Zc4 (cv 2))))), ?_⟩
 have sl : sizeLine = 16777216 := sizeLine_eq
 obtain ⟨vs0, e0, d0, l0, g0, fs0⟩ := id hS
 refine ⟨(by show 0 <= sizeLine; decide), fun l hl => ?_⟩
 have s1 := ZcV hl (.lst [])
 have w1 := Gw.mut SF hl (.lst [])
 have e1 : (upd H l (.lst [])) l = some (.lst []) := ZcS
 have nls : l ≠ st := (ZcY e0 hl).symm
 dsimp only [Zeb]
 generalize upd H l (.lst []) = H1 at s1 e1 w1 ⊢
 refine ⟨_, rfl, by omega, by omega, ZiS (fun i σ H2 => ∃ (o : Option V) (vs : List V) (xs ts' : List TM.Internal.Tr) (F2 : Hp), σ = [some (.ref st), some (.int (m : Int)), some (.ref l), o] /\ Gw F H F2 H2 /\ FrD st H H2 /\ Stk F2 H2 st ts' /\ H2 l = some (.lst vs) /\ F2 l = none /\ Zfu F2 vs (xs.map itD) /\ xs.length = i /\ (∀ x ∈ xs, Gd x) /\ Sb ts' ts)
  ⟨none, [], [], ts, F, rfl, w1, s1.frD, ⟨vs0, s1 _ _ e0, d0, l0, g0, fs0⟩, e1, SF.free hl, .nil, rfl, fun x hx => (by cases hx), Sb.refl _⟩ ?_ ?_⟩
 ·rintro i σ H2 hi ⟨o, vs, xs, ts', F2, rfl, w2, fr, S2, e2, fl2, d2, lx, gx, lt⟩
  have him : i < m := by omega
  refine ⟨⟨_, e2⟩, F2, st, ts', rfl, w2.fh, S2, fun v t ts2 F3 H3 w3 F3r S3 dv gt l3 _ => ?_⟩
  have e3 := F3r _ _ e2 nls
  have lv := Zds d2
  rw [Zaq] at lv
  have fl3 := w3.no _ _ e2 fl2
  obtain ⟨vs3, a1, a2, a3, a4, a5⟩ := S3
  refine ⟨_, e3, by omega, _, _, xs ++ [t], ts2, F3, rfl, (w2.trans w3).trans (Gw.put w3.fh fl3 _), fun b u eb nb => ?_, ⟨vs3, by rw [Zc1 (fun z => nls z.symm)]; exact a1, a2, a3, a4, a5⟩, ZcS, fl3, ?_, by rw [ZaA, lx]; rfl, fun x hx => ?_, l3.trans lt⟩
  ·rw [Zc1 (ZcY eb hl)]
   exact F3r _ _ (fr b u eb nb) nb
  ·rw [ZaQ]
   exact ZeG (d2.same w3.ff) (.cons dv .nil)
  ·rcases Zag.mp hx with hx | hx
   ·exact gx x hx
   ·rw [ZaU] at hx; rw [hx]; exact gt
 ·rintro σ H2 ⟨o, vs, xs, ts', F2, rfl, w2, fr, S2, e2, fl2, d2, lx, gx, lt⟩
  obtain ⟨x1, x2⟩ := Gw.fix w2.fh fl2 e2
  obtain ⟨vs3, a1, a2, a3, a4, a5⟩ := S2
  refine q l xs ts' (upd F2 l (.lst vs)) H2 ⟨w2.ff.trans x1, x2, fun a o ea ha => ?_, w2.al⟩ fr ⟨vs3, a1, a2.same x1, a3, a4, by rw [Zc1 (fun z => nls z.symm)]; exact a5⟩ (.lst ZcS (d2.same x1)) (by omega) gx lt
  rw [Zc1 (ZcY ea hl)]
  exact w2.no a o ea ha
end
end K04.Internal
namespace K04.Internal
open PySem L2.Internal BO.Internal
seal L2.Internal.PE L2.Internal.PA L2.Internal.PS L2.Internal.PSs L2.Internal.PT L2.Internal.PI
noncomputable def fz (H F H' : Hp) : Hp := fun a => match H a with
 | none => H' a
 | some _ => F a
theorem Zfk {H F H' : Hp} {a : Addr} {u : HO} (h : H a = none) (e : H' a = some u) : fz H F H' a = some u := by unfold fz; rw [h]; exact e
theorem Zjr {H F H' : Hp} (s : Same F H) : Same F (fz H F H') := fun b u e => by unfold fz; rw [s _ _ e]; exact e
theorem Zmx {H F H' : Hp} {a : Addr} {u : HO} (e : fz H F H' a = some u) : (H a = none /\ H' a = some u) \/ ((∃ o, H a = some o) /\ F a = some u) := by
 unfold fz at e
 cases h : H a with
 | none => rw [h] at e; exact .inl ⟨rfl, e⟩
 | some o => rw [h] at e; exact .inr ⟨⟨o, rfl⟩, e⟩
theorem Znw {H F H' : Hp} (s : Same F H) (t : Same H H') : Gw F H (fz H F H') H' := by
 refine ⟨Zjr s, fun b u e => ?_, fun a o e h => by unfold fz; rw [e]; exact h, fun a o e => ⟨o, t _ _ e⟩⟩
 rcases Zmx e with ⟨_, h⟩ | ⟨_, h⟩
 ·exact h
 ·exact t _ _ (s _ _ h)
theorem Znx {H F H' H'' : Hp} {D : Addr} (s : FrD D H' H'') : Same (noD (fz H F H') D) (noD (fz H F H'') D) := fun b u e => by
 obtain ⟨h1, h2⟩ := Zmv e
 refine Zjo h1 ?_
 rcases Zmx h2 with ⟨a, h⟩ | ⟨⟨o, a⟩, h⟩
 ·exact Zfk a (s _ _ h h1)
 ·unfold fz; rw [a]; exact h
theorem Zmy {H F H' H'' : Hp} (s : Same H' H'') : Same (fz H F H') (fz H F H'') := fun b u e => by
 rcases Zmx e with ⟨a, h⟩ | ⟨⟨o, a⟩, h⟩
 ·exact Zfk a (s _ _ h)
 ·unfold fz; rw [a]; exact h
theorem Zmz {J : It} {i : Nat} {te : TE} {Q : VK} {τ : St} {H1 : Hp} {D : Addr} (n : Nat) (hn : n < sizeLine) (R : List V -> Hp -> Prop) (hR : ∀ xs H H', R xs H -> FrD D H H' -> R xs H') (hD : H1 D = none) (hτ : τ.set i none = τ)
  (hgo : ∀ k H, Same H1 H -> k < n -> J.go k H) (hst : ∀ H, Same H1 H -> J.stop n H) (h0 : R [] H1)
  (step : ∀ k H v H3 xs (Z : VK), Same H1 H -> k < n -> J.yld k H v H3 -> R xs H -> xs.length = k -> H D = some (.lst xs) -> (∀ y H5, Same H H5 -> R (xs ++ [y]) H5 -> Z y H5) -> te (τ.set i (some v)) H3 Z)
  (hq : ∀ H' xs, Same H1 H' -> R xs H' -> xs.length = n -> H' D = some (.lst xs) -> Q (.ref D) H') : LcP J i ZgJ te Q τ H1 D := by
 have nd : ∀ (H5 : Hp) (o : HO), FrD D H5 (upd H5 D o) := fun H5 o a u e n => by rw [Zc1 n]; exact e
 have up : ∀ {H : Hp} (o : HO), Same H1 H -> Same H1 (upd H D o) := fun {H} o S b u e => by rw [Zc1 (ZcY e hD)]; exact S b u e
 refine ⟨fun k m σ' H2 => m = n - k /\ k <= n /\ (∃ o, σ' = τ.set i o) /\ Same H1 H2 /\ ∃ xs, H2 D = some (.lst xs) /\ xs.length = k /\ R xs H2, ⟨n, by simp, ZbA _, ⟨none, hτ.symm⟩, ZcV hD _, [], ZcS, rfl, hR _ _ _ h0 (nd _ _)⟩, ?_⟩
 rintro k m σ' H2 ⟨rfl, hk, ⟨o, rfl⟩, S, xs, e, hl, hr⟩
 by_cases hlt : k < n
 ·refine .inr ⟨hgo k H2 S hlt, fun v H3 y => ?_⟩
  rw [ZaP]
  refine step k H2 v H3 xs _ S hlt y hr hl e fun y H5 S5 r5 => ?_
  refine ⟨xs, S5 D _ e, by omega, n - (k + 1), by omega, rfl, hlt, ⟨some v, rfl⟩, up _ (S.trans S5), xs ++ [y], ZcS, by rw [ZaA, hl]; rfl, hR _ _ _ r5 (nd H5 _)⟩
 ·have e1 : k = n := by omega
  subst e1
  exact .inl ⟨hst H2 S, hq H2 xs S hr hl e⟩
theorem Zjs {N : Hp} {v : V} {t : TM.Internal.Tr} (h : Dta N v (itD t)) : ∃ (e : Addr) (tv : V), v = .ref e /\ N e = some (.lst [tv, .int (t.nest : Int), .int (t.sz : Int)]) /\ Dta N tv t.td := by
 unfold itD at h
 cases h with
 | @lst e xs _ he hs =>
  cases hs with
  | @cons tv _ _ _ h1 hs =>
   cases hs with
   | cons h2 hs =>
    cases hs with
    | cons h3 hs =>
     cases hs
     cases h2
     cases h3
     exact ⟨e, tv, rfl, he, h1⟩
theorem or2 {t1 t2 : TT} {σ : St} {H : Hp} {R : Bool -> Hp -> Prop} (b1 b2 : Bool) (h1 : ∀ R : Bool -> Hp -> Prop, R b1 H -> t1 σ H R) (h2 : ∀ R : Bool -> Hp -> Prop, R b2 H -> t2 σ H R) (k : R (b1 || b2) H) : tOr t1 t2 σ H R := by
 refine h1 _ ?_
 cases b1 with
 | true => exact ZeI k
 | false => exact Zeq (h2 _ k)
theorem eqI {j : Nat} {M n : Int} {σ : St} {H : Hp} (hv : σ[j]? = some (some (.int M))) : ∀ R : Bool -> Hp -> Prop, R (decide (M = n)) H -> cT (tOp (cEq false) (cV j) (tC (.int n))) σ H R := fun R h => by
 show onV σ[j]? _
 rw [hv]
 show R (false ^^ decide (M = n)) H
 rw [ZcA]
 exact h
theorem ifI {j : Nat} {M n : Int} {A u : TS} {D : Zih} {σ : St} {H : Hp} (hv : σ[j]? = some (some (.int M))) (kt : M = n -> A { D with nx := u D } σ H) (kf : M ≠ n -> u D σ H) : ZnL (ZnM (cT (tOp (cEq false) (cV j) (tC (.int n)))) A ZhP) u D σ H := by
 refine eqI hv _ ?_
 by_cases h : M = n
 ·rw [decide_eq_true h]; exact ZeI (kt h)
 ·rw [decide_eq_false h]; exact Zeq (kf h)
theorem ifO {j : Nat} {M n n' : Int} {A u : TS} {D : Zih} {σ : St} {H : Hp} (hv : σ[j]? = some (some (.int M))) (kt : M = n \/ M = n' -> A { D with nx := u D } σ H) (kf : M ≠ n -> M ≠ n' -> u D σ H) : ZnL (ZnM (tOr (cT (tOp (cEq false) (cV j) (tC (.int n)))) (cT (tOp (cEq false) (cV j) (tC (.int n'))))) A ZhP) u D σ H := by
 refine or2 _ _ (eqI hv) (eqI hv) ?_
 by_cases h : M = n
 ·rw [decide_eq_true h, Bool.true_or]; exact ZeI (kt (.inl h))
 ·by_cases h' : M = n'
  ·rw [decide_eq_true h', Bool.or_true]; exact ZeI (kt (.inr h'))
  ·rw [decide_eq_false h, decide_eq_false h']; exact Zeq (kf h h')
theorem ZkO : ∀ {l : List Str} {ks : List Dt} {w : Str} {k : Dt}, l.length = ks.length -> pr1 (l ++ [w]) (ks ++ [k]) = pr1 l ks ++ [.tup [TM.Internal.sD w, k]]
 | [], [], w, k, _ => rfl
 | x :: l, y :: ks, w, k, h => by rw [Zbg, Zbg, pr1, pr1, ZkO (by simpa using h)]; rfl
theorem ZkP : ∀ {l : List (Str × Str)} {ks : List Dt} {w : Str × Str} {k : Dt}, l.length = ks.length -> pr2 (l ++ [w]) (ks ++ [k]) = pr2 l ks ++ [.tup [TM.Internal.sD w.1, TM.Internal.sD w.2, k]]
 | [], [], w, k, _ => rfl
 | x :: l, y :: ks, w, k, h => by rw [Zbg, Zbg, pr2, pr2, ZkP (by simpa using h)]; rfl
noncomputable def Ari (op : Int) (n : Nat) : Prop := (op = 4 /\ n = 1) \/ (op = 5 /\ n = 2) \/ (op = 6 /\ n = 2) \/ (op = 7 /\ n <= 6) \/ (op = 8 /\ n = 1) \/ (op = 9 /\ n = 1) \/ (op = 10 /\ 2 <= n /\ n <= 7) \/ (op = 11 /\ n <= 8) \/ (op = 12 /\ n = 3) \/ (op = 13 /\ n = 2) \/ (op = 14 /\ n = 1) \/ (op = 15 /\ n = 2) \/ (op = 16 /\ n = 2) \/ (op = 17 /\ n = 2)
theorem Ari.le {op : Int} {n : Nat} (h : Ari op n) : n <= 8 := by unfold Ari at h; omega
theorem Zqh {xs : List TM.Internal.Tr} : (∀ x ∈ xs, Gd x) -> TM.Internal.oks xs := by
 induction xs with
 | nil => intro _; rw [TM.Internal.oks]; trivial
 | cons x xs ih => intro h; rw [TM.Internal.oks]; exact ⟨(h x Zad).1, ih fun y hy => h y (Zae _ hy)⟩
section
variable {P : Program} {w : World} {K : PySem.W.Frag} {mg : Str -> Option Value} {base : Heap}
noncomputable def Zjt : Sp := fun vs H Q _ => ∃ (F : Hp) (op arg : Int) (pl : Addr) (xs : List TM.Internal.Tr), vs = [.int op, .int arg, .ref pl] /\ Same F H /\ Dta F (.ref pl) (.lst (xs.map itD)) /\ (∀ x ∈ xs, Gd x) /\ Ari op xs.length /\
 ∀ (r : Addr) (κ : TM.Internal.Kn) (H' : Hp), Same H H' -> Dta (fz H F H') (.ref r) (TM.Internal.Tr.mk κ xs).td -> (TM.Internal.Tr.mk κ xs).ok -> Q (.ref r) H'
theorem Zju (T : Txt K mg) : ZdK P w K mg base CX0 2 T.a__law_tree T.fd__law_tree ["_law_op", "_law_arg", "_law_parts"] Zjt := by
 have G__law_name := ZfN (P := P) (w := w) (base := base) T
 refine T.F__law_tree.ok Zfp (fun vs H Q E h => ?_) (fun cdv A outer s H vs Q E hr h => ?_)
 ·obtain ⟨F, op, arg, pl, xs, rfl, _⟩ := h
  rfl
 obtain ⟨F, op, arg, pl, xs, rfl, SF, dpl, gx, ari, q⟩ := h
 refine ⟨_, (ZcU (Zc9 (i := 3) Zfp.nd rfl (Or.inr rfl) (Zgo rfl (ZnU (x := "_law_part_here") rfl (by decide +kernel) (by decide +kernel) rfl rfl) (Ze4 (cv 2)) (fun _ _ _ _ _ => ZeK) (fun _ _ _ _ _ => (ZdR Zdt (cv 0) ZcZ (fun _ _ => rfl)))))
  (ZcU (Zc9 (i := 4) Zfp.nd rfl (Or.inl rfl) (Zc7 G__law_name (hr.mono (by decide)) rfl T.m__law_name T.k__law_name T.b__law_name .nil ZdL (ZcR (cv 1) ZcT)))
  (ZcU (ZdF (PW.pt (Zik (Zdh ZfD (cv 0) ZcZ (Zdk _)) (ZgR (Zdh ZfD (cv 0) ZcZ (Zdk _)))))
   (ZcW (Zc4 (Zde Zho (Zdl (ZcR (ZdR Zdt (Zdl (ZcR Zc0 (ZcR Zc0 ZcT))) (Zde ZfI (cv 0) ZcZ) (fun _ _ => rfl)) (ZcR (cv 4) ZcT))) (cv 3))))
   Zc6)
  (ZcU (ZdF (Zdh ZfD (cv 0) ZcZ (Zdk _))
   (ZcW (Zc4 (Zde Zho (Zdl (ZcR Zc0 (ZcR (cv 4) ZcT))) (cv 3))))
   Zc6)
  (ZcU (ZdF (Zdh ZfD (cv 0) ZcZ (Zdk _))
   (ZcW (Zc4 (Zdl (ZcR Zc0 (ZcR (Zdm Zdj rfl T.z_tuple ZdJ (ZcR (Zgo rfl (Zpj (x := "_law_k") ["_law_trees_here", "_law_arg"] [("_law_trees_here", 3, s.heap.objs.size + 2), ("_law_arg", 1, s.heap.objs.size + 1)] rfl rfl (by decide +kernel) (by decide +kernel) rfl (by decide +kernel) rfl rfl (by intro p hp; simp only [Zaf, ZaZ, or_false] at hp; rcases hp with rfl | rfl <;> exact ⟨rfl, rfl, rfl, rfl⟩)) (Zgi rfl T.z_range (ZcR (Zc3 Zda rfl T.z_len Zeo (ZcR (cv 3) ZcT)) ZcT)) (fun _ _ _ _ _ => ZeK) (fun _ _ _ _ _ => (Zfn (ZcR (Zc7 G__law_name (hr.mono (by decide)) rfl T.m__law_name T.k__law_name T.b__law_name .nil ZdL (ZcR (Zde ZfC (cv 2) (Zde Zib (Zde Zib ZcZ (cv 0)) (cv 0))) ZcT)) (ZcR (ZdR Zdt (cv 1) (cv 0) (fun _ _ => rfl)) ZcT))))) ZcT)) ZcT)))))
   Zc6)
  (ZcU (ZdF (Zdh ZfD (cv 0) ZcZ (Zdk _))
   (ZcW (Zc4 (Zde Zho (Zde Zho (Zdl (ZcR Zc0 ZcT)) (cv 3)) (Zdl (ZcR (cv 4) ZcT)))))
   Zc6)
  (ZcU (ZdF (Zdh ZfD (cv 0) ZcZ (Zdk _))
   (ZcU (Zna (j := 5) rfl (Zpj (x := "_law_k") ["_law_trees_here", "_law_arg"] [("_law_trees_here", 3, s.heap.objs.size + 2), ("_law_arg", 1, s.heap.objs.size + 1)] rfl rfl (by decide +kernel) (by decide +kernel) rfl (by decide +kernel) rfl rfl (by intro p hp; simp only [Zaf, ZaZ, or_false] at hp; rcases hp with rfl | rfl <;> exact ⟨rfl, rfl, rfl, rfl⟩)) (ZlJ rfl T.z_range (ZcR ZcZ (ZcR (Zc3 Zda rfl T.z_len Zeo (ZcR (cv 3) ZcT)) ZcT))) (fun _ _ _ _ _ => ZeK) (fun _ _ _ _ _ => (Zfn (ZcR (Zc7 G__law_name (hr.mono (by decide)) rfl T.m__law_name T.k__law_name T.b__law_name .nil ZdL (ZcR (Zde ZfC (cv 2) (Zde Zib (Zde Zib ZcZ (cv 0)) (cv 0))) ZcT)) (ZcR (Zc7 G__law_name (hr.mono (by decide)) rfl T.m__law_name T.k__law_name T.b__law_name .nil ZdL (ZcR (Zde ZfC (cv 2) (cv 0)) ZcT)) (ZcR (ZdR Zdt (cv 1) (cv 0) (fun _ _ => rfl)) ZcT))))) Zfp.nd rfl (Or.inl rfl))
   (ZcW (Zc4 (Zdl (ZcR Zc0 (ZcR (ZdR Zdt (cv 3) ZcZ (fun _ _ => rfl)) (ZcR (Zdm Zdj rfl T.z_tuple ZdJ (ZcR (cv 5) ZcT)) ZcT)))))))
   Zc6)
  (ZcU (ZdF (Zdh ZfD (cv 0) ZcZ (Zdk _))
   (ZcW (Zc4 (Zdl (ZcR Zc0 (ZcR (Zdm Zdj rfl T.z_tuple ZdJ (ZcR (cv 3) ZcT)) ZcT)))))
   Zc6)
  (ZcW (Zc4 (Zde Zho (Zdl (ZcR (ZdR Zdt (Zdl (ZcR Zc0 (ZcR Zc0 (ZcR Zc0 (ZcR Zc0 (ZcR Zc0 (ZcR Zc0 (ZcR Zc0 ZcT)))))))) (ZeD Zcr Zcp PySem.F.type_list_index (Zmi hr) (Zdl (ZcR ZcZ (ZcR ZcZ (ZcR ZcZ (ZcR ZcZ (ZcR ZcZ (ZcR ZcZ (ZcR ZcZ ZcT)))))))) (ZcR (cv 0) ZcT)) (fun _ _ => rfl)) ZcT)) (cv 3)))))))))))), ?_⟩
 have sl : sizeLine = 16777216 := sizeLine_eq
 have l8 := ari.le
 have oxs := Zqh gx
 cases dpl with
 | @lst _ ps _ ep dps =>
  have lp := Zds dps
  rw [Zaq] at lp
  refine ⟨pl, rfl, ⟨_, SqL.of (SF _ _ ep)⟩, fun D hD => ?_⟩
  refine Zi8 ps.length (by omega) (fun ys _ => Zfu F ys ((xs.take ys.length).map TM.Internal.Tr.td)) (fun ys H H' h _ => h) hD rfl (fun k H S h => Zh9 (SF _ _ ep) S h) (fun H S => Zia (SF _ _ ep) S) .nil ?_ ?_
  ·intro k H2 v H3 ys Z S hk y hy hyl hZ
   obtain ⟨rfl, hv⟩ := y
   have hv := hv _ (SqL.of (S _ _ (SF _ _ ep)))
   obtain ⟨d, hd, dv⟩ := ZeP dps hv
   rw [Zay] at hd
   obtain ⟨t, ht, rfl⟩ := ZbN.mp hd
   obtain ⟨e, tv, rfl, he, dt⟩ := Zjs dv
   refine ⟨_, S _ _ (SF _ _ he), Zdn (Zdi (j := 0) rfl) (hZ _ _ (Same.refl _) ?_)⟩
   rw [ZaA, ZaL, Za7, hyl, ht, ZaQ]
   rw [hyl] at hy
   exact ZeG hy (.cons dt .nil)
  intro H1 ys S1 dys lys eD
  rw [lys, Za4 (by omega), <- Zej] at dys
  have hDn : H D = none := hD
  refine ⟨arg, rfl, fun nm H2 S2 hnm => ?_⟩
  have S12 := S1.trans S2
  have eD2 := S2 _ _ eD
  dsimp only [Zeb]
  have dz : ∀ {H' : Hp}, Zfu (fz H F H') ys (Zf2 xs) := dys.same (Zjr SF)
  have nw : ∀ {Hx : Hp} {x : Addr}, Same H Hx -> Hx x = none -> H x = none := fun s h => s.free h
  have ly : ys.length <= 8 := by omega
  have okm : ∀ κ : TM.Internal.Kn, κ.ok -> xs.length = κ.ar -> (TM.Internal.Tr.mk κ xs).ok := fun κ h1 h2 => by rw [TM.Internal.Tr.ok]; exact ⟨h1, h2, oxs⟩
  refine ifO rfl (fun h49 => ?_) (fun n4 n9 => ?_)
  ·refine ⟨(by show 2 <= sizeLine; decide), fun g hg => ?_⟩
   have t1 := ZcV hg (.lst [.str "fn", .str "tag"])
   obtain ⟨κ, h1, h2, h3⟩ : ∃ κ : TM.Internal.Kn, atI [V.str "fn", V.str "tag"] (op / 9) = some (.str κ.s) /\ (κ = .fn nm \/ κ = .tag nm) /\ xs.length = 1 := by
    rcases h49 with rfl | rfl
    ·exact ⟨.fn nm, Zdi (j := 0) rfl, .inl rfl, by unfold Ari at ari; omega⟩
    ·exact ⟨.tag nm, Zdi (j := 1) rfl, .inr rfl, by unfold Ari at ari; omega⟩
   refine ⟨⟨by decide, by decide⟩, _, ZcS, Zdn h1 ⟨(by show 2 <= sizeLine; decide), fun a2 ha2 => ?_⟩⟩
   have t2 := ZcV ha2 (.lst [.str κ.s, .str nm])
   refine ⟨a2, D, _, _, rfl, rfl, ZcS, (t1.trans t2) _ _ eD2, by show 2 + ys.length <= sizeLine; omega, fun p hp => ?_⟩
   have t3 := ZcV hp (.lst ([.str κ.s, .str nm] ++ ys))
   have St := S12.trans ((t1.trans t2).trans t3)
   refine q p κ _ St ?_ (okm κ (by rcases h2 with rfl | rfl <;> exact hnm) (by rcases h2 with rfl | rfl <;> exact h3))
   have e0 : H p = none := nw (S12.trans (t1.trans t2)) hp
   rcases h2 with rfl | rfl
   ·exact .lst (Zfk e0 ZcS) (.cons (.flat rfl) (.cons (.flat rfl) dz))
   ·exact .lst (Zfk e0 ZcS) (.cons (.flat rfl) (.cons (.flat rfl) dz))
  refine ifI rfl (fun h6 => ?_) (fun n6 => ?_)
  ·refine ⟨(by show 2 <= sizeLine; decide), fun a2 ha2 => ?_⟩
   have t2 := ZcV ha2 (.lst [.str "let", .str nm])
   refine ⟨a2, D, _, _, rfl, rfl, ZcS, t2 _ _ eD2, by show 2 + ys.length <= sizeLine; omega, fun p hp => ?_⟩
   have t3 := ZcV hp (.lst ([.str "let", .str nm] ++ ys))
   exact q p (.lt nm) _ (S12.trans (t2.trans t3)) (.lst (Zfk (nw (S12.trans t2) hp) ZcS) (.cons (.flat rfl) (.cons (.flat rfl) dz))) (okm _ hnm (by unfold Ari at ari; show xs.length = 2; omega))
  refine ifI rfl (fun h7 => ?_) (fun n7 => ?_)
  ·refine ⟨D, _, rfl, .inl (SqL.of eD2), _, rfl, by omega, by omega, fun D2 hD2 => ?_⟩
   have hD20 : H D2 = none := nw S12 hD2
   refine Zmz (ys.length : Int).toNat (by omega) (fun zs Hc => ∃ l : List Str, l.length = zs.length /\ (∀ w ∈ l, GR.Internal.isName w = true) /\ Zfu (noD (fz H F Hc) D2) zs (pr1 l (Zf2 (xs.take zs.length)))) (fun zs Hc Hc' h fr => by obtain ⟨l, h1, h2, h3⟩ := h; exact ⟨l, h1, h2, h3.same (Znx fr)⟩) hD2 rfl (fun k H _ h => ZnX h) (fun H _ => Zbz _) ⟨[], rfl, fun w hw => (by cases hw), .nil⟩ ?_ ?_
   ·intro k H3 v H4 zs Z S3 hk y hz hzl eD3 hZ
    obtain ⟨rfl, rfl⟩ := y
    obtain ⟨l, h1, h2, h3⟩ := hz
    have hky : k < ys.length := by omega
    obtain ⟨yv, hyv⟩ : ∃ yv, ys[k]? = some yv := ⟨_, ZaW hky⟩
    obtain ⟨d, hd, dyv⟩ := ZeP dys hyv
    rw [Zej, Zay] at hd
    obtain ⟨t, ht, rfl⟩ := ZbN.mp hd
    have hat : atI ys (0 + (k : Int)) = some yv := by rw [Int.zero_add]; exact Zdi hyv
    refine ⟨.inl ⟨by omega, by omega⟩, .inl ⟨by omega, by omega⟩, _, rfl, fun wd H5 S5 hwd => ⟨_, (S3.trans S5) _ _ eD2, Zdn hat ⟨(by show 2 <= sizeLine; decide), fun p hp => hZ _ _ (S5.trans (ZcV hp _)) ?_⟩⟩⟩
    have tp := ZcV hp (.tup [.str wd, yv])
    refine ⟨l ++ [wd], by rw [ZaA, ZaA, h1]; rfl, fun w hw => ?_, ?_⟩
    ·rcases Zag.mp hw with hw | hw
     ·exact h2 w hw
     ·rw [ZaU.mp hw]; exact hwd
    ·rw [ZaA, ZaL, Za7, hzl, ht]
     rw [hzl] at h3 h1
     have e1 : Zf2 (xs.take k ++ [t]) = Zf2 (xs.take k) ++ [t.td] := by rw [Zej, Zej, ZaQ]; rfl
     have e2 : pr1 (l ++ [wd]) (Zf2 (xs.take k) ++ [t.td]) = pr1 l (Zf2 (xs.take k)) ++ [.tup [TM.Internal.sD wd, t.td]] := ZkO (by rw [Zej, Zaq, Zav, h1]; omega)
     show Zfu _ _ (pr1 (l ++ [wd]) (Zf2 (xs.take k ++ [t])))
     rw [e1, e2]
     refine ZeG (h3.same (Znx (S5.trans tp).frD)) (.cons (.tup (Zjo (ZcY (S5 _ _ eD3) hp).symm (Zfk (nw (S12.trans (S3.trans S5)) hp) ZcS)) (.cons (.flat rfl) (.cons ?_ .nil))) .nil)
     have s9 : Same F (noD (fz H F (upd H5 p (.tup [.str wd, yv]))) D2) := fun b u eb => Zjo (ZcY (SF _ _ eb) hD20) (Zjr SF _ _ eb)
     exact dyv.same s9
   ·intro H3 zs S3 hz hzl eD3
    obtain ⟨l, h1, h2, h3⟩ := hz
    have hzy : zs.length = xs.length := by omega
    rw [hzy, ZaR] at h3
    refine ⟨D2, _, rfl, .inl ⟨SqL.of eD3, fun tt htt => ⟨(by show 2 <= sizeLine; decide), fun p hp => ?_⟩⟩⟩
    have t1 := ZcV htt (.tup zs)
    have t2 := ZcV hp (.lst [.str "rec", .ref tt])
    refine q p (.rcd l) _ (S12.trans (S3.trans (t1.trans t2))) ?_ (okm _ ⟨by unfold Ari at ari; omega, h2⟩ (by show xs.length = l.length; omega))
    exact .lst (Zfk (nw (S12.trans (S3.trans t1)) hp) ZcS) (.cons (.flat rfl) (.cons (.tup (Zfk (nw (S12.trans S3) htt) (t2 _ _ ZcS)) ((h3.same Zmw).same (Zmy (t1.trans t2)))) .nil))
  refine ifI rfl (fun h8 => ?_) (fun n8 => ?_)
  ·refine ⟨(by show 1 <= sizeLine; decide), fun a2 ha2 => ?_⟩
   have t2 := ZcV ha2 (.lst [.str "get"])
   refine ⟨a2, D, _, _, rfl, rfl, ZcS, t2 _ _ eD2, by show 1 + ys.length <= sizeLine; omega, fun p hp => ?_⟩
   have t3 := ZcV hp (.lst ([.str "get"] ++ ys))
   refine ⟨(by show 1 <= sizeLine; decide), fun a4 ha4 => ?_⟩
   have t4 := ZcV ha4 (.lst [.str nm])
   refine ⟨p, a4, _, _, rfl, rfl, t4 _ _ ZcS, ZcS, by rw [ZaA]; show 1 + ys.length + 1 <= sizeLine; omega, fun p' hp' => ?_⟩
   have t5 := ZcV hp' (.lst ([.str "get"] ++ ys ++ [.str nm]))
   exact q p' (.get nm) _ (S12.trans (t2.trans (t3.trans (t4.trans t5)))) (.lst (Zfk (nw (S12.trans (t2.trans (t3.trans t4))) hp') ZcS) (.cons (.flat rfl) (ZeG dz (.cons (.flat rfl) .nil)))) (okm _ hnm (by unfold Ari at ari; show xs.length = 1; omega))
  refine ifI rfl (fun h10 => ?_) (fun n10 => ?_)
  ·have hx2 : 2 <= xs.length /\ xs.length <= 7 := by unfold Ari at ari; omega
   refine ⟨D, _, rfl, .inl (SqL.of eD2), 1, _, rfl, ⟨by omega, by omega, by omega, by omega⟩, fun D2 hD2 => ?_⟩
   have hD20 : H D2 = none := nw S12 hD2
   obtain ⟨x0, xr, hxs⟩ : ∃ x0 xr, xs = x0 :: xr := by
    cases xs with
    | nil => exact absurd hx2.1 (by simp)
    | cons a b => exact ⟨a, b, rfl⟩
   have lxr : xr.length + 1 = xs.length := by rw [hxs]; rfl
   refine Zmz ((ys.length : Int) - 1).toNat (by omega) (fun zs Hc => ∃ l : List (Str × Str), l.length = zs.length /\ (∀ w ∈ l, GR.Internal.isName w.1 = true /\ GR.Internal.isName w.2 = true) /\ Zfu (noD (fz H F Hc) D2) zs (pr2 l (Zf2 (xr.take zs.length)))) (fun zs Hc Hc' h fr => by obtain ⟨l, h1, h2, h3⟩ := h; exact ⟨l, h1, h2, h3.same (Znx fr)⟩) hD2 rfl (fun k H _ h => ZnX h) (fun H _ => Zbz _) ⟨[], rfl, fun w hw => (by cases hw), .nil⟩ ?_ ?_
   ·intro k H3 v H4 zs Z S3 hk y hz hzl eD3 hZ
    obtain ⟨rfl, rfl⟩ := y
    obtain ⟨l, h1, h2, h3⟩ := hz
    have hky : 1 + k < ys.length := by omega
    obtain ⟨yv, hyv⟩ : ∃ yv, ys[1 + k]? = some yv := ⟨_, ZaW hky⟩
    obtain ⟨d, hd, dyv⟩ := ZeP dys hyv
    rw [Zej, Zay] at hd
    obtain ⟨t, ht, rfl⟩ := ZbN.mp hd
    have htr : xr[k]? = some t := by rw [hxs, Nat.add_comm, Za0] at ht; exact ht
    have hat : atI ys (1 + (k : Int)) = some yv := by
     have e : (1 + (k : Int)) = ((1 + k : Nat) : Int) := by omega
     rw [e]
     exact Zdi hyv
    refine ⟨.inl ⟨by omega, by omega⟩, .inl ⟨by omega, by omega⟩, _, rfl, fun wd H5 S5 hwd => ⟨_, rfl, fun wd2 H6 S6 hwd2 => ⟨_, (S3.trans (S5.trans S6)) _ _ eD2, Zdn hat ⟨(by show 3 <= sizeLine; decide), fun p hp => hZ _ _ (S5.trans (S6.trans (ZcV hp _))) ?_⟩⟩⟩⟩
    have tp := ZcV hp (.tup [.str wd, .str wd2, yv])
    refine ⟨l ++ [(wd, wd2)], by rw [ZaA, ZaA, h1]; rfl, fun w hw => ?_, ?_⟩
    ·rcases Zag.mp hw with hw | hw
     ·exact h2 w hw
     ·rw [ZaU.mp hw]; exact ⟨hwd, hwd2⟩
    ·rw [ZaA, ZaL, Za7, hzl, htr]
     rw [hzl] at h3 h1
     have e1 : Zf2 (xr.take k ++ [t]) = Zf2 (xr.take k) ++ [t.td] := by rw [Zej, Zej, ZaQ]; rfl
     have e2 : pr2 (l ++ [(wd, wd2)]) (Zf2 (xr.take k) ++ [t.td]) = pr2 l (Zf2 (xr.take k)) ++ [.tup [TM.Internal.sD wd, TM.Internal.sD wd2, t.td]] := ZkP (by rw [Zej, Zaq, Zav, h1]; omega)
     show Zfu _ _ (pr2 (l ++ [(wd, wd2)]) (Zf2 (xr.take k ++ [t])))
     rw [e1, e2]
     have s56 := S5.trans S6
     refine ZeG (h3.same (Znx (s56.trans tp).frD)) (.cons (.tup (Zjo (ZcY (s56 _ _ eD3) hp).symm (Zfk (nw (S12.trans (S3.trans s56)) hp) ZcS)) (.cons (.flat rfl) (.cons (.flat rfl) (.cons ?_ .nil)))) .nil)
     have s9 : Same F (noD (fz H F (upd H6 p (.tup [.str wd, .str wd2, yv]))) D2) := fun b u eb => Zjo (ZcY (SF _ _ eb) hD20) (Zjr SF _ _ eb)
     exact dyv.same s9
   ·intro H3 zs S3 hz hzl eD3
    obtain ⟨l, h1, h2, h3⟩ := hz
    have hzy : zs.length = xr.length := by omega
    rw [hzy, ZaR] at h3
    obtain ⟨y0, hy0⟩ : ∃ y0, ys[0]? = some y0 := ⟨_, ZaW (by omega)⟩
    obtain ⟨d0, hd0, dy0⟩ := ZeP dys hy0
    rw [Zej, hxs] at hd0
    cases hd0
    refine ⟨_, S3 _ _ eD2, Zdn (Zdi (j := 0) hy0) ⟨D2, _, rfl, .inl ⟨SqL.of eD3, fun tt htt => ⟨(by show 3 <= sizeLine; decide), fun p hp => ?_⟩⟩⟩⟩
    have t1 := ZcV htt (.tup zs)
    have t2 := ZcV hp (.lst [.str "case", y0, .ref tt])
    refine q p (.case l) _ (S12.trans (S3.trans (t1.trans t2))) ?_ (okm _ ⟨by omega, by omega, h2⟩ (by show xs.length = l.length + 1; omega))
    rw [TM.Internal.Tr.td, Zej, hxs, Zap, <- Zej]
    exact .lst (Zfk (nw (S12.trans (S3.trans t1)) hp) ZcS) (.cons (.flat rfl) (.cons (dy0.same (Zjr SF)) (.cons (.tup (Zfk (nw (S12.trans S3) htt) (t2 _ _ ZcS)) ((h3.same Zmw).same (Zmy (t1.trans t2)))) .nil)))
  refine ifI rfl (fun h11 => ?_) (fun n11 => ?_)
  ·refine ⟨D, _, rfl, .inl ⟨SqL.of eD2, fun tt htt => ⟨(by show 2 <= sizeLine; decide), fun p hp => ?_⟩⟩⟩
   have t1 := ZcV htt (.tup ys)
   have t2 := ZcV hp (.lst [.str "row", .ref tt])
   exact q p (.row xs.length) _ (S12.trans (t1.trans t2)) (.lst (Zfk (nw (S12.trans t1) hp) ZcS) (.cons (.flat rfl) (.cons (.tup (Zfk (nw S12 htt) (t2 _ _ ZcS)) dz) .nil))) (okm _ l8 rfl)
  ·refine ⟨(by show 7 <= sizeLine; decide), fun g hg => ⟨(by show 7 <= sizeLine; decide), fun g2 hg2 => ?_⟩⟩
   have t1 := ZcV hg (.lst [.str "call", .str "at", .str "join", .str "size", .str "add", .str "sub", .str "less"])
   have t2 := ZcV hg2 (.lst [.int 5, .int 12, .int 13, .int 14, .int 15, .int 16, .int 17])
   obtain ⟨j, s', hj, hjn, hs, hm⟩ : ∃ (j : Nat) (s' : Str), ([5, 12, 13, 14, 15, 16, 17] : List Int)[j]? = some op /\ (∀ m : Nat, m < j -> ([5, 12, 13, 14, 15, 16, 17] : List Int)[m]? ≠ some op) /\ ([V.str "call", V.str "at", V.str "join", V.str "size", V.str "add", V.str "sub", V.str "less"])[j]? = some (.str s') /\ (s', xs.length) ∈ TM.Internal.ops := by
    have hop : (op = 5 /\ xs.length = 2) \/ (op = 12 /\ xs.length = 3) \/ (op = 13 /\ xs.length = 2) \/ (op = 14 /\ xs.length = 1) \/ (op = 15 /\ xs.length = 2) \/ (op = 16 /\ xs.length = 2) \/ (op = 17 /\ xs.length = 2) := by unfold Ari at ari; omega
    rcases hop with ⟨rfl, h⟩ | ⟨rfl, h⟩ | ⟨rfl, h⟩ | ⟨rfl, h⟩ | ⟨rfl, h⟩ | ⟨rfl, h⟩ | ⟨rfl, h⟩
    ·exact ⟨0, "call", rfl, by decide, rfl, by rw [h]; decide +kernel⟩
    ·exact ⟨1, "at", rfl, by decide, rfl, by rw [h]; decide +kernel⟩
    ·exact ⟨2, "join", rfl, by decide, rfl, by rw [h]; decide +kernel⟩
    ·exact ⟨3, "size", rfl, by decide, rfl, by rw [h]; decide +kernel⟩
    ·exact ⟨4, "add", rfl, by decide, rfl, by rw [h]; decide +kernel⟩
    ·exact ⟨5, "sub", rfl, by decide, rfl, by rw [h]; decide +kernel⟩
    ·exact ⟨6, "less", rfl, by decide, rfl, by rw [h]; decide +kernel⟩
   refine ⟨.inl ⟨rfl, _, SqL.of ZcS⟩, g2, [5, 12, 13, 14, 15, 16, 17], op, j, rfl, rfl, SqL.of ZcS, by decide, hj, hjn, _, t2 _ _ ZcS, Zdn (Zdi hs) ⟨(by show 1 <= sizeLine; decide), fun a2 ha2 => ?_⟩⟩
   have t3 := ZcV ha2 (.lst [.str s'])
   refine ⟨a2, D, _, _, rfl, rfl, ZcS, (t1.trans (t2.trans t3)) _ _ eD2, by show 1 + ys.length <= sizeLine; omega, fun p hp => ?_⟩
   have t4 := ZcV hp (.lst ([.str s'] ++ ys))
   exact q p (.op s' xs.length) _ (S12.trans (t1.trans (t2.trans (t3.trans t4)))) (.lst (Zfk (nw (S12.trans (t1.trans (t2.trans t3))) hp) ZcS) (.cons (.flat rfl) dz)) (okm _ hm rfl)
end
end K04.Internal
namespace K04.Internal
open PySem L2.Internal BO.Internal
seal L2.Internal.PE L2.Internal.PA L2.Internal.PS L2.Internal.PSs L2.Internal.PT L2.Internal.PI
theorem ZmA {K : PySem.W.Frag} {F H1 : Hp} {l : Addr} {ps : List V} {xs : List TM.Internal.Tr} {i : Nat} {te : TE} {Q : VK} {τ : St} {D : Addr} (f : TM.Internal.Tr -> V) (SF : Same F H1) (ep : F l = some (.lst ps)) (dps : Zfu F ps (xs.map itD)) (hl : xs.length <= 1000) (hD : H1 D = none) (hτ : τ.set i none = τ)
  (step : ∀ (e : Addr) (tv : V) (t : TM.Internal.Tr) (H : Hp) (Z : VK), Same H1 H -> t ∈ xs -> H e = some (.lst [tv, .int (t.nest : Int), .int (t.sz : Int)]) -> Z (f t) H -> te (τ.set i (some (.ref e))) H Z)
  (hq : ∀ H', Same H1 H' -> H' D = some (.lst (xs.map f)) -> Q (.ref D) H') : LcP (Itl K l) i ZgJ te Q τ H1 D := by
 have lp := Zds dps
 rw [Zaq] at lp
 have sl : sizeLine = 16777216 := sizeLine_eq
 refine Zi8 ps.length (by omega) (fun ys _ => ys = (xs.take ys.length).map f) (fun ys H H' h _ => h) hD hτ (fun k H S h => Zh9 (SF _ _ ep) S h) (fun H S => Zia (SF _ _ ep) S) rfl ?_ ?_
 ·intro k H2 v H3 ys Z S hk y hy hyl hZ
  obtain ⟨rfl, hv⟩ := y
  have hv := hv _ (SqL.of (S _ _ (SF _ _ ep)))
  obtain ⟨d, hd, dv⟩ := ZeP dps hv
  rw [Zay] at hd
  obtain ⟨t, ht, rfl⟩ := ZbN.mp hd
  obtain ⟨e, tv, rfl, he, dt⟩ := Zjs dv
  refine step e tv t _ _ S (Zaz ht) (S _ _ (SF _ _ he)) (hZ _ _ (Same.refl _) ?_)
  rw [ZaA, ZaL, Za7, hyl, ht, ZaQ]
  rw [hyl] at hy
  rw [<- hy]
  rfl
 ·intro H' ys S hy hyl e
  rw [hyl, Za4 (by omega)] at hy
  rw [hy] at e
  exact hq H' S e
theorem ZkQ {xs : List TM.Internal.Tr} {n : Int} (h0 : 0 <= n) : (∀ t ∈ xs, (t.nest : Int) <= n) -> (TM.Internal.nests xs : Int) <= n := by
 induction xs with
 | nil => intro _; rw [TM.Internal.nests]; exact h0
 | cons x xs ih =>
  intro h
  rw [TM.Internal.nests]
  have h1 := h x Zad
  have h2 := ih fun t ht => h t (Zae _ ht)
  omega
theorem Zny {xs : List TM.Internal.Tr} {t : TM.Internal.Tr} (h : t ∈ xs) : t.nest <= TM.Internal.nests xs := by
 induction xs with
 | nil => cases h
 | cons x xs ih =>
  rw [TM.Internal.nests]
  rcases Zaf.mp h with e | e
  ·rw [e]; exact ZbC _ _
  ·exact Zbw (ih e) (ZbD _ _)
theorem ZmB : ∀ xs : List TM.Internal.Tr, (xs.map fun t => (t.sz : Int)).sum = (TM.Internal.szs xs : Int)
 | [] => rfl
 | x :: xs => by rw [Zap, Za8, ZmB xs, TM.Internal.szs]; omega
theorem Zqi {xs : List TM.Internal.Tr} : (∀ t ∈ xs, t.sz <= 160) -> TM.Internal.szs xs <= 160 * xs.length := by
 induction xs with
 | nil => intro _; rw [TM.Internal.szs]; exact ZbA _
 | cons x xs ih =>
  intro h
  rw [TM.Internal.szs, Zan]
  have h1 := h x Zad
  have h2 := ih fun t ht => h t (Zae _ ht)
  omega
theorem ifL {j : Nat} {M n : Int} {A u : TS} {D : Zih} {σ : St} {H : Hp} (hv : σ[j]? = some (some (.int M))) (kt : M < n -> A { D with nx := u D } σ H) (kf : n <= M -> u D σ H) : ZnL (ZnM (cT (tOp (cI0 fun i j => V.bl (decide (i < j))) (cV j) (tC (.int n)))) A ZhP) u D σ H := by
 show onV σ[j]? _
 rw [hv]
 show if decide (M < n) = true then _ else _
 by_cases h : M < n
 ·rw [decide_eq_true h]; exact ZeI (kt h)
 ·rw [decide_eq_false h]; exact Zeq (kf (by omega))
theorem ZoY (op arg : Int) (h4 : 4 <= op) (h18 : op < 18) : ∃ m : Nat, atI [V.int 1, V.int 2, V.int 2, V.int (arg % 7), V.int 1, V.int 1, V.int (2 + arg % 6), V.int (arg % 9), V.int 3, V.int 2, V.int 1, V.int 2, V.int 2, V.int 2] (op - 4) = some (.int (m : Int)) /\ Ari op m := by
 have a7 : 0 <= arg % 7 /\ arg % 7 < 7 := ⟨ZcI _ (by decide), ZcJ _ (by decide)⟩
 have a6 : 0 <= arg % 6 /\ arg % 6 < 6 := ⟨ZcI _ (by decide), ZcJ _ (by decide)⟩
 have a9 : 0 <= arg % 9 /\ arg % 9 < 9 := ⟨ZcI _ (by decide), ZcJ _ (by decide)⟩
 generalize arg % 7 = x7 at *
 generalize arg % 6 = x6 at *
 generalize arg % 9 = x9 at *
 have ho : op = 4 \/ op = 5 \/ op = 6 \/ op = 7 \/ op = 8 \/ op = 9 \/ op = 10 \/ op = 11 \/ op = 12 \/ op = 13 \/ op = 14 \/ op = 15 \/ op = 16 \/ op = 17 := by omega
 have cc : ∀ x : Int, 0 <= x -> some (V.int x) = some (V.int (x.toNat : Int)) := fun x h => by rw [Int.toNat_of_nonneg h]
 rcases ho with rfl | rfl | rfl | rfl | rfl | rfl | rfl | rfl | rfl | rfl | rfl | rfl | rfl | rfl
 ·exact ⟨1, rfl, by unfold Ari; omega⟩
 ·exact ⟨2, rfl, by unfold Ari; omega⟩
 ·exact ⟨2, rfl, by unfold Ari; omega⟩
 ·exact ⟨x7.toNat, (cc x7 a7.1 : _), by unfold Ari; omega⟩
 ·exact ⟨1, rfl, by unfold Ari; omega⟩
 ·exact ⟨1, rfl, by unfold Ari; omega⟩
 ·exact ⟨(2 + x6).toNat, (cc (2 + x6) (by omega) : _), by unfold Ari; omega⟩
 ·exact ⟨x9.toNat, (cc x9 a9.1 : _), by unfold Ari; omega⟩
 ·exact ⟨3, rfl, by unfold Ari; omega⟩
 ·exact ⟨2, rfl, by unfold Ari; omega⟩
 ·exact ⟨1, rfl, by unfold Ari; omega⟩
 ·exact ⟨2, rfl, by unfold Ari; omega⟩
 ·exact ⟨2, rfl, by unfold Ari; omega⟩
 ·exact ⟨2, rfl, by unfold Ari; omega⟩
theorem sz1 {κ : TM.Internal.Kn} : (TM.Internal.Tr.mk κ []).sz = 1 /\ (TM.Internal.Tr.mk κ []).nest = 1 := by rw [TM.Internal.Tr.sz, TM.Internal.Tr.nest, TM.Internal.szs, TM.Internal.nests]; exact ⟨rfl, rfl⟩
section
variable {P : Program} {w : World} {K : PySem.W.Frag} {mg : Str -> Option Value} {base : Heap}
noncomputable def Zjv : Sp := fun vs H Q _ => ∃ (F : Hp) (op arg : Int) (st : Addr) (ts : List TM.Internal.Tr), vs = [.int op, .int arg, .ref st] /\ 0 <= op /\ op < 18 /\ Same F H /\ Stk F H st ts /\
 ∀ (r : Addr) (t : TM.Internal.Tr) (ts' : List TM.Internal.Tr) (F' H' : Hp), Gw F H F' H' -> FrD st H H' -> Stk F' H' st ts' -> Dta F' (.ref r) (itD t) -> t.ok -> t.sz <= 2000 -> t.nest <= 100 -> Sb ts' ts -> Q (.ref r) H'
theorem Zjw (T : Txt K mg) : ZdK P w K mg base CX0 3 T.a__law_item T.fd__law_item ["_law_op", "_law_arg", "_law_stack"] Zjv := by
 have G__law_name := ZfN (P := P) (w := w) (base := base) T
 have G__law_many := Zjq (P := P) (w := w) (base := base) T
 have G__law_tree := Zju (P := P) (w := w) (base := base) T
 refine T.F__law_item.ok Zfq (fun vs H Q E h => ?_) (fun cdv A outer s H vs Q E hr h => ?_)
 ·obtain ⟨F, op, arg, st, ts, rfl, _⟩ := h
  rfl
 obtain ⟨F, op, arg, st, ts, rfl, o0, o1, SF, hS, q⟩ := h
 refine ⟨_, (ZcU (ZdF (Zdh ZoI (cv 0) ZcZ (Zdk _))
   (ZcW (Zc4 (Zdl (ZcR (Zdl (ZcR Zc0 (ZcR (Zde ZeR (cv 1) (ZdR Zdt (Zdl (ZcR ZcZ (ZcR (Zde Zme ZcZ ZcZ) (ZcR (Zde Zme ZcZ ZcZ) ZcT)))) (Zde ZfC (cv 0) (Zde ZeR (cv 1) ZcZ)) (fun _ _ => rfl))) ZcT))) (ZcR ZcZ (ZcR ZcZ ZcT))))))
   Zc6)
  (ZcU (ZdF (Zdh ZoI (cv 0) ZcZ (Zdk _))
   (ZcW (Zc4 (Zdl (ZcR (Zdl (ZcR Zc0 (ZcR (Zc7 G__law_name (hr.mono (by decide)) rfl T.m__law_name T.k__law_name T.b__law_name .nil ZdL (ZcR (cv 1) ZcT)) ZcT))) (ZcR ZcZ (ZcR ZcZ ZcT))))))
   Zc6)
  (ZcU (Zc9 (i := 3) Zfq.nd rfl (Or.inl rfl) (ZdR Zdt (Zdl (ZcR ZcZ (ZcR ZcZ (ZcR ZcZ (ZcR (Zde ZeR (cv 1) ZcZ) (ZcR ZcZ (ZcR ZcZ (ZcR (Zde ZfC ZcZ (Zde ZeR (cv 1) ZcZ)) (ZcR (Zde ZeR (cv 1) ZcZ) (ZcR ZcZ (ZcR ZcZ (ZcR ZcZ (ZcR ZcZ (ZcR ZcZ (ZcR ZcZ ZcT))))))))))))))) (Zde Zn0 (cv 0) ZcZ) (fun _ _ => rfl)))
  (ZcU (Zc9 (i := 4) Zfq.nd rfl (Or.inl rfl) (Zc7 G__law_many (hr.mono (by decide)) rfl T.m__law_many T.k__law_many T.b__law_many .nil ZdL (ZcR (cv 2) (ZcR (cv 3) ZcT))))
  (ZcU (Zc9 (i := 5) Zfq.nd rfl (Or.inl rfl) (Zde ZfC ZcZ (Zc3 (Zmh rfl) rfl T.z_max ZpX (ZcR (Zde Zho (Zdl (ZcR ZcZ ZcT)) (Zgo rfl (ZnU (x := "_law_part_here") rfl (by decide +kernel) (by decide +kernel) rfl rfl) (Ze4 (cv 4)) (fun _ _ _ _ _ => ZeK) (fun _ _ _ _ _ => (ZdR Zdt (cv 0) ZcZ (fun _ _ => rfl))))) ZcT))))
  (ZcW (Zc4 (Zdl (ZcR (Zc7 G__law_tree (hr.mono (by decide)) rfl T.m__law_tree T.k__law_tree T.b__law_tree .nil ZdL (ZcR (cv 0) (ZcR (cv 1) (ZcR (cv 4) ZcT)))) (ZcR (cv 5) (ZcR (Zde ZfC ZcZ (Zc3 (Zmf rfl) rfl T.z_sum ZnS (ZcR (Zgo rfl (ZnU (x := "_law_part_here") rfl (by decide +kernel) (by decide +kernel) rfl rfl) (Ze4 (cv 4)) (fun _ _ _ _ _ => ZeK) (fun _ _ _ _ _ => (ZdR Zdt (cv 0) ZcZ (fun _ _ => rfl)))) ZcT))) ZcT))))))))))), ?_⟩
 have sl : sizeLine = 16777216 := sizeLine_eq
 obtain ⟨vs, e, d, l, g, fs⟩ := id hS
 refine ifL rfl (fun h2 => ?_) (fun h2 => ?_)
 ·have pw : ZqJ 10 9 /\ ZqJ 10 60 := ⟨⟨by decide, by decide, by decide⟩, ⟨by decide, by decide, by decide⟩⟩
  refine ⟨pw.1, pw.2, (by show 3 <= sizeLine; decide), fun a ha => ⟨(by show (0 : Int) < 2; decide), _, ZcS, ?_⟩⟩
  have t0 := ZcV ha (.lst [.int 10, .int (10 ^ (9 : Int).toNat), .int (10 ^ (60 : Int).toNat)])
  have a2 : 0 <= arg % 2 /\ arg % 2 < 2 := ⟨ZcI _ (by decide), ZcJ _ (by decide)⟩
  obtain ⟨b, hb, hb0, hb1⟩ : ∃ b : Int, atI [V.int 10, V.int (10 ^ (9 : Int).toNat), V.int (10 ^ (60 : Int).toNat)] (op + arg % 2) = some (.int b) /\ 0 < b /\ b <= 10 ^ 60 := by
   have : op + arg % 2 = 0 \/ op + arg % 2 = 1 \/ op + arg % 2 = 2 := by omega
   rcases this with h | h | h
   ·rw [h]; exact ⟨10, rfl, by decide, by decide +kernel⟩
   ·rw [h]; exact ⟨10 ^ (9 : Int).toNat, rfl, by decide +kernel, by decide +kernel⟩
   ·rw [h]; exact ⟨10 ^ (60 : Int).toNat, rfl, by decide +kernel, by decide +kernel⟩
  refine Zdn hb ⟨hb0, (by show 2 <= sizeLine; decide), fun p hp => ⟨(by show 3 <= sizeLine; decide), fun r hr' => ?_⟩⟩
  have n0 : 0 <= arg % b := ZcI _ (by omega)
  have n1 : arg % b < b := ZcJ _ hb0
  have g0 : Gw F H F _ := Gw.mut SF ha (.lst [.int 10, .int (10 ^ (9 : Int).toNat), .int (10 ^ (60 : Int).toNat)])
  have g1 := Gw.new g0.fh hp (.lst [.str "num", .int (arg % b)])
  have g2 := Gw.new g1.fh hr' (.lst [.ref p, .int 1, .int 1])
  have gg := g0.trans (g1.trans g2)
  have t12 := t0.trans ((ZcV hp (.lst [.str "num", .int (arg % b)])).trans (ZcV hr' (.lst [.ref p, .int 1, .int 1])))
  refine q r (.mk (.num (arg % b)) []) ts _ _ gg t12.frD ⟨vs, t12 _ _ e, d.same gg.ff, l, g, gg.no _ _ e fs⟩ ?_ ?_ ?_ ?_ (Sb.refl _)
  ·exact .lst ZcS (.cons (.lst (g2.ff _ _ ZcS) (.cons (.flat rfl) (.cons (.flat rfl) .nil))) (.cons (.flat rfl) (.cons (.flat rfl) .nil)))
  ·rw [TM.Internal.Tr.ok]; exact ⟨⟨n0, by omega⟩, rfl, by rw [TM.Internal.oks]; trivial⟩
  ·rw [sz1.1]; decide
  ·rw [sz1.2]; decide
 refine ifL rfl (fun h4 => ?_) (fun h4 => ?_)
 ·refine ⟨arg, rfl, fun nm H2 S2 hnm => ⟨(by show 2 <= sizeLine; decide), fun p hp => ⟨(by show 3 <= sizeLine; decide), fun r hr' => ?_⟩⟩⟩
  have g0 : Gw F H (fz H F H2) H2 := Znw SF S2
  have g1 := Gw.new g0.fh hp (.lst [.str "name", .str nm])
  have g2 := Gw.new g1.fh hr' (.lst [.ref p, .int 1, .int 1])
  have gg := g0.trans (g1.trans g2)
  have t12 := S2.trans ((ZcV hp (.lst [.str "name", .str nm])).trans (ZcV hr' (.lst [.ref p, .int 1, .int 1])))
  refine q r (.mk (.name nm) []) ts _ _ gg t12.frD ⟨vs, t12 _ _ e, d.same gg.ff, l, g, gg.no _ _ e fs⟩ ?_ ?_ ?_ ?_ (Sb.refl _)
  ·exact .lst ZcS (.cons (.lst (g2.ff _ _ ZcS) (.cons (.flat rfl) (.cons (.flat rfl) .nil))) (.cons (.flat rfl) (.cons (.flat rfl) .nil)))
  ·rw [TM.Internal.Tr.ok]; exact ⟨hnm, rfl, by rw [TM.Internal.oks]; trivial⟩
  ·rw [sz1.1]; decide
  ·rw [sz1.2]; decide
 obtain ⟨m, hm, ari⟩ := ZoY op arg h4 o1
 have m8 := ari.le
 refine ⟨(by show (0 : Int) < 7; decide), (by show (0 : Int) < 6; decide), (by show (0 : Int) < 9; decide), (by show 14 <= sizeLine; decide), fun a ha => ⟨_, ZcS, Zdn hm ?_⟩⟩
 have t0 := ZcV ha (.lst [.int 1, .int 2, .int 2, .int (arg % 7), .int 1, .int 1, .int (2 + arg % 6), .int (arg % 9), .int 3, .int 2, .int 1, .int 2, .int 2, .int 2])
 have g0 : Gw F H F _ := Gw.mut SF ha (.lst [.int 1, .int 2, .int 2, .int (arg % 7), .int 1, .int 1, .int (2 + arg % 6), .int (arg % 9), .int 3, .int 2, .int 1, .int 2, .int 2, .int 2])
 refine ⟨F, st, ts, m, rfl, g0.fh, ⟨vs, t0 _ _ e, d, l, g, fs⟩, by omega, fun pl xs ts1 F1 H1 g1 f1 s1 dl hxl gx hts => ?_⟩
 dsimp only [Zeb]
 cases dl with
 | @lst _ ps _ ep dps =>
  have SF1 := g1.fh
  refine ⟨(by show 1 <= sizeLine; decide), fun a2 ha2 => ?_⟩
  have u1 := ZcV ha2 (.lst [.int 0])
  refine ⟨pl, rfl, ⟨_, SqL.of (u1 _ _ (SF1 _ _ ep))⟩, fun D hD => ?_⟩
  refine ZmA (fun t => .int (t.nest : Int)) (SF1.trans u1) ep dps (by omega) hD rfl (fun e tv t H Z S ht he hz => ⟨_, he, Zdn (Zdi (j := 1) rfl) hz⟩) fun H2 S2 eD => ?_
  refine ⟨a2, D, _, _, rfl, rfl, S2 _ _ ZcS, eD, by rw [Zaq]; show 1 + xs.length <= sizeLine; omega, fun p hp => ?_⟩
  have u3 := ZcV hp (.lst ([.int 0] ++ xs.map fun t => V.int (t.nest : Int)))
  refine ⟨p, 0 :: xs.map fun t => (t.nest : Int), rfl, SqL.of (by rw [ZcS, Zap, ZaY]; rfl), Zbe _ _, fun n hn hmx => ?_⟩
  have en : n = (TM.Internal.nests xs : Int) := by
   have h1 := hmx 0 Zad
   have h2 := ZkQ h1 fun t ht => hmx _ (Zae _ (Zbq ht))
   rcases Zaf.mp hn with h | h
   ·omega
   ·obtain ⟨t, ht, rfl⟩ := ZaX.mp h
    have := Zny ht
    omega
  dsimp only [Zeb]
  have S13 := u1.trans (S2.trans u3)
  refine ⟨_, op, arg, pl, xs, rfl, SF1.trans S13, .lst ep dps, gx, by rw [hxl]; exact ari, fun r κ H4 S4 dr okr => ?_⟩
  have gA : Gw F1 H1 _ _ := ⟨Same.refl _, SF1.trans S13, fun _ _ _ h => h, fun _ o e => ⟨o, S13 _ _ e⟩⟩
  have gB := Znw (SF1.trans S13) S4
  refine ⟨pl, rfl, ⟨_, SqL.of (gB.fh _ _ (gB.ff _ _ ep))⟩, fun D2 hD2 => ?_⟩
  refine ZmA (fun t => .int (t.sz : Int)) gB.fh (gB.ff _ _ ep) (dps.same gB.ff) (by omega) hD2 rfl (fun e tv t H Z S ht he hz => ⟨_, he, Zdn (Zdi (j := 2) rfl) hz⟩) fun H5 S5 eD2 => ?_
  refine ⟨D2, xs.map fun t => (t.sz : Int), rfl, SqL.of (by rw [eD2, ZaY]; rfl), by rw [Zaq]; omega, fun n hn => ?_, ?_⟩
  ·obtain ⟨t, ht, rfl⟩ := ZaX.mp hn
   have := (gx t ht).2.2
   omega
  rw [ZmB, en]
  refine ⟨(by show 3 <= sizeLine; decide), fun r2 hr2 => ?_⟩
  have gC : Gw _ _ _ _ := ⟨Same.refl _, gB.fh.trans S5, fun _ _ _ h => h, fun _ o e => ⟨o, S5 _ _ e⟩⟩
  have gD := Gw.new gC.fh hr2 (.lst [.ref r, .int (1 + (TM.Internal.nests xs : Int)), .int (1 + (TM.Internal.szs xs : Int))])
  have gE := gA.trans (gB.trans (gC.trans gD))
  have tE := S13.trans (S4.trans (S5.trans (ZcV hr2 (.lst [.ref r, .int (1 + (TM.Internal.nests xs : Int)), .int (1 + (TM.Internal.szs xs : Int))]))))
  obtain ⟨vs1, e1, d1, l1, gg1, fs1⟩ := s1
  have hsz : (TM.Internal.Tr.mk κ xs).sz = 1 + TM.Internal.szs xs := by rw [TM.Internal.Tr.sz]
  have hnt : (TM.Internal.Tr.mk κ xs).nest = 1 + TM.Internal.nests xs := by rw [TM.Internal.Tr.nest]
  refine q r2 (.mk κ xs) ts1 _ _ (g0.trans (g1.trans gE)) ((t0.frD).trans (f1.trans tE.frD)) ⟨vs1, tE _ _ e1, d1.same gE.ff, l1, gg1, gE.no _ _ e1 fs1⟩ ?_ okr ?_ ?_ hts
  ·have hd : itD (.mk κ xs) = .lst [(TM.Internal.Tr.mk κ xs).td, .flat (.int (1 + (TM.Internal.nests xs : Int))), .flat (.int (1 + (TM.Internal.szs xs : Int)))] := by
    unfold itD iD
    rw [hnt, hsz, Int.natCast_add, Int.natCast_add]
    rfl
   rw [hd]
   exact .lst ZcS (.cons ((dr.same gC.ff).same gD.ff) (.cons (.flat rfl) (.cons (.flat rfl) .nil)))
  ·have := Zqi fun t ht => (gx t ht).2.2
   omega
  ·have : (TM.Internal.nests xs : Int) <= 24 := ZkQ (by decide) fun t ht => by have := (gx t ht).2.1; omega
   omega
end
end K04.Internal
namespace K04.Internal
open PySem L2.Internal BO.Internal
seal L2.Internal.PE L2.Internal.PA L2.Internal.PS L2.Internal.PSs L2.Internal.PT L2.Internal.PI
noncomputable def mdD (p : Str × TM.Internal.Tr) : Dt := .lst [TM.Internal.sD p.1, p.2.td]
noncomputable def tot : List (Str × TM.Internal.Tr) -> Nat
 | [] => 0
 | p :: l => p.2.sz + tot l
theorem ZiI : ∀ (a b : List (Str × TM.Internal.Tr)), tot (a ++ b) = tot a + tot b
 | [], b => by rw [ZaM, tot, ZbI]
 | x :: a, b => by rw [Zbg, tot, tot, ZiI a b, ZbK]
noncomputable def GdM (p : Str × TM.Internal.Tr) : Prop := GR.Internal.isName p.1 = true /\ Gd p.2
noncomputable def Mdl (F H : Hp) (md : Addr) (ms : List (Str × TM.Internal.Tr)) : Prop := ∃ vs, H md = some (.lst vs) /\ Zfu F vs (ms.map mdD) /\ (∀ p ∈ ms, GdM p) /\ F md = none
theorem ZqP {t1 t2 : TT} {σ : St} {H : Hp} {R : Bool -> Hp -> Prop} (b1 b2 : Bool) (h1 : ∀ R : Bool -> Hp -> Prop, R b1 H -> t1 σ H R) (h2 : ∀ R : Bool -> Hp -> Prop, R b2 H -> t2 σ H R) (k : R (b1 && b2) H) : ZrF t1 t2 σ H R := by
 refine h1 _ ?_
 cases b1 with
 | true => exact ZeI (h2 _ k)
 | false => exact Zeq k
theorem ifd {A B : TS} {D : Zih} {σ : St} {H : Hp} {t : TT} (b : Bool) (ht : ∀ R : Bool -> Hp -> Prop, R b H -> t σ H R) (kt : b = true -> A D σ H) (kf : b = false -> B D σ H) : ZnM t A B D σ H := by
 refine ht _ ?_
 cases b with
 | true => exact ZeI (kt rfl)
 | false => exact Zeq (kf rfl)
section
variable {P : Program} {w : World} {K : PySem.W.Frag} {mg : Str -> Option Value} {base : Heap}
noncomputable def ZiJ (K : PySem.W.Frag) : Sp := fun vs H Q _ => ∃ (a : Addr) (ns : List Int), vs = [.ref a] /\ SqL K H a (ns.map V.int) /\ ns.length <= 63 /\
 ∀ (r : Addr) (ms : List (Str × TM.Internal.Tr)) (H' : Hp), Same H H' -> Dta H' (.ref r) (.lst (ms.map mdD)) -> (∀ p ∈ ms, GdM p) -> ms.length <= 12 -> 1 <= ms.length -> tot ms <= 160 -> Q (.ref r) H'
theorem ZiK (T : Txt K mg) : ZdK P w K mg base CX0 4 T.a__law_trees T.fd__law_trees ["_law_script"] (ZiJ K) := by
 have G__law_name := ZfN (P := P) (w := w) (base := base) T
 have G__law_item := Zjw (P := P) (w := w) (base := base) T
 have G__law_pop := ZhI (P := P) (w := w) (base := base) T
 refine T.F__law_trees.ok ZdG (fun vs H Q E h => ?_) (fun cdv A outer s H vs Q E hr h => ?_)
 ·obtain ⟨a, ns, rfl, _⟩ := h
  rfl
 obtain ⟨sc, ns, rfl, hsq, hlen, q⟩ := h
 refine ⟨_, (ZcU (Zc9 (i := 1) ZdG.nd rfl (Or.inl rfl) (Zdl ZcT))
  (ZcU (Zc9 (i := 2) ZdG.nd rfl (Or.inl rfl) (Zdl ZcT))
  (ZcU (Zc9 (i := 3) ZdG.nd rfl (Or.inl rfl) ZcZ)
  (ZcU (ZfZ PassesOwn.never rfl (Ze4 (cv 0)) (ZeW (i := 4) ZdG.nd rfl (Or.inl rfl))
   (ZcU (Zc9 (i := 5) ZdG.nd rfl (Or.inl rfl) (Zde ZeR (cv 4) (Zde Zme ZcZ ZcZ)))
   (ZcU (Zc9 (i := 6) ZdG.nd rfl (Or.inl rfl) (Zde ZeR (cv 5) ZcZ))
   (ZcW (ZdF (Zdh ZoJ (cv 6) ZcZ (Zdk _))
    (ZcW (ZdF (PW.pt (Zkp (Zdh ZoJ (Zc3 Zda rfl T.z_len Zeo (ZcR (cv 2) ZcT)) ZcZ (Zdk _)) (Zkp (Zdh ZoI (Zc3 Zda rfl T.z_len Zeo (ZcR (cv 1) ZcT)) ZcZ (Zdk _)) (ZjL (Zdh Znc (cv 3) ZcZ (Zdk _))))))
     (ZcU (Zdw (Ze5 (ZeD Zcr Zcs Zct Zdr (PE.mono (cv 1)) (ZcR (PE.mono (Zdl (ZcR (Zc7 G__law_name (hr.mono (by decide)) rfl T.m__law_name T.k__law_name T.b__law_name .nil ZdL (ZcR (Zde ZfI (cv 5) ZcZ) ZcT)) (ZcR (ZdR Zdt (ZdR Zdt (cv 2) (Zk9 ZhZ ZcZ) (fun _ _ => rfl)) ZcZ (fun _ _ => rfl)) ZcT)))) ZcT))))
     (ZcU (Zc9 (i := 3) ZdG.nd rfl (Or.inl rfl) (Zde ZfC (cv 3) (ZdR Zdt (ZdR Zdt (cv 2) (Zk9 ZhZ ZcZ) (fun _ _ => rfl)) ZcZ (fun _ _ => rfl))))
     (ZcW (Zc9 (i := 2) ZdG.nd rfl (Or.inl rfl) (Zdl ZcT)))))
     Zc6))
    (ZcU (Zc9 (i := 7) ZdG.nd rfl (Or.inl rfl) (Zc7 G__law_item (hr.mono (by decide)) rfl T.m__law_item T.k__law_item T.b__law_item .nil ZdL (ZcR (cv 6) (ZcR (Zde ZfI (cv 5) ZcZ) (ZcR (cv 2) ZcT)))))
    (ZcW (ZdF (PW.pt (Zkp (Zdh Znc (ZdR Zdt (cv 7) ZcZ (fun _ _ => rfl)) ZcZ (Zdk _)) (ZjL (Zdh Znc (Zde ZfC (ZdR Zdt (cv 7) ZcZ (fun _ _ => rfl)) (cv 3)) ZcZ (Zdk _)))))
     (ZcW (Zdw (Ze5 (ZeD Zcr Zcs Zct Zdr (PE.mono (cv 2)) (ZcR (PE.mono (cv 7)) ZcT)))))
     Zc6))))))))
  (ZcU (ZdF (PW.pt (Zik (Zdh ZfD (Zc3 Zda rfl T.z_len Zeo (ZcR (cv 1) ZcT)) ZcZ (Zdk _)) (ZgR (PW.pt (Zkp (Zdh ZoJ (Zc3 Zda rfl T.z_len Zeo (ZcR (cv 2) ZcT)) ZcZ (Zdk _)) (ZjL (Zdh Znc (cv 3) ZcZ (Zdk _))))))))
   (ZcW (Zdw (Ze5 (ZeD Zcr Zcs Zct Zdr (PE.mono (cv 1)) (ZcR (PE.mono (Zdl (ZcR (Zc7 G__law_name (hr.mono (by decide)) rfl T.m__law_name T.k__law_name T.b__law_name .nil ZdL (ZcR (cv 3) ZcT)) (ZcR (ZdR Zdt (Zc7 G__law_pop (hr.mono (by decide)) rfl T.m__law_pop T.k__law_pop T.b__law_pop .nil ZdL (ZcR (cv 2) ZcT)) ZcZ (fun _ _ => rfl)) ZcT)))) ZcT)))))
   Zc6)
  (ZcW (Zc4 (cv 1)))))))), ?_⟩
 have sl : sizeLine = 16777216 := sizeLine_eq
 refine ⟨(by show 0 <= sizeLine; decide), fun md hmd => ?_⟩
 have w1 := Gw.mut (Same.refl H) hmd (.lst [])
 have e1 : (upd H md (.lst [])) md = some (.lst []) := ZcS
 dsimp only [Zeb]
 generalize upd H md (.lst []) = H1 at w1 e1 ⊢
 refine ⟨(by show 0 <= sizeLine; decide), fun st hst => ?_⟩
 have w2 := Gw.mut w1.fh hst (.lst [])
 have nms : md ≠ st := ZcY e1 hst
 have e2 : (upd H1 st (.lst [])) st = some (.lst []) := ZcS
 have e1' : (upd H1 st (.lst [])) md = some (.lst []) := by rw [Zc1 nms]; exact e1
 have w12 := w1.trans w2
 dsimp only [Zeb]
 generalize upd H1 st (.lst []) = H2 at w2 w12 e2 e1' ⊢
 refine ⟨sc, rfl, ⟨_, w12.fh.seq hsq⟩, Zil (xs := ns.map V.int) (fun i σ Hc => ∃ (st : Addr) (ms : List (Str × TM.Internal.Tr)) (ts : List TM.Internal.Tr) (F : Hp) (o1 o2 o3 o4 : Option V), σ = [some (.ref sc), some (.ref md), some (.ref st), some (.int (tot ms : Int)), o1, o2, o3, o4] /\ Gw H H F Hc /\ Mdl F Hc md ms /\ Stk F Hc st ts /\ md ≠ st /\ ms.length <= 11 /\ tot ms <= 160 /\ (∀ t ∈ ts, t.sz + tot ms <= 160) /\ ts.length <= i)
  ⟨st, [], [], H, none, none, none, none, rfl, w12, ⟨[], e1', .nil, fun p hp => (by cases hp), hmd⟩, ⟨[], e2, .nil, by decide, fun t ht => (by cases ht), w1.fh.free hst⟩, nms, by decide, by decide, fun t ht => (by cases ht), Zbz _⟩ (fun i σ Hc _ h => ?_) ?_ ?_⟩
 ·obtain ⟨_, _, _, F, _, _, _, _, _, g, _⟩ := h
  exact (g.ff.trans g.fh).seq hsq
 ·rintro i x σ Hc hx ⟨st, ms, ts, F, o1, o2, o3, o4, rfl, gw, hm, hS, nms, lm, tm, ht, lt⟩
  rw [Zay] at hx
  obtain ⟨c, hc, rfl⟩ := ZbN.mp hx
  have hi : i < 63 := by
   have := (Zai.mp hc).1
   omega
  refine ⟨⟨by decide, by decide, by decide⟩, (by show (0 : Int) < 10 ^ (64 : Int).toNat; decide +kernel), ?_⟩
  dsimp only [Zeb]
  generalize c % 10 ^ (64 : Int).toNat = n
  refine ⟨(by show (0 : Int) < 20; decide), ?_⟩
  have o0 : 0 <= n % 20 := ZcI _ (by decide)
  have o1 : n % 20 < 20 := ZcJ _ (by decide)
  dsimp only [Zeb]
  generalize n % 20 = op at o0 o1 ⊢
  obtain ⟨mv, em, dm, gm, fm⟩ := id hm
  obtain ⟨sv, es, ds, ls, gs, fs⟩ := id hS
  have lmv := Zds dm
  have lsv := Zds ds
  rw [Zaq] at lmv lsv
  have lenT : ∀ (m : Nat) (R : Bool -> Hp -> Prop), R (decide (m < ts.length)) Hc -> R (decide ((m : Int) < (sv.length : Int))) Hc := fun m R h => by rw [lsv, show decide ((m : Int) < (ts.length : Int)) = decide (m < ts.length) from decide_eq_decide.mpr (by omega)]; exact h
  refine ifd (decide (17 < op)) (fun R h => h) (fun h17 => ?_) (fun h17 => ?_)
  ·refine ifd (decide (0 < ts.length) && (decide (ms.length < 11) && decide (tot ms <= 100))) (fun R h => ZqP _ _ (fun R h => ⟨st, _, rfl, .inl (SqL.of es), lenT 0 _ h⟩) (fun R h => ZqP _ _ (fun R h => ⟨md, _, rfl, .inl (SqL.of em), ?_⟩) (fun R h => ?_) h) h) (fun hb => ?_) (fun hb => ?_)
   ·show R (decide ((mv.length : Int) < 11)) Hc
    rw [lmv, show decide ((ms.length : Int) < 11) = decide (ms.length < 11) from decide_eq_decide.mpr (by omega)]
    exact h
   ·show R (decide ((tot ms : Int) <= 100)) Hc
    rw [show decide ((tot ms : Int) <= 100) = decide (tot ms <= 100) from decide_eq_decide.mpr (by omega)]
    exact h
   ·simp only [Zcy, decide_eq_true_eq] at hb
    obtain ⟨h0, h11, h100⟩ := hb
    obtain ⟨v0, vz, rfl⟩ : ∃ v0 vz, sv = vz ++ [v0] := ⟨_, _, (Zbc (fun z => by rw [z] at lsv; exact absurd h0 (by rw [<- lsv]; decide))).symm⟩
    obtain ⟨d1, d2, ed, k1, k2⟩ := ZfW ds
    obtain ⟨tz, t, rfl⟩ : ∃ tz t, ts = tz ++ [t] := ⟨_, _, (Zbc (fun z => by rw [z] at h0; exact absurd h0 (by decide))).symm⟩
    have d0 : Dta F v0 (itD t) := by
     have el : d1.length = (tz.map itD).length := by
      have := Zds k1
      rw [ZaA, ZaA, ZaL, ZaL] at lsv
      rw [Zaq]
      omega
     rw [ZaQ] at ed
     obtain ⟨_, e2⟩ := Zbp ed.symm el
     subst e2
     cases k2 with
     | cons a b => exact a
    have htm : t ∈ tz ++ [t] := Zam _ (ZaU.mpr rfl)
    obtain ⟨ea, tv, rfl, he, dt⟩ := Zjs d0
    refine ⟨⟨_, em⟩, ⟨by decide, by decide⟩, _, rfl, fun nm H3 S3 hnm => ⟨_, rfl, _, S3 _ _ es, Zdn (Zis _ _) ⟨_, S3 _ _ (gw.fh _ _ he), Zdn (Zdi (j := 0) rfl) ⟨(by show 2 <= sizeLine; decide), fun p hp => ?_⟩⟩⟩⟩
    have g3 := Znw gw.fh S3
    have g4 := Gw.new g3.fh hp (.lst [.str nm, tv])
    have g34 := g3.trans g4
    have t4 := S3.trans (ZcV hp (.lst [.str nm, tv]))
    have em4 := t4 _ _ em
    have fm4 := g34.no _ _ em fm
    refine ⟨_, em4, by omega, ?_⟩
    have g5 := Gw.put g4.fh fm4 (.lst (mv ++ [.ref p]))
    have keep : ∀ {b : Addr} {u : HO}, b ≠ md -> Hc b = some u -> (upd (upd H3 p (.lst [.str nm, tv])) md (.lst (mv ++ [.ref p]))) b = some u := fun nb e => by rw [Zc1 nb]; exact t4 _ _ e
    have eat : ea ≠ md := fun z => by rw [z, fm] at he; cases he
    refine ⟨_, rfl, _, keep (fun z => nms z.symm) es, Zdn (Zis _ _) ⟨_, keep eat (gw.fh _ _ he), Zdn (Zdi (j := 2) rfl) ?_⟩⟩
    refine ⟨(by show 0 <= sizeLine; decide), fun st2 hst2 => ?_⟩
    have g6 := Gw.mut g5.fh hst2 (.lst [])
    have gA := g34.trans (g5.trans g6)
    have emd : (upd (upd H3 p (.lst [.str nm, tv])) md (.lst (mv ++ [.ref p]))) md = some (.lst (mv ++ [.ref p])) := ZcS
    have nm2 : md ≠ st2 := ZcY emd hst2
    have etot : (tot ms : Int) + (t.sz : Int) = (tot (ms ++ [(nm, t)]) : Int) := by rw [ZiI]; show _ = ((tot ms + (t.sz + 0) : Nat) : Int); omega
    have hsz := ht t htm
    refine ⟨st2, ms ++ [(nm, t)], [], _, some (.int c), some (.int n), some (.int op), o4, ?_, gw.trans gA, ⟨_, by rw [Zc1 nm2]; exact emd, ?_, fun x hx => ?_, fm4⟩, ⟨[], ZcS, .nil, by decide, fun t ht => (by cases ht), g5.fh.free hst2⟩, nm2, by rw [ZaA]; exact h11, by rw [ZiI]; show tot ms + (t.sz + 0) <= 160; omega, fun t ht => (by cases ht), ZbA _⟩
    ·rw [<- etot]; rfl
    ·rw [ZaQ]
     exact ZeG (dm.same g34.ff) (.cons (.lst ZcS (.cons (.flat rfl) (.cons (dt.same g34.ff) .nil))) .nil)
    ·rcases Zag.mp hx with hx | hx
     ·exact gm x hx
     ·rw [ZaU.mp hx]; exact ⟨hnm, gs t htm⟩
   ·exact ⟨st, ms, ts, F, _, _, _, _, rfl, gw, hm, hS, nms, lm, tm, ht, by omega⟩
  ·have h17 : op < 18 := by
    have := of_decide_eq_false h17
    omega
   refine ⟨⟨by decide, by decide⟩, F, op, _, st, ts, rfl, o0, h17, gw.fh, hS, fun r t ts' F' H' g f hS' dr okt szt net sb => ?_⟩
   dsimp only [Zeb]
   obtain ⟨sv', es', ds', ls', gs', fs'⟩ := id hS'
   have lsv' := Zds ds'
   rw [Zaq] at lsv'
   have em' := f _ _ em nms
   have hm' : Mdl F' H' md ms := ⟨mv, em', dm.same g.ff, gm, g.no _ _ em fm⟩
   have lt' : ts'.length <= i := Zbw sb.1 lt
   have ht' : ∀ x ∈ ts', x.sz + tot ms <= 160 := fun x hx => ht x (sb.2 x hx)
   obtain ⟨ra, tv, hra, her, dtr⟩ := Zjs dr
   cases hra
   refine ifd (decide (t.nest <= 24) && decide (t.sz + tot ms <= 160)) (fun R h => ZqP _ _ (fun R h => ⟨_, g.fh _ _ her, Zdn (Zdi (j := 1) rfl) ?_⟩) (fun R h => ⟨_, g.fh _ _ her, Zdn (Zdi (j := 2) rfl) ?_⟩) h) (fun hb => ?_) (fun hb => ?_)
   ·show R (decide ((t.nest : Int) <= 24)) H'
    rw [show decide ((t.nest : Int) <= 24) = decide (t.nest <= 24) from decide_eq_decide.mpr (by omega)]
    exact h
   ·show R (decide ((t.sz : Int) + (tot ms : Int) <= 160)) H'
    rw [show decide ((t.sz : Int) + (tot ms : Int) <= 160) = decide (t.sz + tot ms <= 160) from decide_eq_decide.mpr (by omega)]
    exact h
   ·simp only [Zcy, decide_eq_true_eq] at hb
    have gp := Gw.put g.fh fs' (.lst (sv' ++ [.ref r]))
    refine ⟨⟨_, es'⟩, _, es', by omega, ?_⟩
    refine ⟨st, ms, ts' ++ [t], F', _, _, _, _, rfl, gw.trans (g.trans gp), ⟨mv, by rw [Zc1 nms]; exact em', dm.same g.ff, gm, g.no _ _ em fm⟩, ⟨_, ZcS, ?_, by rw [ZaA, ZaL]; omega, fun x hx => ?_, fs'⟩, nms, lm, tm, fun x hx => ?_, by rw [ZaA, ZaL]; omega⟩
    ·rw [ZaQ]
     exact ZeG ds' (.cons dr .nil)
    ·rcases Zag.mp hx with hx | hx
     ·exact gs' x hx
     ·rw [ZaU.mp hx]; exact ⟨okt, hb.1, by omega⟩
    ·rcases Zag.mp hx with hx | hx
     ·exact ht' x hx
     ·rw [ZaU.mp hx]; exact hb.2
   ·exact ⟨st, ms, ts', F', _, _, _, _, rfl, gw.trans g, hm', hS', nms, lm, tm, ht', by omega⟩
 ·rintro σ Hc ⟨st, ms, ts, F, o1, o2, o3, o4, rfl, gw, hm, hS, nms, lm, tm, ht, lt⟩
  obtain ⟨mv, em, dm, gm, fm⟩ := id hm
  obtain ⟨sv, es, ds, ls, gs, fs⟩ := id hS
  have lmv := Zds dm
  have lsv := Zds ds
  rw [Zaq] at lmv lsv
  dsimp only
  refine ifc (decide (ms.length = 0) || (decide (0 < ts.length) && decide (tot ms <= 100))) (fun R h => or2 _ _ (fun R h => ⟨md, _, rfl, .inl (SqL.of em), ?_⟩) (fun R h => ZqP _ _ (fun R h => ⟨st, _, rfl, .inl (SqL.of es), ?_⟩) (fun R h => ?_) h) h) ?_
  ·show R (false ^^ decide ((mv.length : Int) = 0)) Hc
   rw [ZcA, lmv, show decide ((ms.length : Int) = 0) = decide (ms.length = 0) from decide_eq_decide.mpr (by omega)]
   exact h
  ·show R (decide (0 < (sv.length : Int))) Hc
   rw [lsv, show decide (0 < (ts.length : Int)) = decide (0 < ts.length) from decide_eq_decide.mpr (by omega)]
   exact h
  ·show R (decide ((tot ms : Int) <= 100)) Hc
   rw [show decide ((tot ms : Int) <= 100) = decide (tot ms <= 100) from decide_eq_decide.mpr (by omega)]
   exact h
  cases hb : (decide (ms.length = 0) || (decide (0 < ts.length) && decide (tot ms <= 100))) with
  | true =>
   refine ZeI ?_
   simp only [Bool.or_eq_true, Zcy, decide_eq_true_eq] at hb
   refine ⟨⟨_, em⟩, _, rfl, fun nm H3 S3 hnm => ?_⟩
   have g3 := Znw gw.fh S3
   refine ⟨_, st, ts, rfl, g3.fh, ⟨sv, S3 _ _ es, ds.same g3.ff, ls, gs, g3.no _ _ es fs⟩, fun v t ts' F' H' g4 f4 hS' dv gt sb hin => ?_⟩
   obtain ⟨ea, tv, rfl, he, dt⟩ := Zjs dv
   refine ⟨_, g4.fh _ _ he, Zdn (Zdi (j := 0) rfl) ⟨(by show 2 <= sizeLine; decide), fun p hp => ?_⟩⟩
   have g5 := Gw.new g4.fh hp (.lst [.str nm, tv])
   have g35 := g3.trans (g4.trans g5)
   have em5 := ZcV hp (.lst [.str nm, tv]) _ _ (f4 _ _ (S3 _ _ em) nms)
   have fm5 := g35.no _ _ em fm
   refine ⟨_, em5, by omega, ?_⟩
   have g6 := Gw.put g5.fh fm5 (.lst (mv ++ [.ref p]))
   have gA := gw.trans (g35.trans g6)
   refine q md (ms ++ [(nm, t)]) _ (gA.ff.trans gA.fh) (.lst ZcS ?_) (fun x hx => ?_) (by rw [ZaA, ZaL]; omega) (by rw [ZaA, ZaL]; omega) ?_
   ·rw [ZaQ]
    have dd := ZeG (dm.same g35.ff) (.cons (.lst (xs := [.str nm, tv]) ZcS (.cons (.flat rfl) (.cons (dt.same g5.ff) .nil))) .nil)
    exact dd.same g6.fh
   ·rcases Zag.mp hx with hx | hx
    ·exact gm x hx
    ·rw [ZaU.mp hx]; exact ⟨hnm, gt⟩
   ·rw [ZiI]
    show tot ms + (t.sz + 0) <= 160
    rcases hb with h | ⟨h, _⟩
    ·have : ms = [] := Zbk h
     subst this
     have := gt.2.2
     show 0 + (t.sz + 0) <= 160
     omega
    ·have := ht t (hin h)
     omega
  | false =>
   refine Zeq ?_
   have h0 : ¬ ms.length = 0 := fun z => by rw [decide_eq_true z] at hb; cases hb
   exact q md ms _ (gw.ff.trans gw.fh) (.lst em (dm.same gw.fh)) gm (by omega) (by omega) tm
end
end K04.Internal
namespace K04.Internal
open PySem L2.Internal BO.Internal
seal L2.Internal.PE L2.Internal.PA L2.Internal.PS L2.Internal.PSs L2.Internal.PT L2.Internal.PI
inductive Pt
 | w (s : Str)
 | i (n : Int)
 | t (x : TM.Internal.Tr)
 | tp (l : List Pt)
mutual
noncomputable def Pt.td : Pt -> Dt
 | .w s => TM.Internal.sD s
 | .i n => .flat (.int n)
 | .t x => x.td
 | .tp l => .tup (Zea l)
noncomputable def Zea : List Pt -> List Dt
 | [] => []
 | x :: l => x.td :: Zea l
end
mutual
noncomputable def Pt.sz : Pt -> Nat
 | .w _ => 0
 | .i _ => 0
 | .t x => x.sz
 | .tp l => Zek l
noncomputable def Zek : List Pt -> Nat
 | [] => 0
 | x :: l => x.sz + Zek l
end
mutual
noncomputable def Pt.vl : Pt -> Nat -> Dt
 | .w s, _ => TM.Internal.sD s
 | .i n, _ => .flat (.int n)
 | .t _, p => TM.Internal.kD p
 | .tp l, p => .tup (pvs l p)
noncomputable def pvs : List Pt -> Nat -> List Dt
 | [], _ => []
 | x :: l, p => x.vl p :: pvs l (p + x.sz)
end
mutual
noncomputable def Pt.rw : Pt -> Nat -> List Dt
 | .w _, _ => []
 | .i _, _ => []
 | .t x, p => x.rw p
 | .tp l, p => prs l p
noncomputable def prs : List Pt -> Nat -> List Dt
 | [], _ => []
 | x :: l, p => x.rw p ++ prs l (p + x.sz)
end
mutual
noncomputable def Pt.dp : Pt -> Nat
 | .w _ => 0
 | .i _ => 0
 | .t _ => 0
 | .tp l => 1 + Zd7 l
noncomputable def Zd7 : List Pt -> Nat
 | [] => 0
 | x :: l => max x.dp (Zd7 l)
end
mutual
noncomputable def Pt.gd (f : Nat) : Pt -> Prop
 | .w s => s.length <= 100
 | .i n => 0 <= n /\ n < 10 ^ 60
 | .t x => x.ok /\ x.nest <= f
 | .tp l => l.length <= 100 /\ Zd8 f l
noncomputable def Zd8 (f : Nat) : List Pt -> Prop
 | [] => True
 | x :: l => x.gd f /\ Zd8 f l
end
theorem Zj3 : ∀ (a b : List Pt) (p : Nat), pvs (a ++ b) p = pvs a p ++ pvs b (p + Zek a)
 | [], b, p => by rw [ZaM, pvs, Zek]; rfl
 | x :: a, b, p => by rw [Zbg, pvs, pvs, Zek, Zj3 a b, Zbg, ZbK]
theorem Zj4 : ∀ (a b : List Pt) (p : Nat), prs (a ++ b) p = prs a p ++ prs b (p + Zek a)
 | [], b, p => by rw [ZaM, prs, Zek]; rfl
 | x :: a, b, p => by rw [Zbg, prs, prs, Zek, Zj4 a b, ZaK, ZbK]
theorem Zhc : ∀ (a b : List Pt), Zek (a ++ b) = Zek a + Zek b
 | [], b => by rw [ZaM, Zek, ZbI]
 | x :: a, b => by rw [Zbg, Zek, Zek, Zhc a b, ZbK]
theorem Zd9 : ∀ (a : List Pt), Zea a = a.map Pt.td
 | [] => by rw [Zea]; rfl
 | x :: a => by rw [Zea, Zd9 a]; rfl
mutual
theorem Pt.rw_len : ∀ (x : Pt) (p : Nat), (x.rw p).length = x.sz
 | .w _, _ => by rw [Pt.rw, Pt.sz]; rfl
 | .i _, _ => by rw [Pt.rw, Pt.sz]; rfl
 | .t x, p => by rw [Pt.rw, Pt.sz, TM.Internal.Tr.rw_len]
 | .tp l, p => by rw [Pt.rw, Pt.sz, Zj5 l p]
theorem Zj5 : ∀ (l : List Pt) (p : Nat), (prs l p).length = Zek l
 | [], _ => by rw [prs, Zek]; rfl
 | x :: l, p => by rw [prs, Zek, ZaA, Pt.rw_len x p, Zj5 l]
end
theorem Zgx {f : Nat} {x : Pt} : ∀ {l : List Pt}, Zd8 f l -> x ∈ l -> x.gd f
 | y :: l, h, hx => by
  rw [Zd8] at h
  rcases Zaf.mp hx with e | e
  ·rw [e]; exact h.1
  ·exact Zgx h.2 e
theorem ZiL {x : Pt} : ∀ {l : List Pt}, x ∈ l -> x.dp <= Zd7 l
 | y :: l, hx => by
  rw [Zd7]
  rcases Zaf.mp hx with e | e
  ·rw [e]; exact ZbC _ _
  ·exact Zbw (ZiL e) (ZbD _ _)
noncomputable def pq1 : List Str -> List TM.Internal.Tr -> List Pt
 | w :: l, k :: ks => .tp [.w w, .t k] :: pq1 l ks
 | _, _ => []
noncomputable def pq2 : List (Str × Str) -> List TM.Internal.Tr -> List Pt
 | p :: l, k :: ks => .tp [.w p.1, .w p.2, .t k] :: pq2 l ks
 | _, _ => []
noncomputable def _root_.TM.Internal.Kn.pt (κ : TM.Internal.Kn) (ks : List TM.Internal.Tr) : List Pt := match κ, ks with
 | .num n, _ => [.w "num", .i n]
 | .name w, _ => [.w "name", .w w]
 | .fn w, ks => .w "fn" :: .w w :: ks.map .t
 | .tag w, ks => .w "tag" :: .w w :: ks.map .t
 | .lt w, ks => .w "let" :: .w w :: ks.map .t
 | .get w, ks => .w "get" :: (ks.map .t ++ [.w w])
 | .rcd l, ks => [.w "rec", .tp (pq1 l ks)]
 | .case l, k :: ks => [.w "case", .t k, .tp (pq2 l ks)]
 | .case _, [] => []
 | .row _, ks => [.w "row", .tp (ks.map .t)]
 | .op s _, ks => .w s :: ks.map .t
theorem ZhJ : ∀ ks : List TM.Internal.Tr, Zea (ks.map .t) = Zf2 ks
 | [] => by rw [Zf2]; rfl
 | k :: ks => by rw [Zap, Zea, ZhJ ks, Zf2, Pt.td]
theorem ZkR : ∀ (a b : List Pt), Zea (a ++ b) = Zea a ++ Zea b := fun a b => by rw [Zd9, Zd9, Zd9, ZaQ]
theorem Zn3 : ∀ (l : List Str) (ks : List TM.Internal.Tr), Zea (pq1 l ks) = pr1 l (Zf2 ks)
 | w :: l, k :: ks => by rw [pq1, Zea, Zn3 l ks, Zf2, pr1, Pt.td, Zea, Zea, Zea, Pt.td, Pt.td]
 | [], [] => by rw [pq1, Zf2, pr1, Zea] <;> exact fun _ _ _ _ h => nomatch h
 | [], _ :: _ => by rw [pq1, Zf2, pr1, Zea] <;> exact fun _ _ _ _ h => nomatch h
 | _ :: _, [] => by rw [pq1, Zf2, pr1, Zea] <;> exact fun _ _ _ _ _ h => nomatch h
theorem Zn4 : ∀ (l : List (Str × Str)) (ks : List TM.Internal.Tr), Zea (pq2 l ks) = pr2 l (Zf2 ks)
 | w :: l, k :: ks => by rw [pq2, Zea, Zn4 l ks, Zf2, pr2, Pt.td, Zea, Zea, Zea, Zea, Pt.td, Pt.td, Pt.td]
 | [], [] => by rw [pq2, Zf2, pr2, Zea] <;> exact fun _ _ _ _ h => nomatch h
 | [], _ :: _ => by rw [pq2, Zf2, pr2, Zea] <;> exact fun _ _ _ _ h => nomatch h
 | _ :: _, [] => by rw [pq2, Zf2, pr2, Zea] <;> exact fun _ _ _ _ _ h => nomatch h
theorem Znz (κ : TM.Internal.Kn) (ks : List TM.Internal.Tr) : (TM.Internal.Tr.mk κ ks).td = .lst (Zea (κ.pt ks)) := by
 rw [TM.Internal.Tr.td]
 cases κ with
 | num n => show _ = Dt.lst (Zea [.w "num", .i n]); rw [Zea, Zea, Zea, Pt.td, Pt.td]; rfl
 | name w => show _ = Dt.lst (Zea [.w "name", .w w]); rw [Zea, Zea, Zea, Pt.td, Pt.td]; rfl
 | fn w => show _ = Dt.lst (Zea (.w "fn" :: .w w :: ks.map .t)); rw [Zea, Zea, ZhJ, Pt.td, Pt.td]; rfl
 | tag w => show _ = Dt.lst (Zea (.w "tag" :: .w w :: ks.map .t)); rw [Zea, Zea, ZhJ, Pt.td, Pt.td]; rfl
 | lt w => show _ = Dt.lst (Zea (.w "let" :: .w w :: ks.map .t)); rw [Zea, Zea, ZhJ, Pt.td, Pt.td]; rfl
 | get w => show _ = Dt.lst (Zea (.w "get" :: (ks.map .t ++ [.w w]))); rw [Zea, ZkR, ZhJ, Zea, Zea, Pt.td, Pt.td]; rfl
 | rcd l => show _ = Dt.lst (Zea [.w "rec", .tp (pq1 l ks)]); rw [Zea, Zea, Zea, Pt.td, Pt.td, Zn3]; rfl
 | case l =>
  cases ks with
  | nil => show _ = Dt.lst (Zea []); rw [Zea, Zf2]; rfl
  | cons k ks => show _ = Dt.lst (Zea [.w "case", .t k, .tp (pq2 l ks)]); rw [Zea, Zea, Zea, Zea, Pt.td, Pt.td, Pt.td, Zn4, Zf2]; rfl
 | row m => show _ = Dt.lst (Zea [.w "row", .tp (ks.map .t)]); rw [Zea, Zea, Zea, Pt.td, Pt.td, ZhJ]; rfl
 | op s m => show _ = Dt.lst (Zea (.w s :: ks.map .t)); rw [Zea, ZhJ, Pt.td]; rfl
theorem ZhK : ∀ ks : List TM.Internal.Tr, Zek (ks.map .t) = TM.Internal.szs ks
 | [] => by rw [TM.Internal.szs]; rfl
 | k :: ks => by rw [Zap, Zek, ZhK ks, TM.Internal.szs, Pt.sz]
theorem Zj6 : ∀ (ks : List TM.Internal.Tr) (p : Nat), prs (ks.map .t) p = TM.Internal.rws ks p
 | [], p => by rw [TM.Internal.rws]; rfl
 | k :: ks, p => by rw [Zap, prs, Zj6 ks, TM.Internal.rws, Pt.rw, Pt.sz]
theorem Zj7 : ∀ (ks : List TM.Internal.Tr) (p : Nat), pvs (ks.map .t) p = (TM.Internal.offs ks p).map TM.Internal.kD
 | [], p => by rw [TM.Internal.offs]; rfl
 | k :: ks, p => by rw [Zap, pvs, Zj7 ks, TM.Internal.offs, Pt.vl, Pt.sz]; rfl
theorem q1 : ∀ (l : List Str) (ks : List TM.Internal.Tr) (p : Nat), ks.length = l.length -> Zek (pq1 l ks) = TM.Internal.szs ks /\ prs (pq1 l ks) p = TM.Internal.rws ks p /\ pvs (pq1 l ks) p = (l.zip (TM.Internal.offs ks p)).map fun p => .tup [TM.Internal.sD p.1, TM.Internal.kD p.2]
 | [], [], p, _ => ⟨rfl, rfl, rfl⟩
 | w :: l, k :: ks, p, h => by
  obtain ⟨a1, a2, a3⟩ := q1 l ks (p + k.sz) (by simpa using h)
  have e1 : (Pt.tp [.w w, .t k]).sz = k.sz := by rw [Pt.sz, Zek, Zek, Zek, Pt.sz, Pt.sz]; omega
  have e2 : (Pt.tp [.w w, .t k]).rw p = k.rw p := by rw [Pt.rw, prs, prs, prs, Pt.rw, Pt.rw, Pt.sz, Zar]; rfl
  have e3 : (Pt.tp [.w w, .t k]).vl p = .tup [TM.Internal.sD w, TM.Internal.kD p] := by rw [Pt.vl, pvs, pvs, pvs, Pt.vl, Pt.vl, Pt.sz]; rfl
  refine ⟨?_, ?_, ?_⟩
  ·rw [pq1, Zek, e1, a1, TM.Internal.szs]
  ·rw [pq1, prs, e1, e2, a2, TM.Internal.rws]
  ·rw [pq1, pvs, e1, e3, a3, TM.Internal.offs]; rfl
theorem q2 : ∀ (l : List (Str × Str)) (ks : List TM.Internal.Tr) (p : Nat), ks.length = l.length -> Zek (pq2 l ks) = TM.Internal.szs ks /\ prs (pq2 l ks) p = TM.Internal.rws ks p /\ pvs (pq2 l ks) p = (l.zip (TM.Internal.offs ks p)).map fun p => .tup [TM.Internal.sD p.1.1, TM.Internal.sD p.1.2, TM.Internal.kD p.2]
 | [], [], p, _ => ⟨rfl, rfl, rfl⟩
 | w :: l, k :: ks, p, h => by
  obtain ⟨a1, a2, a3⟩ := q2 l ks (p + k.sz) (by simpa using h)
  have e1 : (Pt.tp [.w w.1, .w w.2, .t k]).sz = k.sz := by rw [Pt.sz, Zek, Zek, Zek, Zek, Pt.sz, Pt.sz, Pt.sz]; omega
  have e2 : (Pt.tp [.w w.1, .w w.2, .t k]).rw p = k.rw p := by rw [Pt.rw, prs, prs, prs, prs, Pt.rw, Pt.rw, Pt.rw, Pt.sz, Pt.sz, Zar]; rfl
  have e3 : (Pt.tp [.w w.1, .w w.2, .t k]).vl p = .tup [TM.Internal.sD w.1, TM.Internal.sD w.2, TM.Internal.kD p] := by rw [Pt.vl, pvs, pvs, pvs, pvs, Pt.vl, Pt.vl, Pt.vl, Pt.sz, Pt.sz]; rfl
  refine ⟨?_, ?_, ?_⟩
  ·rw [pq2, Zek, e1, a1, TM.Internal.szs]
  ·rw [pq2, prs, e1, e2, a2, TM.Internal.rws]
  ·rw [pq2, pvs, e1, e3, a3, TM.Internal.offs]; rfl
theorem Zrr (κ : TM.Internal.Kn) (ks : List TM.Internal.Tr) (p : Nat) (h : ks.length = κ.ar) : Zek (κ.pt ks) = TM.Internal.szs ks /\ prs (κ.pt ks) p = TM.Internal.rws ks p /\ pvs (κ.pt ks) p = κ.rw (TM.Internal.offs ks p) := by
 cases κ with
 | num n =>
  have e : ks = [] := Zbk h
  subst e
  refine ⟨rfl, rfl, rfl⟩
 | name w =>
  have e : ks = [] := Zbk h
  subst e
  refine ⟨rfl, rfl, rfl⟩
 | fn w =>
  show Zek (.w "fn" :: .w w :: ks.map .t) = _ /\ prs (.w "fn" :: .w w :: ks.map .t) p = _ /\ pvs (.w "fn" :: .w w :: ks.map .t) p = _
  rw [Zek, Zek, prs, prs, pvs, pvs, Pt.sz, Pt.sz, Pt.rw, Pt.rw, Pt.vl, Pt.vl, ZhK]
  show 0 + (0 + TM.Internal.szs ks) = _ /\ prs (ks.map .t) p = _ /\ _ :: _ :: pvs (ks.map .t) p = _
  rw [Zj6, Zj7]
  exact ⟨by omega, rfl, rfl⟩
 | tag w =>
  show Zek (.w "tag" :: .w w :: ks.map .t) = _ /\ prs (.w "tag" :: .w w :: ks.map .t) p = _ /\ pvs (.w "tag" :: .w w :: ks.map .t) p = _
  rw [Zek, Zek, prs, prs, pvs, pvs, Pt.sz, Pt.sz, Pt.rw, Pt.rw, Pt.vl, Pt.vl, ZhK]
  show 0 + (0 + TM.Internal.szs ks) = _ /\ prs (ks.map .t) p = _ /\ _ :: _ :: pvs (ks.map .t) p = _
  rw [Zj6, Zj7]
  exact ⟨by omega, rfl, rfl⟩
 | lt w =>
  show Zek (.w "let" :: .w w :: ks.map .t) = _ /\ prs (.w "let" :: .w w :: ks.map .t) p = _ /\ pvs (.w "let" :: .w w :: ks.map .t) p = _
  rw [Zek, Zek, prs, prs, pvs, pvs, Pt.sz, Pt.sz, Pt.rw, Pt.rw, Pt.vl, Pt.vl, ZhK]
  show 0 + (0 + TM.Internal.szs ks) = _ /\ prs (ks.map .t) p = _ /\ _ :: _ :: pvs (ks.map .t) p = _
  rw [Zj6, Zj7]
  exact ⟨by omega, rfl, rfl⟩
 | get w =>
  show Zek (.w "get" :: (ks.map .t ++ [.w w])) = _ /\ prs (.w "get" :: (ks.map .t ++ [.w w])) p = _ /\ pvs (.w "get" :: (ks.map .t ++ [.w w])) p = _
  rw [Zek, prs, pvs, Pt.sz, Pt.rw, Pt.vl, Zhc, Zj4, Zj3, ZhK, Zj6, Zj7, Zek, Zek, Pt.sz]
  refine ⟨by omega, ?_, rfl⟩
  show TM.Internal.rws ks (p + 0) ++ prs [.w w] _ = _
  rw [prs, prs, Pt.rw, Zar, Zar]
  rfl
 | rcd l =>
  obtain ⟨a1, a2, a3⟩ := q1 l ks p h
  show Zek [.w "rec", .tp (pq1 l ks)] = _ /\ prs [.w "rec", .tp (pq1 l ks)] p = _ /\ pvs [.w "rec", .tp (pq1 l ks)] p = _
  rw [Zek, Zek, Zek, prs, prs, prs, pvs, pvs, pvs, Pt.sz, Pt.sz, Pt.rw, Pt.rw, Pt.vl, Pt.vl, a1, Zar, ZaM]
  simp only [ZbL]
  rw [a2, a3]
  exact ⟨by omega, rfl, rfl⟩
 | case l =>
  cases ks with
  | nil => exact absurd h (by simp [TM.Internal.Kn.ar])
  | cons k ks =>
   have hl : ks.length = l.length := by simpa [TM.Internal.Kn.ar] using h
   obtain ⟨a1, a2, a3⟩ := q2 l ks (p + k.sz) hl
   show Zek [.w "case", .t k, .tp (pq2 l ks)] = _ /\ prs [.w "case", .t k, .tp (pq2 l ks)] p = _ /\ pvs [.w "case", .t k, .tp (pq2 l ks)] p = _
   rw [Zek, Zek, Zek, Zek, prs, prs, prs, prs, pvs, pvs, pvs, pvs, Pt.sz, Pt.sz, Pt.sz, Pt.rw, Pt.rw, Pt.rw, Pt.vl, Pt.vl, Pt.vl, a1, Zar, ZaM]
   simp only [ZbL]
   rw [a2, a3, TM.Internal.szs, TM.Internal.rws, TM.Internal.offs]
   exact ⟨by omega, rfl, rfl⟩
 | row m =>
  show Zek [.w "row", .tp (ks.map .t)] = _ /\ prs [.w "row", .tp (ks.map .t)] p = _ /\ pvs [.w "row", .tp (ks.map .t)] p = _
  rw [Zek, Zek, Zek, prs, prs, prs, pvs, pvs, pvs, Pt.sz, Pt.sz, Pt.rw, Pt.rw, Pt.vl, Pt.vl, ZhK, Zar, ZaM, ZbL, Zj6, Zj7]
  exact ⟨by omega, rfl, rfl⟩
 | op s m =>
  show Zek (.w s :: ks.map .t) = _ /\ prs (.w s :: ks.map .t) p = _ /\ pvs (.w s :: ks.map .t) p = _
  rw [Zek, prs, pvs, Pt.sz, Pt.rw, Pt.vl, ZhK, ZbL, Zj6, Zj7]
  exact ⟨by omega, rfl, rfl⟩
theorem Zn5 {f : Nat} : ∀ {ks : List TM.Internal.Tr}, TM.Internal.oks ks -> TM.Internal.nests ks <= f -> Zd8 f (ks.map .t)
 | [], _, _ => by rw [ZaF, Zd8]; trivial
 | k :: ks, h, hn => by
  rw [TM.Internal.oks] at h
  rw [TM.Internal.nests] at hn
  rw [Zap, Zd8, Pt.gd]
  exact ⟨⟨h.1, by omega⟩, Zn5 h.2 (by omega)⟩
theorem ZkS {f : Nat} : ∀ {a b : List Pt}, Zd8 f a -> Zd8 f b -> Zd8 f (a ++ b)
 | [], _, _, h => h
 | x :: a, b, h, h' => by
  rw [Zd8] at h
  rw [Zbg, Zd8]
  exact ⟨h.1, ZkS h.2 h'⟩
theorem Zfs {w : Str} (h : GR.Internal.isName w = true) : w.length <= 100 := by
 unfold GR.Internal.isName at h
 simp only [Zcy, decide_eq_true_eq] at h
 have := h.1.1.1.2
 omega
theorem Zn6 {f : Nat} : ∀ {l : List Str} {ks : List TM.Internal.Tr}, (∀ w ∈ l, GR.Internal.isName w = true) -> TM.Internal.oks ks -> TM.Internal.nests ks <= f -> Zd8 f (pq1 l ks) /\ (pq1 l ks).length <= l.length /\ Zd7 (pq1 l ks) <= 1
 | w :: l, k :: ks, hw, h, hn => by
  rw [TM.Internal.oks] at h
  rw [TM.Internal.nests] at hn
  obtain ⟨a, b, c⟩ := Zn6 (fun x hx => hw x (Zae _ hx)) h.2 (show TM.Internal.nests ks <= f by omega)
  have := Zfs (hw w Zad)
  rw [pq1, Zd8, Pt.gd, Zd8, Zd8, Zd8, Pt.gd, Pt.gd, Zd7, Pt.dp, Zd7, Zd7, Zd7, Pt.dp, Pt.dp]
  exact ⟨⟨⟨(by show 2 <= 100; decide), this, ⟨h.1, by omega⟩, trivial⟩, a⟩, by rw [Zan, Zan]; omega, by omega⟩
 | [], [], _, _, _ => ⟨by show Zd8 f []; rw [Zd8]; trivial, ZbA _, by show Zd7 [] <= 1; rw [Zd7]; omega⟩
 | [], _ :: _, _, _, _ => ⟨by show Zd8 f []; rw [Zd8]; trivial, ZbA _, by show Zd7 [] <= 1; rw [Zd7]; omega⟩
 | _ :: _, [], _, _, _ => ⟨by show Zd8 f []; rw [Zd8]; trivial, ZbA _, by show Zd7 [] <= 1; rw [Zd7]; omega⟩
theorem Zn7 {f : Nat} : ∀ {l : List (Str × Str)} {ks : List TM.Internal.Tr}, (∀ w ∈ l, GR.Internal.isName w.1 = true /\ GR.Internal.isName w.2 = true) -> TM.Internal.oks ks -> TM.Internal.nests ks <= f -> Zd8 f (pq2 l ks) /\ (pq2 l ks).length <= l.length /\ Zd7 (pq2 l ks) <= 1
 | w :: l, k :: ks, hw, h, hn => by
  rw [TM.Internal.oks] at h
  rw [TM.Internal.nests] at hn
  obtain ⟨a, b, c⟩ := Zn7 (fun x hx => hw x (Zae _ hx)) h.2 (show TM.Internal.nests ks <= f by omega)
  have h1 := Zfs (hw w Zad).1
  have h2 := Zfs (hw w Zad).2
  rw [pq2, Zd8, Pt.gd, Zd8, Zd8, Zd8, Zd8, Pt.gd, Pt.gd, Pt.gd, Zd7, Pt.dp, Zd7, Zd7, Zd7, Zd7, Pt.dp, Pt.dp, Pt.dp]
  exact ⟨⟨⟨(by show 3 <= 100; decide), h1, h2, ⟨h.1, by omega⟩, trivial⟩, a⟩, by rw [Zan, Zan]; omega, by omega⟩
 | [], [], _, _, _ => ⟨by show Zd8 f []; rw [Zd8]; trivial, ZbA _, by show Zd7 [] <= 1; rw [Zd7]; omega⟩
 | [], _ :: _, _, _, _ => ⟨by show Zd8 f []; rw [Zd8]; trivial, ZbA _, by show Zd7 [] <= 1; rw [Zd7]; omega⟩
 | _ :: _, [], _, _, _ => ⟨by show Zd8 f []; rw [Zd8]; trivial, ZbA _, by show Zd7 [] <= 1; rw [Zd7]; omega⟩
theorem ZhL : ∀ ks : List TM.Internal.Tr, Zd7 (ks.map .t) = 0
 | [] => by rw [ZaF, Zd7]
 | k :: ks => by rw [Zap, Zd7, ZhL ks, Pt.dp]; rfl
theorem ZkT : ∀ (a b : List Pt), Zd7 (a ++ b) = max (Zd7 a) (Zd7 b)
 | [], b => by rw [ZaM, Zd7]; omega
 | x :: a, b => by rw [Zbg, Zd7, Zd7, ZkT a b]; omega
theorem Zn8 : ∀ p ∈ TM.Internal.ops, p.1.length <= 100 /\ p.2 <= 3 := by decide +kernel
theorem ZnA {f : Nat} {κ : TM.Internal.Kn} {ks : List TM.Internal.Tr} (h1 : κ.ok) (h2 : ks.length = κ.ar) (h3 : TM.Internal.oks ks) (hn : TM.Internal.nests ks <= f) : Zd8 f (κ.pt ks) /\ (κ.pt ks).length <= 100 /\ Zd7 (κ.pt ks) <= 2 := by
 have T1 := Zn5 h3 hn
 have wl : ∀ s : Str, s.length <= 100 -> (Pt.w s).gd f := fun s h => by rw [Pt.gd]; exact h
 have wd : ∀ s : Str, (Pt.w s).dp = 0 := fun s => by rw [Pt.dp]
 have lm : (ks.map Pt.t).length = ks.length := Zaq _
 cases κ with
 | num n =>
  show Zd8 f [.w "num", .i n] /\ 2 <= 100 /\ Zd7 [.w "num", .i n] <= 2
  rw [Zd8, Zd8, Zd8, Pt.gd, Pt.gd, Zd7, Zd7, Zd7, Pt.dp, Pt.dp]
  exact ⟨⟨by decide +kernel, h1, trivial⟩, by decide, by decide⟩
 | name w =>
  have := Zfs h1
  show Zd8 f [.w "name", .w w] /\ 2 <= 100 /\ Zd7 [.w "name", .w w] <= 2
  rw [Zd8, Zd8, Zd8, Zd7, Zd7, Zd7, wd, wd]
  exact ⟨⟨wl _ (by decide +kernel), wl _ this, trivial⟩, by decide, by decide⟩
 | fn w =>
  have := Zfs h1
  show Zd8 f (.w "fn" :: .w w :: ks.map .t) /\ (ks.map Pt.t).length + 1 + 1 <= 100 /\ Zd7 (.w "fn" :: .w w :: ks.map .t) <= 2
  rw [Zd8, Zd8, Zd7, Zd7, wd, wd, ZhL, lm, h2]
  exact ⟨⟨wl _ (by decide +kernel), wl _ this, T1⟩, (by show _ + 1 + 1 <= 100; simp [TM.Internal.Kn.ar]), by decide⟩
 | tag w =>
  have := Zfs h1
  show Zd8 f (.w "tag" :: .w w :: ks.map .t) /\ (ks.map Pt.t).length + 1 + 1 <= 100 /\ Zd7 (.w "tag" :: .w w :: ks.map .t) <= 2
  rw [Zd8, Zd8, Zd7, Zd7, wd, wd, ZhL, lm, h2]
  exact ⟨⟨wl _ (by decide +kernel), wl _ this, T1⟩, (by show _ + 1 + 1 <= 100; simp [TM.Internal.Kn.ar]), by decide⟩
 | lt w =>
  have := Zfs h1
  show Zd8 f (.w "let" :: .w w :: ks.map .t) /\ (ks.map Pt.t).length + 1 + 1 <= 100 /\ Zd7 (.w "let" :: .w w :: ks.map .t) <= 2
  rw [Zd8, Zd8, Zd7, Zd7, wd, wd, ZhL, lm, h2]
  exact ⟨⟨wl _ (by decide +kernel), wl _ this, T1⟩, (by show _ + 1 + 1 <= 100; simp [TM.Internal.Kn.ar]), by decide⟩
 | get w =>
  have := Zfs h1
  show Zd8 f (.w "get" :: (ks.map .t ++ [.w w])) /\ (ks.map Pt.t ++ [Pt.w w]).length + 1 <= 100 /\ Zd7 (.w "get" :: (ks.map .t ++ [.w w])) <= 2
  rw [Zd8, Zd7, ZkT, Zd7, Zd7, wd, wd, ZhL, ZaA, lm, h2]
  exact ⟨⟨wl _ (by decide +kernel), ZkS T1 (by rw [Zd8, Zd8]; exact ⟨wl _ this, trivial⟩)⟩, (by show 1 + 1 + 1 <= 100; decide), by decide⟩
 | rcd l =>
  obtain ⟨a, b, c⟩ := Zn6 h1.2 h3 hn
  have := h1.1
  show Zd8 f [.w "rec", .tp (pq1 l ks)] /\ 2 <= 100 /\ Zd7 [.w "rec", .tp (pq1 l ks)] <= 2
  rw [Zd8, Zd8, Zd8, Zd7, Zd7, Zd7, wd, Pt.gd, Pt.dp]
  exact ⟨⟨wl _ (by decide +kernel), ⟨by omega, a⟩, trivial⟩, by decide, by omega⟩
 | case l =>
  cases ks with
  | nil => exact absurd h2 (by simp [TM.Internal.Kn.ar])
  | cons k ks =>
   rw [TM.Internal.oks] at h3
   rw [TM.Internal.nests] at hn
   obtain ⟨a, b, c⟩ := Zn7 h1.2.2 h3.2 (show TM.Internal.nests ks <= f by omega)
   have := h1.2.1
   show Zd8 f [.w "case", .t k, .tp (pq2 l ks)] /\ 3 <= 100 /\ Zd7 [.w "case", .t k, .tp (pq2 l ks)] <= 2
   rw [Zd8, Zd8, Zd8, Zd8, Zd7, Zd7, Zd7, Zd7, wd, Pt.gd, Pt.gd, Pt.dp, Pt.dp]
   exact ⟨⟨wl _ (by decide +kernel), ⟨h3.1, by omega⟩, ⟨by omega, a⟩, trivial⟩, by decide, by omega⟩
 | row m =>
  have h8 : m <= 8 := h1
  have hm : ks.length = m := h2
  show Zd8 f [.w "row", .tp (ks.map .t)] /\ 2 <= 100 /\ Zd7 [.w "row", .tp (ks.map .t)] <= 2
  rw [Zd8, Zd8, Zd8, Zd7, Zd7, Zd7, wd, Pt.dp, ZhL]
  refine ⟨⟨wl _ (by decide +kernel), ?_, trivial⟩, by decide, by decide⟩
  rw [Pt.gd, lm]
  exact ⟨by omega, T1⟩
 | op s m =>
  obtain ⟨a, b⟩ := Zn8 (s, m) h1
  have hm : ks.length = m := h2
  show Zd8 f (.w s :: ks.map .t) /\ (ks.map Pt.t).length + 1 <= 100 /\ Zd7 (.w s :: ks.map .t) <= 2
  rw [Zd8, Zd7, wd, ZhL, lm]
  exact ⟨⟨wl _ a, T1⟩, by have : m <= 3 := b; omega, by decide⟩
end K04.Internal
namespace K04.Internal
open PySem L2.Internal BO.Internal
seal L2.Internal.PE L2.Internal.PA L2.Internal.PS L2.Internal.PSs L2.Internal.PT L2.Internal.PI
noncomputable def Rws (F H : Hp) (rl : Addr) (ds : List Dt) : Prop := ∃ vs, H rl = some (.lst vs) /\ Zfu F vs ds /\ F rl = none
theorem Rws.gw {F H F' H' : Hp} {rl : Addr} {ds : List Dt} (h : Rws F H rl ds) (g : Gw F H F' H') (e : ∀ o, H rl = some o -> H' rl = some o) : Rws F' H' rl ds := by
 obtain ⟨vs, a, b, c⟩ := h
 exact ⟨vs, e _ a, b.same g.ff, g.no _ _ a c⟩
theorem ZkU {J : It} {i : Nat} {te : TE} {Q : VK} {τ : St} {F H1 : Hp} {D rl : Addr} {zs : List V} {ps : List Pt} {ds : List Dt} (SF : Same F H1) (dz : Zfu F zs (Zea ps)) (hn : zs.length < sizeLine) (hD : H1 D = none) (hτ : τ.set i none = τ) (hR : Rws F H1 rl ds)
  (hgo : ∀ k H, Same F H -> k < zs.length -> J.go k H) (hy : ∀ k H v H', Same F H -> k < zs.length -> J.yld k H v H' -> H' = H /\ zs[k]? = some v) (hst : ∀ H, Same F H -> J.stop zs.length H)
  (step : ∀ (x : Pt) (v : V) (F2 H2 : Hp) (ds2 : List Dt) (Z : VK), x ∈ ps -> Gw F H1 F2 H2 -> Dta F2 v x.td -> Rws F2 H2 rl ds2 -> ds2.length + x.sz <= ds.length + Zek ps -> (∀ y F3 H3, Gw F2 H2 F3 H3 -> FrD rl H2 H3 -> Rws F3 H3 rl (ds2 ++ x.rw ds2.length) -> Dta F3 y (x.vl ds2.length) -> Z y H3) -> te (τ.set i (some v)) H2 Z)
  (hq : ∀ xs F2 H2, Gw F H1 F2 H2 -> FrD rl H1 H2 -> H2 D = some (.lst xs) -> F2 D = none -> Zfu F2 xs (pvs ps ds.length) -> Rws F2 H2 rl (ds ++ prs ps ds.length) -> Q (.ref D) H2) : LcP J i ZgJ te Q τ H1 D := by
 have hrl : D ≠ rl := by
  obtain ⟨vs, a, _, _⟩ := hR
  exact (ZcY a hD).symm
 have lz := Zds dz
 rw [Zd9, Zaq] at lz
 refine ⟨fun k m σ' H2 => m = zs.length - k /\ k <= zs.length /\ (∃ o, σ' = τ.set i o) /\ ∃ F2 xs, Gw F H1 F2 H2 /\ FrD rl H1 H2 /\ H2 D = some (.lst xs) /\ F2 D = none /\ xs.length = k /\ Zfu F2 xs (pvs (ps.take k) ds.length) /\ Rws F2 H2 rl (ds ++ prs (ps.take k) ds.length), ⟨zs.length, by simp, ZbA _, ⟨none, hτ.symm⟩, F, [], Gw.mut SF hD _, (ZcV hD _).frD, ZcS, SF.free hD, rfl, ?_, ?_⟩, ?_⟩
 ·rw [List.take_zero, pvs]; exact .nil
 ·rw [List.take_zero, prs, Zar]
  exact hR.gw (Gw.mut SF hD _) fun o e => ZcV hD _ _ _ e
 rintro k m σ' H2 ⟨rfl, hk, ⟨o, rfl⟩, F2, xs, g2, f2, e2, fD, lx, dx, hR2⟩
 by_cases hlt : k < zs.length
 ·refine .inr ⟨hgo k H2 (g2.ff.trans g2.fh) hlt, fun v H3 y => ?_⟩
  obtain ⟨rfl, hv⟩ := hy k H2 v H3 (g2.ff.trans g2.fh) hlt y
  rw [ZaP]
  obtain ⟨d, hd, dv⟩ := ZeP dz hv
  rw [Zd9, Zay] at hd
  obtain ⟨x, hx, rfl⟩ := ZbN.mp hd
  have tk : ps.take (k + 1) = ps.take k ++ [x] := by rw [Za7, hx]; rfl
  have l2 : (ds ++ prs (ps.take k) ds.length).length = ds.length + Zek (ps.take k) := by rw [ZaA, Zj5]
  have szle : Zek (ps.take k) + x.sz <= Zek ps := by
   have h1 : ps = ps.take (k + 1) ++ ps.drop (k + 1) := (Zbr _ _).symm
   have h2 : Zek ps = Zek (ps.take (k + 1)) + Zek (ps.drop (k + 1)) := by rw [<- Zhc, <- h1]
   rw [tk, Zhc, Zek, Zek] at h2
   omega
  refine step x v F2 H3 _ _ (Zaz hx) g2 (dv.same g2.ff) hR2 (by rw [l2]; omega) fun y F4 H4 g4 f4 hR4 dy => ?_
  have e4 := f4 _ _ e2 hrl
  have fD4 := g4.no _ _ e2 fD
  have gp := Gw.put g4.fh fD4 (.lst (xs ++ [y]))
  refine ⟨xs, e4, by omega, zs.length - (k + 1), by omega, rfl, hlt, ⟨some v, rfl⟩, F4, xs ++ [y], g2.trans (g4.trans gp), fun b u eb nb => ?_, ZcS, fD4, by rw [ZaA, lx]; rfl, ?_, ?_⟩
  ·rw [Zc1 (ZcY eb hD)]
   exact f4 _ _ (f2 _ _ eb nb) nb
  ·rw [tk, Zj3, pvs, pvs, <- l2]
   exact ZeG (dx.same g4.ff) (.cons dy .nil)
  ·rw [tk, Zj4, prs, prs, Zar, <- ZaK, <- l2]
   exact hR4.gw gp fun o e => by rw [Zc1 (fun z => hrl z.symm)]; exact e
 ·have e1 : k = zs.length := by omega
  subst e1
  rw [Za4 (by omega)] at dx hR2
  exact .inl ⟨hst H2 (g2.ff.trans g2.fh), hq xs F2 H2 g2 f2 e2 fD dx hR2⟩
theorem ZkV {H : Hp} {x : V} {d : Dt} (h : Dta H x d) : ∀ {xs : List V} {ds : List Dt} (j : Nat), Zfu H xs ds -> Zfu H (xs.set j x) (ds.set j d)
 | _, _, _, .nil => by rw [List.set_nil, List.set_nil]; exact .nil
 | _, _, 0, .cons _ t => .cons h t
 | _, _, j + 1, .cons a t => .cons a (ZkV h j t)
theorem ZmC {n j : Nat} (h : j < n) : ixN n (j : Int) = some j := by
 unfold ixN
 rw [if_pos (by omega), if_pos (by omega), ZcG]
section
variable {P : Program} {w : World} {K : PySem.W.Frag} {mg : Str -> Option Value} {base : Heap}
noncomputable def Ze1 (f : Nat) : Sp := fun vs H Q _ => ∃ (F : Hp) (v : V) (rl : Addr) (t : TM.Internal.Tr) (ds : List Dt), vs = [v, .ref rl] /\ Same F H /\ Dta F v t.td /\ t.ok /\ t.nest <= f /\ Rws F H rl ds /\ ds.length + t.sz <= 1000 /\
 ∀ (F' H' : Hp), Gw F H F' H' -> FrD rl H H' -> Rws F' H' rl (ds ++ t.rw ds.length) -> Q (.int (ds.length : Int)) H'
noncomputable def ZgX (f d : Nat) : Sp := fun vs H Q _ => ∃ (F : Hp) (v : V) (rl : Addr) (x : Pt) (ds : List Dt), vs = [v, .ref rl] /\ Same F H /\ Dta F v x.td /\ x.gd f /\ x.dp < d /\ Rws F H rl ds /\ ds.length + x.sz <= 1000 /\
 ∀ (y : V) (F' H' : Hp), Gw F H F' H' -> FrD rl H H' -> Rws F' H' rl (ds ++ x.rw ds.length) -> Dta F' y (x.vl ds.length) -> Q y H'
theorem Zjx (T : Txt K mg) (f : Nat) (G__law_place : ZdK P w K mg base CX0 (4 * f + 1) T.a__law_place T.fd__law_place ["_law_tree_here", "_law_rows"] (Ze1 f)) :
  ∀ d : Nat, ZdK P w K mg base CX0 (4 * f + d + 1) T.a__law_part T.fd__law_part ["_law_part_here", "_law_rows"] (ZgX f d) := by
 intro d
 induction d with
 | zero =>
  refine T.F__law_part.ok ZgV (fun vs H Q E h => ?_) (fun cdv A outer s H vs Q E hr h => ?_)
  ·obtain ⟨F, v, rl, x, ds, rfl, _⟩ := h
   rfl
  obtain ⟨F, v, rl, x, ds, rfl, SF, dv, gx, hd, _⟩ := h
  exact absurd hd (ZbE _)
 | succ d ih =>
  have G__law_part := ih
  refine T.F__law_part.ok ZgV (fun vs H Q E h => ?_) (fun cdv A outer s H vs Q E hr h => ?_)
  ·obtain ⟨F, v, rl, x, ds, rfl, _⟩ := h
   rfl
  obtain ⟨F, v, rl, x, ds, rfl, SF, dv, gx, hd, hR, hsz, q⟩ := h
  refine ⟨_, (ZcU (ZdF (ZeB (Zc3 ZdS rfl T.z_isinstance Zdc (ZcR (cv 0) (ZcR (ZeY rfl T.z_list ZfH) ZcT))))
   (ZcW (Zc4 (Zc7 G__law_place (hr.mono (by omega)) rfl T.m__law_place T.k__law_place T.b__law_place .nil ZdL (ZcR (cv 0) (ZcR (cv 1) ZcT)))))
   Zc6)
  (ZcU (ZdF (ZeB (Zc3 ZdS rfl T.z_isinstance Zdc (ZcR (cv 0) (ZcR (ZeY rfl T.z_tuple ZdJ) ZcT))))
   (ZcW (Zc4 (Zdm Zdj rfl T.z_tuple ZdJ (ZcR (Zgo rfl (Zpj (x := "_law_inner") ["_law_rows"] [("_law_rows", 1, s.heap.objs.size + 1)] rfl rfl (by decide +kernel) (by decide +kernel) rfl (by decide +kernel) rfl rfl (by intro p hp; simp only [Zaf, ZaZ, or_false] at hp; rcases hp with rfl <;> exact ⟨rfl, rfl, rfl, rfl⟩)) (Zkv (cv 0)) (fun _ _ _ _ _ => ZeK) (fun _ _ _ _ _ => (Zc7 G__law_part (hr.mono (by omega)) rfl T.m__law_part T.k__law_part T.b__law_part .nil ZdL (ZcR (cv 0) (ZcR (cv 1) ZcT))))) ZcT))))
   Zc6)
  (ZcW (Zc4 (cv 0))))), ?_⟩
  have sl : sizeLine = 16777216 := sizeLine_eq
  cases x with
  | w z =>
   rw [Pt.td] at dv
   cases dv
   refine ⟨_, _, _, _, false, rfl, fun _ r => r, .str _, rfl, _, rfl, Zeq ⟨_, _, _, _, false, rfl, fun _ r => r, .str _, rfl, _, rfl, Zeq (q _ F H (Gw.refl SF) (FrD.refl _ _) ?_ ?_)⟩⟩
   ·rw [Pt.rw, Zar]; exact hR
   ·rw [Pt.vl]; exact .flat rfl
  | i n =>
   rw [Pt.td] at dv
   cases dv
   refine ⟨_, _, _, _, false, rfl, fun _ r => r, .int _, rfl, _, rfl, Zeq ⟨_, _, _, _, false, rfl, fun _ r => r, .int _, rfl, _, rfl, Zeq (q _ F H (Gw.refl SF) (FrD.refl _ _) ?_ ?_)⟩⟩
   ·rw [Pt.rw, Zar]; exact hR
   ·rw [Pt.vl]; exact .flat rfl
  | t t =>
   rw [Pt.td] at dv
   rw [Pt.gd] at gx
   rw [Pt.sz] at hsz
   have dv' := dv
   cases t with
   | mk κ ks =>
    rw [Znz] at dv'
    cases dv' with
    | @lst a xs _ ha hs =>
     refine ⟨_, _, _, _, true, rfl, fun _ r => r, .lst (SF _ _ ha), rfl, _, rfl, ZeI ⟨F, _, rl, _, ds, rfl, SF, dv, gx.1, gx.2, hR, hsz, fun F' H' g fr r => q _ F' H' g fr ?_ ?_⟩⟩
     ·rw [Pt.rw]; exact r
     ·rw [Pt.vl]; exact .flat rfl
  | tp l =>
   rw [Pt.td] at dv
   rw [Pt.gd] at gx
   rw [Pt.sz] at hsz
   rw [Pt.dp] at hd
   cases dv with
   | @tup a xs _ ha hs =>
    have lx := Zds hs
    rw [Zd9, Zaq] at lx
    refine ⟨_, _, _, _, false, rfl, fun _ r => r, .tup (SF _ _ ha), rfl, _, rfl, Zeq ⟨_, _, _, _, true, rfl, fun _ r => r, .tup (SF _ _ ha), rfl, _, rfl, ZeI ⟨a, rfl, ⟨_, SqT.of (SF _ _ ha)⟩, fun D hD => ?_⟩⟩⟩
    refine ZkU SF hs (by omega) hD rfl hR (fun k H S h => ZnY ha S h) (fun k H v H' S h y => ⟨y.1, y.2 _ (SqT.of (S _ _ ha))⟩) (fun H S => ZnZ ha S) ?_ ?_
    ·intro x v F2 H2 ds2 Z hx g2 dv2 hR2 hz hZ
     have := ZiL hx
     exact ⟨F2, v, rl, x, ds2, rfl, g2.fh, dv2, Zgx gx.2 hx, by omega, hR2, by omega, hZ⟩
    ·intro ys F2 H2 g2 f2 eD fD dys hR2
     refine ⟨D, _, rfl, .inl ⟨SqL.of eD, fun tt htt => ?_⟩⟩
     have g3 := Gw.new g2.fh htt (.tup ys)
     refine q _ _ _ (g2.trans g3) (fun b u eb nb => ZcV htt _ _ _ (f2 _ _ eb nb)) ?_ ?_
     ·rw [Pt.rw]
      exact hR2.gw g3 fun o e => ZcV htt _ _ _ e
     ·rw [Pt.vl]
      exact .tup ZcS (dys.same g3.ff)
theorem ZhU (T : Txt K mg) (f : Nat) (G__law_part : ZdK P w K mg base CX0 (4 * f + 3 + 1) T.a__law_part T.fd__law_part ["_law_part_here", "_law_rows"] (ZgX f 3)) :
  ZdK P w K mg base CX0 (4 * (f + 1) + 1) T.a__law_place T.fd__law_place ["_law_tree_here", "_law_rows"] (Ze1 (f + 1)) := by
 refine T.F__law_place.ok (k := 4 * f + 3 + 1) ZfA (fun vs H Q E h => ?_) (fun cdv A outer s H vs Q E hr h => ?_)
 ·obtain ⟨F, v, rl, t, ds, rfl, _⟩ := h
  rfl
 obtain ⟨F, v, rl, t, ds, rfl, SF, dv, okt, hn, hR, hsz, q⟩ := h
 refine ⟨_, (ZcU (Zc9 (i := 2) ZfA.nd rfl (Or.inl rfl) (Zc3 Zda rfl T.z_len Zeo (ZcR (cv 1) ZcT)))
  (ZcU (Zdw (Ze5 (ZeD Zcr Zcs Zct Zdr (PE.mono (cv 1)) (ZcR (PE.mono ZnK) ZcT))))
  (ZcU (Zkt (Zdm Zdj rfl T.z_tuple ZdJ (ZcR (Zgo rfl (Zpj (x := "_law_part_here") ["_law_rows"] [("_law_rows", 1, s.heap.objs.size + 1)] rfl rfl (by decide +kernel) (by decide +kernel) rfl (by decide +kernel) rfl rfl (by intro p hp; simp only [Zaf, ZaZ, or_false] at hp; rcases hp with rfl <;> exact ⟨rfl, rfl, rfl, rfl⟩)) (Ze4 (cv 0)) (fun _ _ _ _ _ => ZeK) (fun _ _ _ _ _ => (Zc7 G__law_part (hr.mono (by omega)) rfl T.m__law_part T.k__law_part T.b__law_part .nil ZdL (ZcR (cv 0) (ZcR (cv 1) ZcT))))) ZcT)) (Zks (cv 1) (cv 2) Zg7))
  (ZcW (Zc4 (cv 2)))))), ?_⟩
 have sl : sizeLine = 16777216 := sizeLine_eq
 obtain ⟨vs, e0, d0, fr⟩ := id hR
 have lv := Zds d0
 cases t with
 | mk κ ks =>
  rw [Znz] at dv
  rw [TM.Internal.Tr.ok] at okt
  rw [TM.Internal.Tr.nest] at hn
  rw [TM.Internal.Tr.sz] at hsz
  obtain ⟨p1, p2, p3⟩ := ZnA (f := f) okt.1 okt.2.1 okt.2.2 (by omega)
  obtain ⟨r1, r2, r3⟩ := Zrr κ ks (ds.length + 1) okt.2.1
  cases dv with
  | @lst a xs _ ha hs =>
   have lx := Zds hs
   rw [Zd9, Zaq] at lx
   refine ⟨rl, _, rfl, .inl (SqL.of e0), ?_⟩
   dsimp only [Zeb]
   refine ⟨⟨_, e0⟩, _, e0, by omega, ?_⟩
   have g1 := Gw.put SF fr (.lst (vs ++ [.non]))
   have f1 := FrD.upd rl H (.lst (vs ++ [.non]))
   have hR1 : Rws F (upd H rl (.lst (vs ++ [.non]))) rl (ds ++ [.flat .non]) := ⟨_, ZcS, ZeG d0 (.cons (.flat rfl) .nil), fr⟩
   have al : rl ≠ a := fun z => by rw [<- z, fr] at ha; cases ha
   generalize upd H rl (.lst (vs ++ [.non])) = H1 at g1 f1 hR1 ⊢
   have l1 : (ds ++ [Dt.flat .non]).length = ds.length + 1 := by rw [ZaA]; rfl
   refine ⟨a, rfl, ⟨_, SqL.of (g1.fh _ _ ha)⟩, fun D hD => ?_⟩
   refine ZkU g1.fh hs (by omega) hD rfl hR1 (fun k H S h => Zh9 ha S h) (fun k H v H' S h y => ⟨y.1, y.2 _ (SqL.of (S _ _ ha))⟩) (fun H S => Zia ha S) ?_ ?_
   ·intro x v F2 H2 ds2 Z hx g2 dv2 hR2 hz hZ
    have := ZiL hx
    exact ⟨F2, v, rl, x, ds2, rfl, g2.fh, dv2, Zgx p1 hx, by omega, hR2, by omega, hZ⟩
   ·intro ys F2 H2 g2 f2 eD fD dys hR2
    rw [l1, r3] at dys
    rw [l1, r2] at hR2
    refine ⟨D, _, rfl, .inl ⟨SqL.of eD, fun tt htt => ?_⟩⟩
    have g3 := Gw.new g2.fh htt (.tup ys)
    obtain ⟨vs3, e3, d3, fr3⟩ := hR2.gw g3 fun o e => ZcV htt _ _ _ e
    have lv3 := Zds d3
    rw [ZaA, l1] at lv3
    refine ⟨rl, vs3, _, vs.length, rfl, rfl, e3, ZmC (by omega), ?_⟩
    have g4 := Gw.put g3.fh fr3 (.lst (vs3.set vs.length (.ref tt)))
    have hq := q (upd F2 tt (.tup ys)) (upd (upd H2 tt (.tup ys)) rl (.lst (vs3.set vs.length (.ref tt)))) (g1.trans (g2.trans (g3.trans g4))) (fun b u eb nb => by rw [Zc1 nb]; exact ZcV htt _ _ _ (f2 _ _ (f1 _ _ eb nb) nb)) ⟨_, ZcS, ?_, fr3⟩
    ·show Q (.int (vs.length : Int)) _
     rw [show (vs.length : Int) = (ds.length : Int) by omega]
     exact hq
    ·rw [TM.Internal.Tr.rw, <- TM.Internal.set_at (x := .flat .non), lv]
     exact ZkV (.tup ZcS (dys.same g3.ff)) _ d3
theorem ZhV (T : Txt K mg) : ZdK P w K mg base CX0 (4 * 0 + 1) T.a__law_place T.fd__law_place ["_law_tree_here", "_law_rows"] (Ze1 0) := by
 refine T.F__law_place.ok ZfA (fun vs H Q E h => ?_) (fun cdv A outer s H vs Q E hr h => ?_)
 ·obtain ⟨F, v, rl, t, ds, rfl, _⟩ := h
  rfl
 obtain ⟨F, v, rl, t, ds, rfl, SF, dv, okt, hn, _⟩ := h
 cases t with
 | mk κ ks =>
  rw [TM.Internal.Tr.nest] at hn
  omega
theorem Zgy (T : Txt K mg) : ∀ f : Nat, ZdK P w K mg base CX0 (4 * f + 1) T.a__law_place T.fd__law_place ["_law_tree_here", "_law_rows"] (Ze1 f)
 | 0 => ZhV T
 | f + 1 => ZhU T f (Zjx T f (Zgy T f) 3)
end
end K04.Internal
namespace K04.Internal
open PySem L2.Internal BO.Internal
seal L2.Internal.PE L2.Internal.PA L2.Internal.PS L2.Internal.PSs L2.Internal.PT L2.Internal.PI
noncomputable def cw (c : Nat) : Nat := if c = 40 then 5 else if c = 41 then 4 else if c = 32 then 4 else 1
noncomputable def wts : List Nat -> Nat
 | [] => 0
 | c :: l => cw c + wts l
theorem ZiM : ∀ a b : List Nat, wts (a ++ b) = wts a + wts b
 | [], b => by rw [ZaM, wts, ZbI]
 | c :: a, b => by rw [Zbg, wts, wts, ZiM a b, ZbK]
noncomputable def wt (x : Str) : Nat := wts x.cps.toList
theorem Zf3 (x y : Str) : wt (x ++ y) = wt x + wt y := by unfold wt; rw [Zd3, ZiM]
theorem ZgQ : ∀ l : List Nat, l.length <= wts l
 | [] => Zbz _
 | c :: l => by
  have h1 := ZgQ l
  have h2 : 1 <= cw c := by
   unfold cw
   by_cases a : c = 40
   ·rw [if_pos a]; omega
   ·by_cases b : c = 41
    ·rw [if_neg a, if_pos b]; omega
    ·by_cases d : c = 32
     ·rw [if_neg a, if_neg b, if_pos d]; omega
     ·rw [if_neg a, if_neg b, if_neg d]; omega
  rw [Zan, wts]
  omega
theorem ZkW (a : List (List Nat)) : T1.all (a, []) = a := by unfold T1.all; rw [if_pos rfl]
theorem ZkX {x : List Nat} : ∀ {g : List Nat}, (∀ k ∈ g, k = 32 \/ k = 10) -> T1.all (T1.W (x ++ g)) = T1.all (T1.W x) /\ (g ≠ [] -> T1.W (x ++ g) = (T1.all (T1.W x), []))
 | [], _ => ⟨by rw [Zar], fun h => absurd rfl h⟩
 | k :: g, h => by
  have e1 := T1.W_gap x (h k Zad)
  obtain ⟨a, b⟩ := ZkX (x := x ++ [k]) (g := g) fun y hy => h y (Zae _ hy)
  have e2 : x ++ k :: g = (x ++ [k]) ++ g := by rw [ZaK]; rfl
  have e3 : T1.all (T1.W (x ++ [k])) = T1.all (T1.W x) := by rw [e1, ZkW]
  refine ⟨by rw [e2, a, e3], fun _ => ?_⟩
  by_cases hg : g = []
  ·subst hg; exact e1
  ·rw [e2, b hg, e3]
noncomputable def ZlB (g : Str) : Prop := (∀ k ∈ g.cps.toList, k = 32 \/ k = 10) /\ g.length <= 3
theorem ZmD {l : List Str} (hl : ∀ g ∈ l, ZlB g) {i : Int} (h0 : 0 <= i) (h1 : i < (l.length : Int)) : ∃ g : Str, atI (l.map V.str) i = some (.str g) /\ g ∈ l /\ ZlB g := by
 obtain ⟨v, e, m⟩ := Zmc (l.map V.str) i h0 (by rw [Zaq]; exact h1)
 obtain ⟨g, hg, rfl⟩ := ZaX.mp m
 exact ⟨g, e, hg, hl g hg⟩
theorem Zrs : ∀ g ∈ (["", " ", "\n", " \n "] : List Str), ZlB g := by unfold ZlB; decide +kernel
theorem Zqj : ∀ g ∈ ([" ", "\n"] : List Str), ZlB g /\ g.length = 1 := by unfold ZlB; decide +kernel
theorem Zqk : ∀ g ∈ (["", "\n"] : List Str), ZlB g /\ g.length <= 1 := by unfold ZlB; decide +kernel
theorem Zgc (x : Str) : x.cps.toList.length = x.length := by rw [ZcC]; rfl
theorem Zql {x : List Nat} {y a g : Str} (e : T1.W y.cps.toList = T1.W x) (ha : ZlB a) (hn : a.length = 1) (hg : ZlB g) : T1.W (y ++ a ++ g).cps.toList = T1.W (x ++ [32]) := by
 rw [T1.W_gap x (.inl rfl), Zd3, Zd3, ZaK]
 have h : ∀ k ∈ a.cps.toList ++ g.cps.toList, k = 32 \/ k = 10 := fun k hk => by
  rcases Zag.mp hk with hk | hk
  ·exact ha.1 k hk
  ·exact hg.1 k hk
 have hne : a.cps.toList ++ g.cps.toList ≠ [] := fun z => by
  have := Zgc a
  rw [(List.append_eq_nil_iff.mp z).1] at this
  rw [hn] at this
  cases this
 rw [(ZkX h).2 hne, e]
theorem Zn9 {x : List Nat} {y g b : Str} {k : Nat} (hk : k = 40 \/ k = 41) (e : T1.W y.cps.toList = T1.W x) (hg : ZlB g) (hb : ZlB b) : T1.W (y ++ g ++ ⟨#[k]⟩ ++ b).cps.toList = T1.W (x ++ [k]) := by
 rw [T1.W_bracket x hk, Zd3, Zd3, Zd3]
 have h1 : T1.W (y.cps.toList ++ g.cps.toList ++ [k]) = (T1.all (T1.W x) ++ [[k]], []) := by rw [T1.W_bracket _ hk, (ZkX hg.1).1, e]
 show T1.W (y.cps.toList ++ g.cps.toList ++ [k] ++ b.cps.toList) = _
 by_cases hz : b.cps.toList = []
 ·rw [hz, Zar]; exact h1
 ·rw [(ZkX hb.1).2 hz, h1, ZkW]
theorem Zqm {x : List Nat} {y : Str} {k : Nat} (h1 : k ≠ 32) (h2 : k ≠ 40) (h3 : k ≠ 41) (e : T1.W y.cps.toList = T1.W x) : T1.W (y ++ ⟨#[k]⟩).cps.toList = T1.W (x ++ [k]) := by
 rw [Zd3]
 show T1.W (y.cps.toList ++ [k]) = _
 by_cases h : k = 10
 ·rw [T1.W_gap _ (.inr h), T1.W_gap _ (.inr h), e]
 ·have hr : ∀ j ∈ [k], j ≠ 32 /\ j ≠ 10 /\ j ≠ 40 /\ j ≠ 41 := fun j hj => by rw [ZaU.mp hj]; exact ⟨h1, h, h2, h3⟩
  rw [T1.W_run _ _ hr, T1.W_run _ _ hr, e]
theorem Zjy : (" " : Str) = ⟨#[32]⟩ /\ ("(" : Str) = ⟨#[40]⟩ /\ (")" : Str) = ⟨#[41]⟩ := by decide +kernel
theorem ZoZ {k j : Nat} (h : (⟨#[k]⟩ : Str) = ⟨#[j]⟩) : k = j := by
 injection h with h
 have := congrArg ZcD h
 simpa using this
theorem Zo0 {k j : Nat} (h : (⟨#[k]⟩ : Str) ≠ ⟨#[j]⟩) : k ≠ j := fun z => h (by rw [z])
theorem ifE {j : Nat} {M n : Str} {A B : TS} {D : Zih} {σ : St} {H : Hp} (hv : σ[j]? = some (some (.str M))) (kt : M = n -> A D σ H) (kf : M ≠ n -> B D σ H) : ZnM (cT (tOp (cEq false) (cV j) (tC (.str n)))) A B D σ H := by
 show onV σ[j]? _
 rw [hv]
 show if (false ^^ decide (M = n)) = true then _ else _
 rw [ZcA]
 by_cases h : M = n
 ·rw [decide_eq_true h]; exact ZeI (kt h)
 ·rw [decide_eq_false h]; exact Zeq (kf h)
section
variable {P : Program} {w : World} {K : PySem.W.Frag} {mg : Str -> Option Value} {base : Heap}
noncomputable def ZhW : Sp := fun vs H Q _ => ∃ (x : Str) (c : Int), vs = [.str x, .int c] /\ wt x <= 30000 /\ ∀ (y : Str) (H' : Hp), Same H H' -> T1.W y.cps.toList = T1.W x.cps.toList -> y.length <= wt x -> Q (.str y) H'
theorem ZhX (T : Txt K mg) : ZdK P w K mg base CX0 1 T.a__law_spread T.fd__law_spread ["_law_text", "_law_cell"] ZhW := by
 refine T.F__law_spread.ok Zdv (fun vs H Q E h => ?_) (fun cdv A outer s H vs Q E hr h => ?_)
 ·obtain ⟨x, c, rfl, _⟩ := h
  rfl
 obtain ⟨x, c, rfl, hw, q⟩ := h
 refine ⟨_, (ZcU (Zc9 (i := 2) Zdv.nd rfl (Or.inl rfl) (Zde ZeR (cv 1) ZcZ))
  (ZcU (Zc9 (i := 3) Zdv.nd rfl (Or.inl rfl) Zc0)
  (ZcU (ZfZ PassesOwn.never rfl (Zl5 (cv 0)) (ZeW (i := 4) Zdv.nd rfl (Or.inl rfl))
   (ZcU (Zc9 (i := 2) Zdv.nd rfl (Or.inl rfl) (Zde ZeR (Zde ZfC (Zde Zib (cv 2) (cv 2)) ZcZ) ZcZ))
   (ZcU (Zc9 (i := 5) Zdv.nd rfl (Or.inl rfl) (ZdR Zdt (Zdl (ZcR Zc0 (ZcR Zc0 (ZcR Zc0 (ZcR Zc0 ZcT))))) (Zde ZeR (Zde ZfI (cv 2) ZcZ) ZcZ) (fun _ _ => rfl)))
   (ZcW (ZdF (Zdh ZfD (cv 4) Zc0 (Zdk _))
    (ZcW (Zc9 (i := 3) Zdv.nd rfl (Or.inl rfl) (Zde ZdH (Zde ZdH (cv 3) (ZdR Zdt (Zdl (ZcR Zc0 (ZcR Zc0 ZcT))) (Zde ZeR (Zde ZfI (cv 2) ZcZ) ZcZ) (fun _ _ => rfl))) (cv 5))))
    (ZcW (ZdF (Zdh ZfD (cv 4) Zc0 (Zdk _))
     (ZcW (Zc9 (i := 3) Zdv.nd rfl (Or.inl rfl) (Zde ZdH (Zde ZdH (Zde ZdH (cv 3) (cv 5)) Zc0) (ZdR Zdt (Zdl (ZcR Zc0 (ZcR Zc0 ZcT))) (Zde ZeR (Zde ZfI (cv 2) ZcZ) ZcZ) (fun _ _ => rfl)))))
     (ZcW (ZdF (Zdh ZfD (cv 4) Zc0 (Zdk _))
      (ZcW (Zc9 (i := 3) Zdv.nd rfl (Or.inl rfl) (Zde ZdH (Zde ZdH (cv 3) (cv 5)) Zc0)))
      (ZcW (Zc9 (i := 3) Zdv.nd rfl (Or.inl rfl) (Zde ZdH (cv 3) (cv 4)))))))))))))
  (ZcW (Zc4 (cv 3)))))), ?_⟩
 have sl : sizeLine = 16777216 := sizeLine_eq
 refine ⟨(by show (0 : Int) < 2147483647; decide), ?_⟩
 dsimp only [Zeb]
 have n0 : 0 <= c % 2147483647 := ZcI _ (by decide)
 have n1 : c % 2147483647 < 2147483647 := ZcJ _ (by decide)
 generalize c % 2147483647 = n at n0 n1 ⊢
 have lx := Zgc x
 have wl := ZgQ x.cps.toList
 have hwx : wts x.cps.toList <= 30000 := hw
 refine ⟨_, rfl, ZoC (fun i σ H2 => ∃ (n : Int) (y : Str) (o1 o2 : Option V), σ = [some (.str x), some (.int c), some (.int n), some (.str y), o1, o2] /\ 0 <= n /\ n < 2147483647 /\ Same H H2 /\ T1.W y.cps.toList = T1.W (x.cps.toList.take i) /\ y.length <= wts (x.cps.toList.take i)) ⟨n, "", none, none, rfl, n0, n1, Same.refl _, rfl, ZbA _⟩ ?_ ?_⟩
 ·rintro i k σ H2 hk ⟨n, y, o1, o2, rfl, n0, n1, S, eW, ly⟩
  have hkl : x.cps.toList[i]? = some k := by rw [ZcE]; exact hk
  have tk : x.cps.toList.take (i + 1) = x.cps.toList.take i ++ [k] := by rw [Za7, hkl]; rfl
  have wtk : wts (x.cps.toList.take (i + 1)) = wts (x.cps.toList.take i) + cw k := by rw [tk, ZiM]; rfl
  have wle : wts (x.cps.toList.take i) + cw k <= 30000 := by
   have h1 : x.cps.toList = x.cps.toList.take (i + 1) ++ x.cps.toList.drop (i + 1) := (Zbr _ _).symm
   have h2 : wts x.cps.toList = wts (x.cps.toList.take (i + 1)) + wts (x.cps.toList.drop (i + 1)) := by rw [<- ZiM, <- h1]
   omega
  refine ⟨.inl ⟨by omega, by omega⟩, (by show (0 : Int) < 2147483647; decide), ?_⟩
  dsimp only [Zeb]
  have m0 : 0 <= (n * n + 17) % 2147483647 := ZcI _ (by decide)
  have m1 : (n * n + 17) % 2147483647 < 2147483647 := ZcJ _ (by decide)
  generalize (n * n + 17) % 2147483647 = m at m0 m1 ⊢
  obtain ⟨g, eg, _, hg⟩ := ZmD Zrs (i := m / 64 % 4) (ZcI _ (by decide)) (ZcJ _ (by decide))
  refine ⟨(by show 4 <= sizeLine; decide), fun a ha => ⟨⟨by decide, by decide⟩, (by show (0 : Int) < 4; decide), _, ZcS, Zdn eg ?_⟩⟩
  dsimp only [Zeb]
  have S1 := S.trans (ZcV ha (.lst ((["", " ", "\n", " \n "] : List Str).map V.str)))
  have gl := hg.2
  refine ifE rfl (fun h => ?_) (fun hn1 => ifE rfl (fun h => ?_) (fun hn2 => ifE rfl (fun h => ?_) (fun hn3 => ?_)))
  ·have hk2 : k = 32 := ZoZ (h.trans Zjy.1)
   have hc : cw k = 4 := by rw [hk2]; rfl
   obtain ⟨b, eb, hbm, hb⟩ := ZmD (fun g hg => (Zqj g hg).1) (i := m / 8 % 2) (ZcI _ (by decide)) (ZcJ _ (by decide))
   have b1 := (Zqj b hbm).2
   refine ⟨(by show 2 <= sizeLine; decide), fun a2 ha2 => ⟨⟨by decide, by decide⟩, (by show (0 : Int) < 2; decide), _, ZcS, Zdn eb ⟨by omega, by rw [Str.length_append]; omega, m, _, _, _, rfl, m0, m1, S1.trans (ZcV ha2 _), ?_, ?_⟩⟩⟩
   ·rw [tk, hk2]
    exact Zql eW hb b1 hg
   ·rw [wtk, Str.length_append, Str.length_append]
    omega
  ·have hk2 : k = 40 := ZoZ (h.trans Zjy.2.1)
   have hc : cw k = 5 := by rw [hk2]; rfl
   obtain ⟨b, eb, hbm, hb⟩ := ZmD (fun g hg => (Zqk g hg).1) (i := m / 8 % 2) (ZcI _ (by decide)) (ZcJ _ (by decide))
   have b1 := (Zqk b hbm).2
   have o1 : ("(" : Str).length = 1 := by decide +kernel
   refine ⟨by omega, by rw [Str.length_append]; omega, (by show 2 <= sizeLine; decide), fun a2 ha2 => ⟨⟨by decide, by decide⟩, (by show (0 : Int) < 2; decide), _, ZcS, Zdn eb ⟨by rw [Str.length_append, Str.length_append]; omega, m, _, _, _, rfl, m0, m1, S1.trans (ZcV ha2 _), ?_, ?_⟩⟩⟩
   ·rw [tk, Zjy.2.1, hk2]
    exact Zn9 (.inl rfl) eW hg hb
   ·rw [wtk, Str.length_append, Str.length_append, Str.length_append]
    omega
  ·have hk2 : k = 41 := ZoZ (h.trans Zjy.2.2)
   have hc : cw k = 4 := by rw [hk2]; rfl
   have o1 : (")" : Str).length = 1 := by decide +kernel
   refine ⟨by omega, by rw [Str.length_append]; omega, m, _, _, _, rfl, m0, m1, S1, ?_, ?_⟩
   ·have hz := Zn9 (b := "") (.inr rfl) eW hg ⟨fun k hk => (by cases hk), by decide +kernel⟩
    rw [tk, Zjy.2.2, hk2]
    rw [Zd3] at hz
    rw [<- hz]
    show _ = T1.W ((y ++ g ++ ⟨#[41]⟩).cps.toList ++ [])
    rw [Zar]
   ·rw [wtk, Str.length_append, Str.length_append]
    omega
  ·have hc : 1 <= cw k := ZgQ [k]
   have l1 : (⟨#[k]⟩ : Str).length = 1 := ZhH k
   refine ⟨by omega, m, _, _, _, rfl, m0, m1, S1, ?_, ?_⟩
   ·rw [tk]
    exact Zqm (Zo0 (Zjy.1 ▸ hn1)) (Zo0 (Zjy.2.1 ▸ hn2)) (Zo0 (Zjy.2.2 ▸ hn3)) eW
   ·rw [wtk, Str.length_append]
    omega
 ·rintro σ H2 ⟨n, y, o1, o2, rfl, n0, n1, S, eW, ly⟩
  have ez : x.cps.toList.take x.cps.size = x.cps.toList := Za4 (by rw [ZcC]; exact Zbz _)
  rw [ez] at eW ly
  exact q y H2 S eW ly
end
end K04.Internal
namespace K04.Internal
open PySem L2.Internal BO.Internal
seal L2.Internal.PE L2.Internal.PA L2.Internal.PS L2.Internal.PSs L2.Internal.PT L2.Internal.PI
noncomputable def jn (l : List Str) : Str := Str.join " " l
theorem ZfO {x : Str} {l : List Str} (h : l ≠ []) : jn (x :: l) = x ++ " " ++ jn l := by
 cases l with
 | nil => exact absurd rfl h
 | cons y l => rfl
theorem Zgz (x : Str) : jn [x] = x := rfl
theorem Zjz (x y z : Str) : x ++ y ++ z = x ++ (y ++ z) := T1.str_ext (by rw [Zd3, Zd3, Zd3, Zd3, ZaK])
theorem Zoa : ∀ {a b : List Str}, a ≠ [] -> b ≠ [] -> jn (a ++ b) = jn a ++ " " ++ jn b
 | [x], b, _, hb => by rw [Zbh, ZfO hb, Zgz]
 | x :: y :: a, b, _, hb => by
  rw [Zbg, ZfO (by simp), Zoa (a := y :: a) (by simp) hb, ZfO (l := y :: a) (by simp)]
  rw [Zjz, Zjz, Zjz, Zjz, Zjz]
noncomputable def _root_.TM.Internal.Kn.tx (κ : TM.Internal.Kn) (ks : List Str) : Str := match κ with
 | .num n => TM.Internal.numS n
 | .name w => w
 | κ => "(" ++ jn (κ.s :: κ.ws (ks.map fun s => [s])) ++ ")"
mutual
noncomputable def _root_.TM.Internal.Tr.st : TM.Internal.Tr -> Str
 | .mk κ ks => κ.tx (sts ks)
noncomputable def sts : List TM.Internal.Tr -> List Str
 | [] => []
 | t :: ts => t.st :: sts ts
end
mutual
noncomputable def Pt.tx : Pt -> List Str
 | .w s => [s]
 | .i n => [TM.Internal.numS n]
 | .t x => [x.st]
 | .tp l => Zen l
noncomputable def Zen : List Pt -> List Str
 | [] => []
 | x :: l => x.tx ++ Zen l
end
mutual
noncomputable def Pt.ne : Pt -> Prop
 | .w _ => True
 | .i _ => True
 | .t _ => True
 | .tp l => l ≠ [] /\ ZeU l
noncomputable def ZeU : List Pt -> Prop
 | [] => True
 | x :: l => x.ne /\ ZeU l
end
mutual
noncomputable def Pt.mx : Pt -> Nat
 | .w _ => 0
 | .i _ => 0
 | .t x => 4 * x.nest
 | .tp l => 1 + Zo1 l
noncomputable def Zo1 : List Pt -> Nat
 | [] => 0
 | x :: l => max x.mx (Zo1 l)
end
mutual
theorem Pt.mx_le {f : Nat} : ∀ {x : Pt}, x.gd f -> x.mx <= 4 * f + x.dp
 | .w _, _ => by rw [Pt.mx]; omega
 | .i _, _ => by rw [Pt.mx]; omega
 | .t x, h => by rw [Pt.gd] at h; rw [Pt.mx]; omega
 | .tp l, h => by
  rw [Pt.gd] at h
  have := Zj8 h.2
  rw [Pt.mx, Pt.dp]
  omega
theorem Zj8 {f : Nat} : ∀ {l : List Pt}, Zd8 f l -> Zo1 l <= 4 * f + Zd7 l
 | [], _ => by rw [Zo1]; omega
 | x :: l, h => by
  rw [Zd8] at h
  have h1 := Pt.mx_le h.1
  have h2 := Zj8 h.2
  rw [Zo1, Zd7]
  omega
end
theorem ZiN {x : Pt} : ∀ {l : List Pt}, x ∈ l -> x.mx <= Zo1 l
 | y :: l, hx => by
  rw [Zo1]
  rcases Zaf.mp hx with e | e
  ·rw [e]; exact ZbC _ _
  ·exact Zbw (ZiN e) (ZbD _ _)
theorem ZgA {x : Pt} : ∀ {l : List Pt}, ZeU l -> x ∈ l -> x.ne
 | y :: l, h, hx => by
  rw [ZeU] at h
  rcases Zaf.mp hx with e | e
  ·rw [e]; exact h.1
  ·exact ZgA h.2 e
mutual
theorem Pt.tx_ne : ∀ {x : Pt}, x.ne -> x.tx ≠ []
 | .w _, _ => by rw [Pt.tx]; simp
 | .i _, _ => by rw [Pt.tx]; simp
 | .t _, _ => by rw [Pt.tx]; simp
 | .tp l, h => by rw [Pt.ne] at h; rw [Pt.tx]; exact ZmE h.1 h.2
theorem ZmE : ∀ {l : List Pt}, l ≠ [] -> ZeU l -> Zen l ≠ []
 | [], h, _ => absurd rfl h
 | x :: l, _, h => by
  rw [ZeU] at h
  have := Pt.tx_ne h.1
  rw [Zen]
  simp [this]
end
noncomputable def pjs (l : List Pt) : List Str := l.map fun x => jn x.tx
theorem Zgd : ∀ {l : List Pt}, ZeU l -> jn (pjs l) = jn (Zen l)
 | [], _ => by rw [Zen]; rfl
 | [x], _ => by rw [Zen, Zen, Zar]; rfl
 | x :: y :: l, h => by
  rw [ZeU] at h
  rw [Zen, Zoa (Pt.tx_ne h.1) (ZmE (by simp) h.2), <- Zgd h.2]
  exact ZfO (by simp)
theorem ZmF (z : Str) : ∀ ys : List Str, (ys.map (·.length)).sum + ys.length <= (jn ys).length + 1
 | [] => by simp
 | [y] => by simp [Zgz]
 | y :: u :: ys => by
  have ih := ZmF z (u :: ys)
  have h1 : (" " : Str).length = 1 := by decide +kernel
  rw [ZfO (by simp), Str.length_append, Str.length_append, h1]
  rw [Zap, Za8, Zan]
  omega
theorem Zob {y : Str} : ∀ {ys : List Str}, y ∈ ys -> y.length <= (jn ys).length
 | [u], h => by rw [ZaU.mp h, Zgz]; exact Zbz _
 | u :: v :: ys, h => by
  rw [ZfO (by simp), Str.length_append, Str.length_append]
  rcases Zaf.mp h with e | e
  ·rw [e]; omega
  ·have := Zob e
   omega
theorem ZiO : ∀ (a b : List Pt), Zen (a ++ b) = Zen a ++ Zen b
 | [], b => by rw [Zen]; rfl
 | x :: a, b => by rw [Zbg, Zen, Zen, ZiO a b, ZaK]
theorem ZiP : ∀ {a b : List Pt}, ZeU a -> ZeU b -> ZeU (a ++ b)
 | [], _, _, h => h
 | x :: a, b, h, h' => by
  rw [ZeU] at h
  rw [Zbg, ZeU]
  exact ⟨h.1, ZiP h.2 h'⟩
theorem ZhM : ∀ ks : List TM.Internal.Tr, ZeU (ks.map .t)
 | [] => by rw [ZaF, ZeU]; trivial
 | k :: ks => by rw [Zap, ZeU, Pt.ne]; exact ⟨trivial, ZhM ks⟩
theorem ZhN : ∀ ks : List TM.Internal.Tr, Zen (ks.map .t) = sts ks
 | [] => by rw [sts]; rfl
 | k :: ks => by rw [Zap, Zen, ZhN ks, sts, Pt.tx]; rfl
theorem ZfP : ∀ l : List Str, (l.map fun s => [s]).flatten = l
 | [] => rfl
 | x :: l => by rw [Zap, ZaJ, ZfP l]; rfl
theorem Zoc : ∀ (l : List Str) (ks : List TM.Internal.Tr), Zen (pq1 l ks) = TM.Internal.wv1 l ((sts ks).map fun s => [s])
 | w :: l, k :: ks => by rw [pq1, Zen, Zoc l ks, Pt.tx, Zen, Zen, Zen, Pt.tx, Pt.tx, sts, Zap, TM.Internal.wv1]; rfl
 | [], [] => by rw [sts]; rfl
 | [], _ :: _ => by rw [sts]; rfl
 | _ :: _, [] => by rw [sts]; rfl
theorem Zod : ∀ (l : List (Str × Str)) (ks : List TM.Internal.Tr), Zen (pq2 l ks) = TM.Internal.wv2 l ((sts ks).map fun s => [s])
 | w :: l, k :: ks => by rw [pq2, Zen, Zod l ks, Pt.tx, Zen, Zen, Zen, Zen, Pt.tx, Pt.tx, Pt.tx, sts, Zap, TM.Internal.wv2]; rfl
 | [], [] => by rw [sts]; rfl
 | [], _ :: _ => by rw [sts]; rfl
 | _ :: _, [] => by rw [sts]; rfl
theorem Zoe : ∀ (l : List Str) (ks : List TM.Internal.Tr), ZeU (pq1 l ks)
 | w :: l, k :: ks => by rw [pq1, ZeU, Pt.ne, ZeU, ZeU, ZeU, Pt.ne, Pt.ne]; exact ⟨⟨by simp, trivial, trivial, trivial⟩, Zoe l ks⟩
 | [], [] => by show ZeU []; rw [ZeU]; trivial
 | [], _ :: _ => by show ZeU []; rw [ZeU]; trivial
 | _ :: _, [] => by show ZeU []; rw [ZeU]; trivial
theorem Zof : ∀ (l : List (Str × Str)) (ks : List TM.Internal.Tr), ZeU (pq2 l ks)
 | w :: l, k :: ks => by rw [pq2, ZeU, Pt.ne, ZeU, ZeU, ZeU, ZeU, Pt.ne, Pt.ne, Pt.ne]; exact ⟨⟨by simp, trivial, trivial, trivial, trivial⟩, Zof l ks⟩
 | [], [] => by show ZeU []; rw [ZeU]; trivial
 | [], _ :: _ => by show ZeU []; rw [ZeU]; trivial
 | _ :: _, [] => by show ZeU []; rw [ZeU]; trivial
noncomputable def _root_.TM.Internal.Kn.fm : TM.Internal.Kn -> Prop
 | .num _ => False
 | .name _ => False
 | _ => True
theorem ZhO {l : List Pt} {z : List Pt} (e : l = z) (h : ZeU z) (hn : z ≠ []) : ∃ a x, l = a ++ [x] /\ ZeU a /\ (x.ne \/ x = .tp []) := by
 subst e
 have hd := Zbc hn
 refine ⟨l.dropLast, l.getLast hn, hd.symm, ?_, .inl (ZgA h (List.getLast_mem hn))⟩
 have : ∀ x ∈ l.dropLast, x.ne := fun x hx => ZgA h (List.dropLast_subset _ hx)
 generalize l.dropLast = m at this
 induction m with
 | nil => rw [ZeU]; trivial
 | cons y m ih => rw [ZeU]; exact ⟨this y Zad, ih fun x hx => this x (Zae _ hx)⟩
theorem Zo2 (l : List Pt) (h : ZeU l) : (Pt.tp l).ne \/ Pt.tp l = .tp [] := by
 by_cases e : l = []
 ·exact .inr (by rw [e])
 ·exact .inl (by rw [Pt.ne]; exact ⟨e, h⟩)
theorem wn (s : Str) : (Pt.w s).ne := by rw [Pt.ne]; trivial
theorem tn (t : TM.Internal.Tr) : (Pt.t t).ne := by rw [Pt.ne]; trivial
theorem pn1 {x : Pt} (h : x.ne) : ZeU [x] := by rw [ZeU, ZeU]; exact ⟨h, trivial⟩
theorem pnc {x : Pt} {l : List Pt} (h : x.ne) (h' : ZeU l) : ZeU (x :: l) := by rw [ZeU]; exact ⟨h, h'⟩
theorem ZgB {κ : TM.Internal.Kn} {ks : List TM.Internal.Tr} (hf : κ.fm) (h2 : ks.length = κ.ar) : (∃ a x, κ.pt ks = a ++ [x] /\ ZeU a /\ (x.ne \/ x = .tp [])) /\ Zen (κ.pt ks) = κ.s :: κ.ws ((sts ks).map fun s => [s]) /\ ∃ r, κ.pt ks = .w κ.s :: r := by
 cases κ with
 | num n => exact hf.elim
 | name w => exact hf.elim
 | fn w =>
  refine ⟨ZhO rfl (pnc (wn _) (pnc (wn _) (ZhM ks))) (fun z => nomatch z), ?_, _, rfl⟩
  show Zen (.w "fn" :: .w w :: ks.map .t) = ("fn" : Str) :: w :: _
  rw [Zen, Zen, ZhN, Pt.tx, Pt.tx, ZfP]
  rfl
 | tag w =>
  refine ⟨ZhO rfl (pnc (wn _) (pnc (wn _) (ZhM ks))) (fun z => nomatch z), ?_, _, rfl⟩
  show Zen (.w "tag" :: .w w :: ks.map .t) = ("tag" : Str) :: w :: _
  rw [Zen, Zen, ZhN, Pt.tx, Pt.tx, ZfP]
  rfl
 | lt w =>
  refine ⟨ZhO rfl (pnc (wn _) (pnc (wn _) (ZhM ks))) (fun z => nomatch z), ?_, _, rfl⟩
  show Zen (.w "let" :: .w w :: ks.map .t) = ("let" : Str) :: w :: _
  rw [Zen, Zen, ZhN, Pt.tx, Pt.tx, ZfP]
  rfl
 | get w =>
  refine ⟨ZhO rfl (pnc (wn _) (ZiP (ZhM ks) (pn1 (wn w)))) (fun z => nomatch z), ?_, _, rfl⟩
  show Zen (.w "get" :: (ks.map .t ++ [.w w])) = ("get" : Str) :: (_ ++ [w])
  rw [Zen, ZiO, ZhN, Zen, Zen, Pt.tx, Pt.tx, ZfP]
  rfl
 | rcd l =>
  refine ⟨⟨[.w "rec"], .tp (pq1 l ks), rfl, pn1 (wn _), Zo2 _ (Zoe l ks)⟩, ?_, _, rfl⟩
  show Zen [.w "rec", .tp (pq1 l ks)] = ("rec" : Str) :: TM.Internal.wv1 l _
  rw [Zen, Zen, Zen, Pt.tx, Pt.tx, Zoc, Zar]
  rfl
 | case l =>
  cases ks with
  | nil => exact absurd h2 (by simp [TM.Internal.Kn.ar])
  | cons k ks =>
   refine ⟨⟨[.w "case", .t k], .tp (pq2 l ks), rfl, pnc (wn _) (pn1 (tn k)), Zo2 _ (Zof l ks)⟩, ?_, _, rfl⟩
   rw [sts]
   show Zen [.w "case", .t k, .tp (pq2 l ks)] = ("case" : Str) :: ([k.st] ++ TM.Internal.wv2 l ((sts ks).map fun s => [s]))
   rw [Zen, Zen, Zen, Zen, Pt.tx, Pt.tx, Pt.tx, Zod, Zar]
   rfl
 | row m =>
  refine ⟨⟨[.w "row"], .tp (ks.map .t), rfl, pn1 (wn _), Zo2 _ (ZhM ks)⟩, ?_, _, rfl⟩
  show Zen [.w "row", .tp (ks.map .t)] = ("row" : Str) :: ((sts ks).map fun s => [s]).flatten
  rw [Zen, Zen, Zen, Pt.tx, Pt.tx, ZhN, Zar, ZfP]
  rfl
 | op s m =>
  refine ⟨ZhO rfl (pnc (wn _) (ZhM ks)) (fun z => nomatch z), ?_, _, rfl⟩
  show Zen (.w s :: ks.map .t) = s :: ((sts ks).map fun s => [s]).flatten
  rw [Zen, ZhN, Pt.tx, ZfP]
  rfl
theorem Zo3 {κ : TM.Internal.Kn} {ks : List TM.Internal.Tr} (hf : κ.fm) (h2 : ks.length = κ.ar) : (TM.Internal.Tr.mk κ ks).st = "(" ++ jn (Zen (κ.pt ks)) ++ ")" := by
 rw [(ZgB hf h2).2.1, TM.Internal.Tr.st]
 cases κ with
 | num n => exact hf.elim
 | name w => exact hf.elim
 | _ => rfl
end K04.Internal
namespace K04.Internal
open PySem L2.Internal BO.Internal
seal L2.Internal.PE L2.Internal.PA L2.Internal.PS L2.Internal.PSs L2.Internal.PT L2.Internal.PI
theorem ZmG {J : It} {i : Nat} {te : TE} {Q : VK} {τ : St} {H1 : Hp} {D : Addr} {zs : List V} {ps : List Pt} (dz : Zfu H1 zs (Zea ps)) (hn : zs.length < sizeLine) (hD : H1 D = none) (hτ : τ.set i none = τ)
  (hgo : ∀ k H, Same H1 H -> k < zs.length -> J.go k H) (hy : ∀ k H v H', Same H1 H -> k < zs.length -> J.yld k H v H' -> H' = H /\ zs[k]? = some v) (hst : ∀ H, Same H1 H -> J.stop zs.length H)
  (step : ∀ (x : Pt) (v : V) (H : Hp) (Z : VK), x ∈ ps -> Same H1 H -> Dta H v x.td -> (∀ H', Same H H' -> Z (.str (jn x.tx)) H') -> te (τ.set i (some v)) H Z)
  (hq : ∀ H', Same H1 H' -> H' D = some (.lst ((pjs ps).map V.str)) -> Q (.ref D) H') : LcP J i ZgJ te Q τ H1 D := by
 have lz := Zds dz
 rw [Zd9, Zaq] at lz
 refine Zi8 zs.length hn (fun ys _ => ys = (pjs (ps.take ys.length)).map V.str) (fun ys H H' h _ => h) hD hτ hgo hst rfl ?_ ?_
 ·intro k H2 v H3 ys Z S hk y hyy hyl hZ
  obtain ⟨rfl, hv⟩ := hy k H2 v H3 S hk y
  obtain ⟨d, hd, dv⟩ := ZeP dz hv
  rw [Zd9, Zay] at hd
  obtain ⟨x, hx', rfl⟩ := ZbN.mp hd
  refine step x v _ _ (Zaz hx') S (dv.same S) fun H' S' => hZ _ _ S' ?_
  rw [ZaA, ZaL, Za7, hyl, hx']
  rw [hyl] at hyy
  rw [hyy]
  unfold pjs
  rw [ZaQ, ZaQ]
  rfl
 ·intro H' ys S hyy hyl e
  rw [hyl, Za4 (by omega)] at hyy
  rw [hyy] at e
  exact hq H' S e
theorem ZnB (z : List V) (x : V) : Zi0 (z ++ [x]) none (some (-1)) = z := by
 unfold Zi0 HT.Internal.sIx
 rw [ZaA, ZaL]
 show ((z ++ [x]).drop 0).take _ = z
 rw [Za3]
 have e : ∀ n : Nat, n = z.length -> (z ++ [x]).take n = z := fun n h => by rw [h, List.take_left]
 refine e _ ?_
 simp
 omega
theorem txl {y : Str} {ys : List Str} (h : y ∈ ys) (hl : (jn ys).length <= 100000) : y.length <= 100000 := Zbw (Zob h) hl
theorem Zog {x : Pt} {l : List Pt} (h : x ∈ l) : jn x.tx ∈ pjs l := ZaX.mpr ⟨x, h, rfl⟩
noncomputable def Zqn (H : Hp) (x : V) (b : Bool) : Prop := (∃ z, x = .str z /\ b = false) \/ (∃ z, x = .int z /\ b = false) \/ (∃ a xs, x = .ref a /\ H a = some (.lst xs) /\ b = false) \/ (∃ a xs, x = .ref a /\ H a = some (.tup xs) /\ b = decide (xs = []))
theorem Zkz {K : PySem.W.Frag} {x : V} {p : Addr} {b : Bool} {H : Hp} {Q : VK} (hp : H p = some (.tup [])) (h : Zqn H x b) (q : Q (.bl b) H) : ZrU K x (.ref p) H Q := by
 refine ⟨p, rfl, hp, ?_⟩
 rcases h with ⟨z, rfl, rfl⟩ | ⟨z, rfl, rfl⟩ | ⟨a, xs, rfl, ha, rfl⟩ | ⟨a, xs, rfl, ha, rfl⟩
 ·exact .inl ⟨z, rfl, q⟩
 ·exact .inr (.inl ⟨z, rfl, q⟩)
 ·exact .inr (.inr (.inl ⟨a, xs, rfl, ha, q⟩))
 ·exact .inr (.inr (.inr ⟨a, xs, rfl, ha, q⟩))
theorem Zqn.same {H H' : Hp} {x : V} {b : Bool} (h : Zqn H x b) (S : Same H H') : Zqn H' x b := by
 rcases h with h | h | ⟨a, xs, rfl, ha, rfl⟩ | ⟨a, xs, rfl, ha, rfl⟩
 ·exact .inl h
 ·exact .inr (.inl h)
 ·exact .inr (.inr (.inl ⟨a, xs, rfl, S _ _ ha, rfl⟩))
 ·exact .inr (.inr (.inr ⟨a, xs, rfl, S _ _ ha, rfl⟩))
theorem Zqo {H : Hp} {v : V} {x : Pt} (d : Dta H v x.td) : ∃ b, Zqn H v b /\ (b = true ↔ x = .tp []) := by
 cases x with
 | w z => rw [Pt.td] at d; cases d; exact ⟨false, .inl ⟨_, rfl, rfl⟩, by simp⟩
 | i z => rw [Pt.td] at d; cases d; exact ⟨false, .inr (.inl ⟨_, rfl, rfl⟩), by simp⟩
 | t t =>
  rw [Pt.td] at d
  cases t with
  | mk κ ks =>
   rw [Znz] at d
   cases d with
   | @lst a xs _ ha hs => exact ⟨false, .inr (.inr (.inl ⟨_, _, rfl, ha, rfl⟩)), by simp⟩
 | tp l =>
  rw [Pt.td] at d
  cases d with
  | @tup a xs _ ha hs =>
   have lz := Zds hs
   rw [Zd9, Zaq] at lz
   refine ⟨decide (xs = []), .inr (.inr (.inr ⟨_, _, rfl, ha, rfl⟩)), ?_⟩
   rw [decide_eq_true_eq]
   constructor
   ·intro h
    rw [h] at lz
    rw [Zbk lz.symm]
   ·intro h
    injection h with h
    rw [h] at lz
    exact Zbk lz
theorem Zrt : ∀ p ∈ TM.Internal.ops, p.1 ≠ "num" /\ p.1 ≠ "name" := by decide +kernel
theorem Zr0 {κ : TM.Internal.Kn} (hf : κ.fm) (ho : κ.ok) : κ.s ≠ "num" /\ κ.s ≠ "name" := by
 cases κ with
 | num n => exact hf.elim
 | name w => exact hf.elim
 | op s m => exact Zrt (s, m) ho
 | fn w => exact (show ("fn" : Str) ≠ "num" /\ ("fn" : Str) ≠ "name" from by decide +kernel)
 | tag w => exact (show ("tag" : Str) ≠ "num" /\ ("tag" : Str) ≠ "name" from by decide +kernel)
 | lt w => exact (show ("let" : Str) ≠ "num" /\ ("let" : Str) ≠ "name" from by decide +kernel)
 | get w => exact (show ("get" : Str) ≠ "num" /\ ("get" : Str) ≠ "name" from by decide +kernel)
 | rcd l => exact (show ("rec" : Str) ≠ "num" /\ ("rec" : Str) ≠ "name" from by decide +kernel)
 | case l => exact (show ("case" : Str) ≠ "num" /\ ("case" : Str) ≠ "name" from by decide +kernel)
 | row m => exact (show ("row" : Str) ≠ "num" /\ ("row" : Str) ≠ "name" from by decide +kernel)
theorem ZnC (κ : TM.Internal.Kn) : (∃ n, κ = .num n) \/ (∃ w, κ = .name w) \/ κ.fm := by
 cases κ with
 | num n => exact .inl ⟨n, rfl⟩
 | name w => exact .inr (.inl ⟨w, rfl⟩)
 | _ => exact .inr (.inr trivial)
theorem ZmH {n : Int} (h0 : 0 <= n) (h1 : n < 10 ^ 60) : n.natAbs.log2 < 1920 := by
 by_cases hz : n.natAbs = 0
 ·rw [hz]; decide +kernel
 ·rw [Nat.log2_lt hz]
  have h2 : n.natAbs < 10 ^ 60 := by omega
  have h3 : (10 : Nat) ^ 60 <= 2 ^ 200 := by decide +kernel
  have h4 : (2 : Nat) ^ 200 <= 2 ^ 1920 := Nat.pow_le_pow_right (by decide) (by decide)
  omega
section
variable {P : Program} {w : World} {K : PySem.W.Frag} {mg : Str -> Option Value} {base : Heap}
noncomputable def ZgC (n : Nat) : Sp := fun vs H Q _ => ∃ (v : V) (x : Pt), vs = [v] /\ Dta H v x.td /\ x.gd 24 /\ x.mx < n /\ x.ne /\ (jn x.tx).length <= 100000 /\ ∀ H', Same H H' -> Q (.str (jn x.tx)) H'
theorem ZiQ (T : Txt K mg) : ∀ n : Nat, ZdK P w K mg base CX0 (n + 1) T.a__law_plain T.fd__law_plain ["_law_part_here"] (ZgC n) := by
 intro n
 induction n with
 | zero =>
  refine T.F__law_plain.ok Zgt (fun vs H Q E h => ?_) (fun cdv A outer s H vs Q E hr h => ?_)
  ·obtain ⟨v, x, rfl, _⟩ := h
   rfl
  obtain ⟨v, x, rfl, dv, gx, hx, _⟩ := h
  exact absurd hx (ZbE _)
 | succ n ih =>
  have G__law_plain := ih
  refine T.F__law_plain.ok Zgt (fun vs H Q E h => ?_) (fun cdv A outer s H vs Q E hr h => ?_)
  ·obtain ⟨v, x, rfl, _⟩ := h
   rfl
  obtain ⟨v, x, rfl, dv, gx, hx, nx, lx, q⟩ := h
  refine ⟨_, (ZcU (ZdF (ZeB (Zc3 ZdS rfl T.z_isinstance Zdc (ZcR (cv 0) (ZcR (ZeY rfl T.z_tuple ZdJ) ZcT))))
   (ZcW (Zc4 (ZeD Zcq Zcu Zcv Zf5 Zc0 (ZcR (Zgo rfl (ZnU (x := "_law_inner") rfl (by decide +kernel) (by decide +kernel) rfl rfl) (Zkv (cv 0)) (fun _ _ _ _ _ => ZeK) (fun _ _ _ _ _ => (Zc7 G__law_plain (hr.mono (by omega)) rfl T.m__law_plain T.k__law_plain T.b__law_plain .nil ZdL (ZcR (cv 0) ZcT)))) ZcT))))
   Zc6)
  (ZcU (ZdF (Zft (ZeB (Zc3 ZdS rfl T.z_isinstance Zdc (ZcR (cv 0) (ZcR (ZeY rfl T.z_list ZfH) ZcT)))))
   (ZcW (Zc4 (Zdm Zjb rfl T.z_str Zhq (ZcR (cv 0) ZcT))))
   Zc6)
  (ZcU (ZdF (PW.pt (Zik (Zdh ZfD (ZdR Zdt (cv 0) ZcZ (fun _ _ => rfl)) Zc0 (Zdk _)) (ZgR (Zdh ZfD (ZdR Zdt (cv 0) ZcZ (fun _ _ => rfl)) Zc0 (Zdk _)))))
   (ZcW (Zc4 (Zdm Zjb rfl T.z_str Zhq (ZcR (ZdR Zdt (cv 0) ZcZ (fun _ _ => rfl)) ZcT))))
   Zc6)
  (ZcU (ZdF (ZdY (Zp4 hr) (ZdR Zdt (cv 0) (Zk9 ZhZ ZcZ) (fun _ _ => rfl)) (Zfn ZcT) (Zdk _))
   (ZcW (Zc4 (Zde ZdH (Zde ZdH Zc0 (ZeD Zcq Zcu Zcv Zf5 Zc0 (ZcR (Zgo rfl (ZnU (x := "_law_inner") rfl (by decide +kernel) (by decide +kernel) rfl rfl) (Ze4 (Zg6 ZjR (cv 0) Ziq (Zir (Zk9 ZhZ ZcZ)))) (fun _ _ _ _ _ => ZeK) (fun _ _ _ _ _ => (Zc7 G__law_plain (hr.mono (by omega)) rfl T.m__law_plain T.k__law_plain T.b__law_plain .nil ZdL (ZcR (cv 0) ZcT)))) ZcT))) Zc0)))
   Zc6)
  (ZcW (Zc4 (Zde ZdH (Zde ZdH Zc0 (ZeD Zcq Zcu Zcv Zf5 Zc0 (ZcR (Zgo rfl (ZnU (x := "_law_inner") rfl (by decide +kernel) (by decide +kernel) rfl rfl) (Ze4 (cv 0)) (fun _ _ _ _ _ => ZeK) (fun _ _ _ _ _ => (Zc7 G__law_plain (hr.mono (by omega)) rfl T.m__law_plain T.k__law_plain T.b__law_plain .nil ZdL (ZcR (cv 0) ZcT)))) ZcT))) Zc0))))))), ?_⟩
  have sl : sizeLine = 16777216 := sizeLine_eq
  have one : (" " : Str).length = 1 := by decide +kernel
  have jok : ∀ l : List Str, (jn l).length <= 100000 -> (l.map (·.length)).sum + l.length * (" " : Str).length <= sizeLine := fun l h => by
   have := ZmF "" l
   rw [one]
   omega
  cases x with
  | w z =>
   rw [Pt.td] at dv
   cases dv
   refine ⟨_, _, _, _, false, rfl, fun _ r => r, .str _, rfl, _, rfl, Zeq ⟨_, _, _, _, false, rfl, fun _ r => r, .str _, rfl, _, rfl, ZeI (.inr ⟨_, rfl, ?_⟩)⟩⟩
   have h := q H (Same.refl _)
   rw [Pt.tx] at h
   exact h
  | i m =>
   rw [Pt.td] at dv
   rw [Pt.gd] at gx
   cases dv
   refine ⟨_, _, _, _, false, rfl, fun _ r => r, .int _, rfl, _, rfl, Zeq ⟨_, _, _, _, false, rfl, fun _ r => r, .int _, rfl, _, rfl, ZeI (.inl ⟨_, rfl, ZmH gx.1 gx.2, ?_⟩)⟩⟩
   have h := q H (Same.refl _)
   rw [Pt.tx] at h
   exact h
  | tp l =>
   rw [Pt.td] at dv
   rw [Pt.gd] at gx
   rw [Pt.ne] at nx
   rw [Pt.mx] at hx
   rw [Pt.tx] at lx q
   cases dv with
   | @tup a xs _ ha hs =>
    have lz := Zds hs
    rw [Zd9, Zaq] at lz
    have ej := Zgd nx.2
    refine ⟨_, _, _, _, true, rfl, fun _ r => r, .tup ha, rfl, _, rfl, ZeI ⟨rfl, a, rfl, ⟨_, SqT.of ha⟩, fun D hD => ?_⟩⟩
    refine ZmG hs (by omega) hD rfl (fun k H S h => ZnY ha S h) (fun k H v H' S h y => ⟨y.1, y.2 _ (SqT.of (S _ _ ha))⟩) (fun H S => ZnZ ha S) ?_ ?_
    ·intro x v H2 Z hx2 S dv2 hZ
     have := ZiN hx2
     exact ⟨v, x, rfl, dv2, Zgx gx.2 hx2, by omega, ZgA nx.2 hx2, txl (Zog hx2) (by rw [ej]; exact lx), hZ⟩
    ·intro H2 S2 eD
     refine ⟨" ", D, pjs l, rfl, rfl, SqL.of eD, jok _ (by rw [ej]; exact lx), ?_⟩
     have h := q H2 S2
     rw [<- ej] at h
     exact h
  | t t =>
   rw [Pt.td] at dv
   rw [Pt.gd] at gx
   rw [Pt.mx] at hx
   rw [Pt.tx, Zgz] at lx q
   cases t with
   | mk κ ks =>
    rw [Znz] at dv
    obtain ⟨okt, hn⟩ := gx
    rw [TM.Internal.Tr.ok] at okt
    rw [TM.Internal.Tr.nest] at hn hx
    obtain ⟨p1, p2, p3⟩ := ZnA (f := 23) okt.1 okt.2.1 okt.2.2 (by omega)
    obtain ⟨p1', _, _⟩ := ZnA (f := TM.Internal.nests ks) okt.1 okt.2.1 okt.2.2 (Zbz _)
    obtain ⟨p24, _, _⟩ := ZnA (f := 24) okt.1 okt.2.1 okt.2.2 (by omega)
    have pm := Zj8 p1'
    cases dv with
    | @lst a xs _ ha hs =>
     have lz := Zds hs
     rw [Zd9, Zaq] at lz
     refine ⟨_, _, _, _, false, rfl, fun _ r => r, .lst ha, rfl, _, rfl, Zeq ⟨_, _, _, _, true, rfl, fun _ r => r, .lst ha, rfl, _, rfl, Zeq ?_⟩⟩
     have hst : ∃ r, κ.pt ks = .w κ.s :: r := by
      rcases ZnC κ with ⟨n, rfl⟩ | ⟨w, rfl⟩ | hf
      ·exact ⟨_, rfl⟩
      ·exact ⟨_, rfl⟩
      ·exact (ZgB hf okt.2.1).2.2
     obtain ⟨r, er⟩ := hst
     obtain ⟨xr, exs⟩ : ∃ xr, xs = .str κ.s :: xr := by
      rw [er, Zea, Pt.td] at hs
      cases hs with
      | cons h t => cases h; exact ⟨_, rfl⟩
     have h0 : xs[0]? = some (.str κ.s) := by rw [exs]; rfl
     have tst : ∀ (m : Str) (R : Bool -> Hp -> Prop), R (decide (κ.s = m)) H -> R (false ^^ decide (κ.s = m)) H := fun m R h => by rw [ZcA]; exact h
     dsimp only [ZhP]
     refine ifc (decide (κ.s = "num") || decide (κ.s = "name")) (fun R h => or2 _ _ (fun R h => ⟨_, ha, Zdn (Zdi (j := 0) h0) (tst _ _ h)⟩) (fun R h => ⟨_, ha, Zdn (Zdi (j := 0) h0) (tst _ _ h)⟩) h) ?_
     rcases ZnC κ with ⟨m, rfl⟩ | ⟨m, rfl⟩ | hf
     ·refine ZeI ?_
      cases hs with
      | cons h1 hs =>
       cases hs with
       | cons h2 hs =>
        rw [Pt.td] at h2
        cases h2
        refine ⟨_, ha, Zdn (Zdi (j := 1) rfl) (.inl ⟨_, rfl, ZmH okt.1.1 okt.1.2, ?_⟩)⟩
        have h := q H (Same.refl _)
        rw [TM.Internal.Tr.st] at h
        exact h
     ·refine ZeI ?_
      cases hs with
      | cons h1 hs =>
       cases hs with
       | cons h2 hs =>
        rw [Pt.td] at h2
        cases h2
        refine ⟨_, ha, Zdn (Zdi (j := 1) rfl) (.inr ⟨_, rfl, ?_⟩)⟩
        have h := q H (Same.refl _)
        rw [TM.Internal.Tr.st] at h
        exact h
     ·obtain ⟨k1, k2⟩ := Zr0 hf okt.1
      rw [decide_eq_false k1, decide_eq_false k2]
      refine Zeq ?_
      obtain ⟨⟨a0, x, ep, na, nl⟩, _, _⟩ := ZgB hf okt.2.1
      have etx := Zo3 hf okt.2.1
      rw [etx] at q lx
      have pl : ("(" : Str).length = 1 /\ (")" : Str).length = 1 := by decide +kernel
      rw [Str.length_append, Str.length_append, pl.1, pl.2] at lx
      have hs' := hs
      rw [ep, ZkR, Zea, Zea] at hs'
      obtain ⟨za, v, exz⟩ : ∃ za v, xs = za ++ [v] := ⟨_, _, (Zbc (fun z => by rw [z] at h0; cases h0)).symm⟩
      rw [exz] at hs'
      obtain ⟨d1, d2, ed, hs1, hs2⟩ := ZfW hs'
      have ld2 := Zds hs2
      have hlen : d1.length = (Zea a0).length := by
       have := congrArg List.length ed
       rw [ZaA, ZaA] at this
       simp only [ZaL] at this ld2
       omega
      obtain ⟨e1, e2⟩ := Zbp ed hlen.symm
      subst e1 e2
      have dv0 : Dta H v x.td := by
       cases hs2 with
       | cons h _ => exact h
      obtain ⟨b, hE, hb⟩ := Zqo dv0
      have hla : atI xs (-1) = some v := by rw [exz]; exact Zis _ _
      dsimp only [ZhP]
      refine ⟨_, rfl, _, ha, Zdn hla ⟨(by show 0 <= sizeLine; decide), fun p hp => ?_⟩⟩
      have s1 := ZcV hp (.tup [])
      refine Zkz ZcS (hE.same s1) ⟨_, rfl, ?_⟩
      generalize upd H p (.tup []) = H2 at s1 ⊢
      have step : ∀ (l : List Pt) (H1 : Hp), (∀ y ∈ l, y ∈ κ.pt ks) -> ZeU l -> (jn (Zen l)).length <= 100000 -> ∀ (x : Pt) (v : V) (H : Hp) (Z : VK), x ∈ l -> Same H1 H -> Dta H v x.td -> (∀ H', Same H H' -> Z (.str (jn x.tx)) H') -> ZgC n [v] H Z E := fun l H1 hl nl ll x v H Z hx2 S dv2 hZ => by
       have := ZiN (hl x hx2)
       exact ⟨v, x, rfl, dv2, Zgx p24 (hl x hx2), by omega, ZgA nl hx2, txl (Zog hx2) (by rw [Zgd nl]; exact ll), hZ⟩
      cases b with
      | true =>
       refine ZeI ?_
       have hx0 := hb.mp rfl
       have ea : Zen (κ.pt ks) = Zen a0 := by rw [ep, ZiO, hx0, Zen, Zen, Pt.tx, Zen, Zar, Zar]
       rw [ea] at q lx
       have la := Zds hs1
       rw [Zd9, Zaq] at la
       have lp : (κ.pt ks).length = a0.length + 1 := by rw [ep, ZaA]; rfl
       refine ⟨rfl, _, rfl, _, rfl, a, _, rfl, SqL.of (s1 _ _ ha), fun c hc => ?_⟩
       have ecut : Zi0 xs none (some (-1)) = za := by rw [exz]; exact ZnB za v
       have s2 := ZcV hc (.lst (Zi0 xs none (some (-1))))
       have e2 : (upd H2 c (.lst (Zi0 xs none (some (-1))))) c = some (.lst za) := by rw [ZcS, ecut]
       refine ⟨c, rfl, ⟨_, SqL.of e2⟩, fun D hD => ?_⟩
       refine ZmG (hs1.same (s1.trans s2)) (by omega) hD rfl (fun k H S h => Zh9 e2 S h) (fun k H v H' S h y => ⟨y.1, y.2 _ (SqL.of (S _ _ e2))⟩) (fun H S => Zia e2 S) (step a0 _ (fun y hy => by rw [ep]; exact Zah _ hy) na (by omega)) ?_
       intro H3 S3 eD
       refine ⟨" ", D, pjs a0, rfl, rfl, SqL.of eD, jok _ (by rw [Zgd na]; omega), ?_⟩
       rw [show Str.join " " (pjs a0) = jn (Zen a0) from Zgd na]
       exact ⟨by rw [pl.1]; omega, by rw [Str.length_append, pl.1, pl.2]; omega, q H3 (s1.trans (s2.trans S3))⟩
      | false =>
       refine Zeq ?_
       have hxn : x.ne := by
        rcases nl with h | h
        ·exact h
        ·exact absurd (hb.mpr h) Zcw
       have nall : ZeU (κ.pt ks) := by rw [ep]; exact ZiP na (pn1 hxn)
       refine ⟨rfl, a, rfl, ⟨_, SqL.of (s1 _ _ ha)⟩, fun D hD => ?_⟩
       refine ZmG (hs.same s1) (by omega) hD rfl (fun k H S h => Zh9 (s1 _ _ ha) S h) (fun k H v H' S h y => ⟨y.1, y.2 _ (SqL.of (S _ _ (s1 _ _ ha)))⟩) (fun H S => Zia (s1 _ _ ha) S) (step (κ.pt ks) _ (fun y hy => hy) nall (by omega)) ?_
       intro H3 S3 eD
       refine ⟨" ", D, pjs (κ.pt ks), rfl, rfl, SqL.of eD, jok _ (by rw [Zgd nall]; omega), ?_⟩
       rw [show Str.join " " (pjs (κ.pt ks)) = jn (Zen (κ.pt ks)) from Zgd nall]
       exact ⟨by rw [pl.1]; omega, by rw [Str.length_append, pl.1, pl.2]; omega, q H3 (s1.trans S3)⟩
end
end K04.Internal
namespace K04.Internal
open PySem L2.Internal BO.Internal
seal L2.Internal.PE L2.Internal.PA L2.Internal.PS L2.Internal.PSs L2.Internal.PT L2.Internal.PI
mutual
noncomputable def _root_.TM.Internal.Tr.txs : TM.Internal.Tr -> List Str
 | .mk κ ks => (TM.Internal.Tr.mk κ ks).st :: ZjA ks
noncomputable def ZjA : List TM.Internal.Tr -> List Str
 | [] => []
 | t :: ts => t.txs ++ ZjA ts
end
mutual
theorem Zge : ∀ t : TM.Internal.Tr, t.txs.length = t.sz
 | .mk κ ks => by rw [TM.Internal.Tr.txs, Zan, Zhd ks, TM.Internal.Tr.sz]; omega
theorem Zhd : ∀ ts : List TM.Internal.Tr, (ZjA ts).length = TM.Internal.szs ts
 | [] => by rw [ZjA, TM.Internal.szs]; rfl
 | t :: ts => by rw [ZjA, TM.Internal.szs, ZaA, Zge t, Zhd ts]
end
theorem ZnD : ∀ t : TM.Internal.Tr, ∃ r, t.txs = t.st :: r
 | .mk κ ks => ⟨ZjA ks, by rw [TM.Internal.Tr.txs]⟩
noncomputable def Nd (X : List Str) (p : Nat) (d : Dt) (x : Str) (q : Nat) : Prop := ∃ κ ks, d = .tup (TM.Internal.Kn.rw κ (TM.Internal.offs ks (q + 1))) /\ x = (TM.Internal.Tr.mk κ ks).st /\ (TM.Internal.Tr.mk κ ks).ok /\ (TM.Internal.Tr.mk κ ks).sz <= 160 /\ ∀ (j k : Nat), (TM.Internal.offs ks (q + 1))[j]? = some k -> q < k /\ p <= k /\ ∃ t, ks[j]? = some t /\ X[k - p]? = some t.st
theorem ZiR : ∀ (ks : List TM.Internal.Tr) (q j k : Nat), (TM.Internal.offs ks q)[j]? = some k -> q <= k /\ ∃ t, ks[j]? = some t /\ (ZjA ks)[k - q]? = some t.st
 | [], q, j, k, h => by rw [TM.Internal.offs] at h; simp at h
 | t :: ts, q, 0, k, h => by
  rw [TM.Internal.offs] at h
  cases h
  obtain ⟨r, e⟩ := ZnD t
  refine ⟨Zbz _, t, rfl, ?_⟩
  rw [ZbJ, ZjA, e]
  rfl
 | t :: ts, q, j + 1, k, h => by
  rw [TM.Internal.offs, Za0] at h
  obtain ⟨h1, t', h2, h3⟩ := ZiR ts (q + t.sz) j k h
  refine ⟨by omega, t', by rw [Za0]; exact h2, ?_⟩
  rw [ZjA, Zaw (by rw [Zge]; omega), Zge]
  rw [show k - q - t.sz = k - (q + t.sz) by omega]
  exact h3
theorem Nd.app {X Y : List Str} {p q : Nat} {d : Dt} {x : Str} (h : Nd X p d x q) : Nd (X ++ Y) p d x q := by
 obtain ⟨κ, ks, h1, h2, h3, h4, h5⟩ := h
 refine ⟨κ, ks, h1, h2, h3, h4, fun j k e => ?_⟩
 obtain ⟨a, b, t, c, e'⟩ := h5 j k e
 exact ⟨a, b, t, c, by rw [Zax (Zai.mp e').1]; exact e'⟩
theorem Nd.pre {X Y : List Str} {p p' q : Nat} {d : Dt} {x : Str} (h : Nd X p' d x q) (hp : p' = p + Y.length) : Nd (Y ++ X) p d x q := by
 obtain ⟨κ, ks, h1, h2, h3, h4, h5⟩ := h
 refine ⟨κ, ks, h1, h2, h3, h4, fun j k e => ?_⟩
 obtain ⟨a, b, t, c, e'⟩ := h5 j k e
 exact ⟨a, by omega, t, c, by rw [Zaw (by omega), show k - p - Y.length = k - p' by omega]; exact e'⟩
mutual
theorem nd_t : ∀ (t : TM.Internal.Tr) (p i : Nat) (d : Dt), t.ok -> t.sz <= 160 -> (t.rw p)[i]? = some d -> ∃ x, t.txs[i]? = some x /\ Nd t.txs p d x (p + i)
 | .mk κ ks, p, 0, d, ho, hz, h => by
  rw [TM.Internal.Tr.rw] at h
  cases h
  rw [TM.Internal.Tr.txs]
  refine ⟨_, rfl, κ, ks, rfl, rfl, ho, hz, fun j k e => ?_⟩
  obtain ⟨a, t, b, c⟩ := ZiR ks (p + 0 + 1) j k e
  refine ⟨by omega, by omega, t, b, ?_⟩
  rw [show k - p = (k - (p + 0 + 1)) + 1 by omega, Za0]
  exact c
 | .mk κ ks, p, i + 1, d, ho, hz, h => by
  rw [TM.Internal.Tr.rw, Za0] at h
  rw [TM.Internal.Tr.ok] at ho
  rw [TM.Internal.Tr.sz] at hz
  obtain ⟨x, h1, h2⟩ := Zo4 ks (p + 1) i d ho.2.2 (by omega) h
  rw [TM.Internal.Tr.txs]
  refine ⟨x, by rw [Za0]; exact h1, ?_⟩
  rw [show p + (i + 1) = p + 1 + i by omega]
  exact Nd.pre (Y := [(TM.Internal.Tr.mk κ ks).st]) h2 rfl
theorem Zo4 : ∀ (ts : List TM.Internal.Tr) (p i : Nat) (d : Dt), TM.Internal.oks ts -> TM.Internal.szs ts <= 160 -> (TM.Internal.rws ts p)[i]? = some d -> ∃ x, (ZjA ts)[i]? = some x /\ Nd (ZjA ts) p d x (p + i)
 | [], p, i, d, _, _, h => by rw [TM.Internal.rws] at h; simp at h
 | t :: ts, p, i, d, ho, hz, h => by
  rw [TM.Internal.oks] at ho
  rw [TM.Internal.szs] at hz
  rw [TM.Internal.rws] at h
  rw [ZjA]
  by_cases hi : i < t.sz
  ·rw [Zax (by rw [TM.Internal.Tr.rw_len]; exact hi)] at h
   obtain ⟨x, h1, h2⟩ := nd_t t p i d ho.1 (by omega) h
   exact ⟨x, by rw [Zax (by rw [Zge]; exact hi)]; exact h1, h2.app⟩
  ·rw [Zaw (by rw [TM.Internal.Tr.rw_len]; omega), TM.Internal.Tr.rw_len] at h
   obtain ⟨x, h1, h2⟩ := Zo4 ts (p + t.sz) (i - t.sz) d ho.2 (by omega) h
   refine ⟨x, by rw [Zaw (by rw [Zge]; omega), Zge]; exact h1, ?_⟩
   rw [show p + i = p + t.sz + (i - t.sz) by omega]
   exact h2.pre (by rw [Zge])
end
theorem ZjB : ∀ {l : List Nat}, (∀ k ∈ l, k ≠ 32 /\ k ≠ 10 /\ k ≠ 40 /\ k ≠ 41) -> wts l = l.length
 | [], _ => rfl
 | c :: l, h => by
  have hc := h c Zad
  rw [wts, ZjB fun k hk => h k (Zae _ hk), Zan]
  have : cw c = 1 := by unfold cw; rw [if_neg hc.2.2.1, if_neg hc.2.2.2, if_neg hc.1]
  omega
noncomputable def ZkY (w : Str) : Prop := w.cps.toList ≠ [] /\ ∀ k ∈ w.cps.toList, k ≠ 32 /\ k ≠ 10 /\ k ≠ 40 /\ k ≠ 41
theorem ZnE {w : Str} (h : ZkY w) : wt w = w.length := by unfold wt; rw [ZjB h.2, Zgc]
theorem smfg : ∀ c ∈ (GR.Internal.SM ++ GR.Internal.FG).cps.toList, c ≠ 32 /\ c ≠ 10 /\ c ≠ 40 /\ c ≠ 41 := by decide +kernel
theorem ZnF {w : Str} (h : GR.Internal.isName w = true) : ZkY w /\ w.length <= 12 := by
 unfold GR.Internal.isName at h
 simp only [Zcy, decide_eq_true_eq] at h
 refine ⟨⟨fun z => ?_, fun k hk => smfg k (GR.Internal.allIn_mem h.2 k hk)⟩, h.1.1.1.2⟩
 have := Zgc w
 rw [z] at this
 have := h.1.1.1.1
 simp at *
 omega
theorem fgp : ∀ c ∈ GR.Internal.FG.cps.toList, c ≠ 32 /\ c ≠ 10 /\ c ≠ 40 /\ c ≠ 41 := by decide +kernel
theorem ZnG {n : Int} (h0 : 0 <= n) (h1 : n < 10 ^ 60) : ZkY (TM.Internal.numS n) /\ (TM.Internal.numS n).length <= 60 := by
 obtain ⟨f1, f2, f3⟩ := GR.Internal.str_fig (k := 59) h0 h1
 refine ⟨⟨fun z => ?_, fun k hk => fgp k (f1 k hk)⟩, f3⟩
 obtain ⟨c, r, e⟩ := GR.Internal.first_of (x := TM.Internal.numS n) f2
 rw [z] at e
 cases e
end K04.Internal
namespace K04.Internal
open PySem L2.Internal BO.Internal
seal L2.Internal.PE L2.Internal.PA L2.Internal.PS L2.Internal.PSs L2.Internal.PT L2.Internal.PI
open GR.Internal
noncomputable def okW (w : Str) : Prop := w ≠ "" /\ w.length <= 60 /\ ∀ c ∈ w.cps.toList, c < 128
structure Gi (x : Str) (ts : List Str) (a b : Nat) : Prop where
 op : Op x ts
 wt : wt x + 4 <= a
 ln : ts.length <= b
 ok : ∀ w ∈ ts, okW w
inductive Gl : List Str -> List Str -> Nat -> Nat -> Prop
 | nil : Gl [] [] 0 0
 | cons {x : Str} {ts xs us : List Str} {a b c d : Nat} (h : Gi x ts a b) (t : Gl xs us c d) : Gl (x :: xs) (ts ++ us) (a + c) (b + d)
theorem Gl.app {xs ts ys us : List Str} {a b c d : Nat} (h : Gl xs ts a b) (k : Gl ys us c d) : Gl (xs ++ ys) (ts ++ us) (a + c) (b + d) := by
 induction h with
 | nil => rw [ZaM, ZaM, ZbI, ZbI]; exact k
 | cons h t ih => rw [Zbg, ZaK, ZbK, ZbK]; exact .cons h ih
theorem ZmI : wt " " = 4 /\ wt "(" = 5 /\ wt ")" = 4 := by decide +kernel
theorem Gl.jn {xs ts : List Str} {a b : Nat} (h : Gl xs ts a b) (hn : xs ≠ []) : Gi (jn xs) ts a b := by
 induction h with
 | nil => exact absurd rfl hn
 | @cons x ts xs us a b c d h t ih =>
  cases xs with
  | nil =>
   cases t
   rw [Zar, Zgz]
   exact h
  | cons y ys =>
   have k := ih (by simp)
   refine ⟨?_, ?_, ?_, fun w hw => ?_⟩
   ·rw [ZfO (by simp)]
    exact h.op.gap.app_op k.op
   ·rw [ZfO (by simp), Zf3, Zf3, ZmI.1]
    have := h.wt
    have := k.wt
    omega
   ·rw [ZaA]
    have := h.ln
    have := k.ln
    omega
   ·rcases Zag.mp hw with hw | hw
    ·exact h.ok w hw
    ·exact k.ok w hw
theorem Zj9 {x : Str} {n : Nat} (hp : ZkY x) (hl : x.length <= n) (hn : n <= 60) (ha : ∀ c ∈ x.cps.toList, c < 128) : Gi x [x] (n + 4) 1 := by
 refine ⟨Op.word hp.1 hp.2, by rw [ZnE hp]; omega, Zbz _, fun w hw => ?_⟩
 rw [ZaU.mp hw]
 refine ⟨fun z => hp.1 (by rw [z]; rfl), by omega, ha⟩
theorem Zru : ∀ c ∈ (SM ++ FG).cps.toList, c < 128 := by decide +kernel
theorem Zrv : ∀ c ∈ FG.cps.toList, c < 128 := by decide +kernel
theorem ZfB {w : Str} (h : isName w = true) : Gi w [w] 16 1 := by
 obtain ⟨h1, h2⟩ := ZnF h
 refine Zj9 h1 h2 (by decide) fun c hc => Zru c ?_
 unfold isName at h
 simp only [Zcy] at h
 exact allIn_mem h.2 c hc
theorem Zqp {n : Int} (h0 : 0 <= n) (h1 : n < 10 ^ 60) : Gi (TM.Internal.numS n) [TM.Internal.numS n] 64 1 := by
 obtain ⟨a, b⟩ := ZnG h0 h1
 obtain ⟨f1, _, _⟩ := str_fig (k := 59) h0 h1
 exact Zj9 a b (by decide) fun c hc => Zrv c (f1 c hc)
structure Kg (t : TM.Internal.Tr) : Prop where
 op : Op t.st t.tk
 wt : wt t.st + 36 <= 100 * t.sz
 ln : t.tk.length + 2 <= 8 * t.sz
 ok : ∀ w ∈ t.tk, okW w
theorem Kg.gi {t : TM.Internal.Tr} (h : Kg t) : Gi t.st t.tk (100 * t.sz - 32) (8 * t.sz - 2) := ⟨h.op, by have := h.wt; omega, by have := h.ln; omega, h.ok⟩
theorem ZmJ : ∀ {ks : List TM.Internal.Tr}, (∀ k ∈ ks, Kg k) -> ∃ a b, Gl (sts ks) (TM.Internal.tks ks).flatten a b /\ a <= 100 * TM.Internal.szs ks /\ b <= 8 * TM.Internal.szs ks
 | [], _ => ⟨0, 0, by rw [sts, TM.Internal.tks]; exact .nil, ZbA _, ZbA _⟩
 | k :: ks, h => by
  obtain ⟨a, b, g, ha, hb⟩ := ZmJ fun x hx => h x (Zae _ hx)
  refine ⟨_, _, by rw [sts, TM.Internal.tks, ZaJ]; exact .cons (h k Zad).gi g, ?_, ?_⟩
  ·rw [TM.Internal.szs]; omega
  ·rw [TM.Internal.szs]; omega
theorem Zr1 : ∀ {l : List Str} {ks : List TM.Internal.Tr}, (∀ w ∈ l, isName w = true) -> (∀ k ∈ ks, Kg k) -> ∃ a b, Gl (TM.Internal.wv1 l ((sts ks).map fun s => [s])) (TM.Internal.wv1 l (TM.Internal.tks ks)) a b /\ a <= 100 * TM.Internal.szs ks /\ b <= 8 * TM.Internal.szs ks
 | w :: l, k :: ks, hw, h => by
  obtain ⟨a, b, g, ha, hb⟩ := Zr1 (fun x hx => hw x (Zae _ hx)) fun x hx => h x (Zae _ hx)
  have hk := h k Zad
  have := hk.wt
  have := hk.ln
  refine ⟨16 + ((100 * k.sz - 32) + a), 1 + ((8 * k.sz - 2) + b), ?_, ?_, ?_⟩
  ·rw [sts, TM.Internal.tks, Zap, TM.Internal.wv1, TM.Internal.wv1]
   exact .cons (ZfB (hw w Zad)) (.cons hk.gi g)
  ·rw [TM.Internal.szs]; omega
  ·rw [TM.Internal.szs]; omega
 | [], [], _, _ => ⟨0, 0, by rw [sts, TM.Internal.tks]; exact .nil, ZbA _, ZbA _⟩
 | [], _ :: _, _, _ => ⟨0, 0, by rw [sts, TM.Internal.tks]; exact .nil, ZbA _, ZbA _⟩
 | _ :: _, [], _, _ => ⟨0, 0, by rw [sts, TM.Internal.tks]; exact .nil, ZbA _, ZbA _⟩
theorem Zr2 : ∀ {l : List (Str × Str)} {ks : List TM.Internal.Tr}, (∀ p ∈ l, isName p.1 = true /\ isName p.2 = true) -> (∀ k ∈ ks, Kg k) -> ∃ a b, Gl (TM.Internal.wv2 l ((sts ks).map fun s => [s])) (TM.Internal.wv2 l (TM.Internal.tks ks)) a b /\ a <= 100 * TM.Internal.szs ks /\ b <= 8 * TM.Internal.szs ks
 | w :: l, k :: ks, hw, h => by
  obtain ⟨a, b, g, ha, hb⟩ := Zr2 (fun x hx => hw x (Zae _ hx)) fun x hx => h x (Zae _ hx)
  have hk := h k Zad
  have := hk.wt
  have := hk.ln
  refine ⟨16 + (16 + ((100 * k.sz - 32) + a)), 1 + (1 + ((8 * k.sz - 2) + b)), ?_, ?_, ?_⟩
  ·rw [sts, TM.Internal.tks, Zap, TM.Internal.wv2, TM.Internal.wv2]
   exact .cons (ZfB (hw w Zad).1) (.cons (ZfB (hw w Zad).2) (.cons hk.gi g))
  ·rw [TM.Internal.szs]; omega
  ·rw [TM.Internal.szs]; omega
 | [], [], _, _ => ⟨0, 0, by rw [sts, TM.Internal.tks]; exact .nil, ZbA _, ZbA _⟩
 | [], _ :: _, _, _ => ⟨0, 0, by rw [sts, TM.Internal.tks]; exact .nil, ZbA _, ZbA _⟩
 | _ :: _, [], _, _ => ⟨0, 0, by rw [sts, TM.Internal.tks]; exact .nil, ZbA _, ZbA _⟩
theorem Zrw : ∀ s ∈ (["fn", "tag", "let", "get", "rec", "case", "row", "call", "at", "join", "size", "add", "sub", "less"] : List Str), (s.cps.toList ≠ [] /\ ∀ k ∈ s.cps.toList, k ≠ 32 /\ k ≠ 10 /\ k ≠ 40 /\ k ≠ 41) /\ s.length <= 4 /\ ∀ c ∈ s.cps.toList, c < 128 := by decide +kernel
theorem Zrx : ∀ p ∈ TM.Internal.ops, p.1 ∈ (["fn", "tag", "let", "get", "rec", "case", "row", "call", "at", "join", "size", "add", "sub", "less"] : List Str) := by decide +kernel
theorem Zo5 {κ : TM.Internal.Kn} (hf : κ.fm) (ho : κ.ok) : Gi κ.s [κ.s] 8 1 := by
 have key : κ.s ∈ (["fn", "tag", "let", "get", "rec", "case", "row", "call", "at", "join", "size", "add", "sub", "less"] : List Str) := by
  cases κ with
  | num n => exact hf.elim
  | name w => exact hf.elim
  | op s m => exact Zrx (s, m) ho
  | fn w => exact (show ("fn" : Str) ∈ _ from by decide +kernel)
  | tag w => exact (show ("tag" : Str) ∈ _ from by decide +kernel)
  | lt w => exact (show ("let" : Str) ∈ _ from by decide +kernel)
  | get w => exact (show ("get" : Str) ∈ _ from by decide +kernel)
  | rcd l => exact (show ("rec" : Str) ∈ _ from by decide +kernel)
  | case l => exact (show ("case" : Str) ∈ _ from by decide +kernel)
  | row m => exact (show ("row" : Str) ∈ _ from by decide +kernel)
 obtain ⟨h1, h2, h3⟩ := Zrw κ.s key
 exact Zj9 h1 h2 (by decide) h3
theorem Zry {κ : TM.Internal.Kn} {ks : List TM.Internal.Tr} (hf : κ.fm) (ho : κ.ok) (h2 : ks.length = κ.ar) (h : ∀ k ∈ ks, Kg k) : ∃ a b, Gl (κ.ws ((sts ks).map fun s => [s])) (κ.ws (TM.Internal.tks ks)) a b /\ a <= 16 + 100 * TM.Internal.szs ks /\ b <= 1 + 8 * TM.Internal.szs ks := by
 obtain ⟨a, b, g, ha, hb⟩ := ZmJ h
 cases κ with
 | num n => exact hf.elim
 | name w => exact hf.elim
 | fn w => exact ⟨16 + a, 1 + b, by show Gl (w :: ((sts ks).map fun s => [s]).flatten) (w :: (TM.Internal.tks ks).flatten) _ _; rw [ZfP]; exact .cons (ZfB ho) g, by omega, by omega⟩
 | tag w => exact ⟨16 + a, 1 + b, by show Gl (w :: ((sts ks).map fun s => [s]).flatten) (w :: (TM.Internal.tks ks).flatten) _ _; rw [ZfP]; exact .cons (ZfB ho) g, by omega, by omega⟩
 | lt w => exact ⟨16 + a, 1 + b, by show Gl (w :: ((sts ks).map fun s => [s]).flatten) (w :: (TM.Internal.tks ks).flatten) _ _; rw [ZfP]; exact .cons (ZfB ho) g, by omega, by omega⟩
 | get w => exact ⟨a + (16 + 0), b + (1 + 0), by show Gl (((sts ks).map fun s => [s]).flatten ++ [w]) ((TM.Internal.tks ks).flatten ++ [w]) _ _; rw [ZfP]; exact g.app (.cons (ZfB ho) .nil), by omega, by omega⟩
 | rcd l =>
  obtain ⟨a, b, g, ha, hb⟩ := Zr1 ho.2 h
  exact ⟨a, b, g, by omega, by omega⟩
 | case l =>
  cases ks with
  | nil => exact absurd h2 (by simp [TM.Internal.Kn.ar])
  | cons k ks =>
   obtain ⟨a, b, g, ha, hb⟩ := Zr2 ho.2.2 fun x hx => h x (Zae _ hx)
   have hk := h k Zad
   have := hk.wt
   have := hk.ln
   refine ⟨(100 * k.sz - 32) + a, (8 * k.sz - 2) + b, ?_, ?_, ?_⟩
   ·rw [sts, TM.Internal.tks]
    exact .cons hk.gi g
   ·rw [TM.Internal.szs]; omega
   ·rw [TM.Internal.szs]; omega
 | row m => exact ⟨a, b, by show Gl ((sts ks).map fun s => [s]).flatten (TM.Internal.tks ks).flatten _ _; rw [ZfP]; exact g, by omega, by omega⟩
 | op s m => exact ⟨a, b, by show Gl ((sts ks).map fun s => [s]).flatten (TM.Internal.tks ks).flatten _ _; rw [ZfP]; exact g, by omega, by omega⟩
theorem Zo6 : Gp "(" ["("] := by unfold Gp; decide +kernel
theorem ZnH : okW "(" /\ okW ")" := by unfold okW; decide +kernel
theorem Zo7 {x : Str} {ts : List Str} {a b : Nat} (h : Gi x ts a b) : Gp ("(" ++ x ++ ")") (("(" : Str) :: (ts ++ [(")" : Str)])) /\ wt ("(" ++ x ++ ")") <= a + 5 /\ (("(" : Str) :: (ts ++ [(")" : Str)])).length <= b + 2 /\ ∀ w ∈ ("(" : Str) :: (ts ++ [(")" : Str)]), okW w := by
 refine ⟨(Zo6.app_op h.op).close, ?_, ?_, fun w hw => ?_⟩
 ·rw [Zf3, Zf3, ZmI.2.1, ZmI.2.2]
  have := h.wt
  omega
 ·rw [Zan, ZaA, ZaL]
  have := h.ln
  omega
 ·rcases Zaf.mp hw with e | hw
  ·rw [e]; exact ZnH.1
  ·rcases Zag.mp hw with hw | hw
   ·exact h.ok w hw
   ·rw [ZaU.mp hw]; exact ZnH.2
mutual
theorem ZqQ : ∀ t : TM.Internal.Tr, t.ok -> Kg t
 | .mk κ ks, ho => by
  rw [TM.Internal.Tr.ok] at ho
  have ih := Zqq ks ho.2.2
  rcases ZnC κ with ⟨n, rfl⟩ | ⟨w, rfl⟩ | hf
  ·have g := Zqp ho.1.1 ho.1.2
   have e : ks = [] := Zbk ho.2.1
   subst e
   have := g.wt
   refine ⟨?_, ?_, ?_, ?_⟩
   ·rw [TM.Internal.Tr.st, TM.Internal.Tr.tk]; exact g.op
   ·rw [TM.Internal.Tr.st, TM.Internal.Tr.sz, TM.Internal.szs]; show wt (TM.Internal.numS n) + 36 <= _; omega
   ·rw [TM.Internal.Tr.tk, TM.Internal.Tr.sz, TM.Internal.szs]; show 1 + 2 <= _; omega
   ·rw [TM.Internal.Tr.tk]; exact g.ok
  ·have g := ZfB ho.1
   have e : ks = [] := Zbk ho.2.1
   subst e
   have := g.wt
   refine ⟨?_, ?_, ?_, ?_⟩
   ·rw [TM.Internal.Tr.st, TM.Internal.Tr.tk]; exact g.op
   ·rw [TM.Internal.Tr.st, TM.Internal.Tr.sz, TM.Internal.szs]; show wt w + 36 <= _; omega
   ·rw [TM.Internal.Tr.tk, TM.Internal.Tr.sz, TM.Internal.szs]; show 1 + 2 <= _; omega
   ·rw [TM.Internal.Tr.tk]; exact g.ok
  ·obtain ⟨a, b, g, ha, hb⟩ := Zry hf ho.1 ho.2.1 ih
   have g2 := (Gl.cons (Zo5 hf ho.1) g).jn (by simp)
   obtain ⟨w1, w2, w3, w4⟩ := Zo7 g2
   have est : (TM.Internal.Tr.mk κ ks).st = "(" ++ jn (κ.s :: κ.ws ((sts ks).map fun s => [s])) ++ ")" := by rw [Zo3 hf ho.2.1, (ZgB hf ho.2.1).2.1]
   have etk : (TM.Internal.Tr.mk κ ks).tk = ("(" : Str) :: ([κ.s] ++ κ.ws (TM.Internal.tks ks) ++ [(")" : Str)]) := by
    rw [TM.Internal.Tr.tk]
    cases κ with
    | num n => exact hf.elim
    | name w => exact hf.elim
    | _ => rfl
   refine ⟨?_, ?_, ?_, ?_⟩
   ·rw [est, etk]; exact w1.op
   ·rw [est, TM.Internal.Tr.sz]; omega
   ·rw [etk, TM.Internal.Tr.sz]; omega
   ·rw [etk]; exact w4
theorem Zqq : ∀ ts : List TM.Internal.Tr, TM.Internal.oks ts -> ∀ t ∈ ts, Kg t
 | [], _, t, h => by cases h
 | x :: ts, ho, t, h => by
  rw [TM.Internal.oks] at ho
  rcases Zaf.mp h with e | e
  ·rw [e]; exact ZqQ x ho.1
  ·exact Zqq ts ho.2 t e
end
end K04.Internal
namespace K04.Internal
open PySem L2.Internal BO.Internal
seal L2.Internal.PE L2.Internal.PA L2.Internal.PS L2.Internal.PSs L2.Internal.PT L2.Internal.PI
mutual
noncomputable def flV : Dt -> List V
 | .flat v => [v]
 | .tup ds => ZeA ds
 | .lst _ => []
noncomputable def ZeA : List Dt -> List V
 | [] => []
 | d :: ds => flV d ++ ZeA ds
end
mutual
noncomputable def okF : Dt -> Bool
 | .flat v => (match v with | .int _ => true | .str _ => true | _ => false)
 | .tup ds => Zgf ds
 | .lst _ => false
noncomputable def Zgf : List Dt -> Bool
 | [] => true
 | d :: ds => okF d && Zgf ds
end
theorem ZjC : ∀ (l : List Dt) (d : Dt), ZeA (l ++ [d]) = ZeA l ++ flV d
 | [], d => by simp [ZeA]
 | a :: l, d => by rw [Zbg, ZeA, ZeA, ZjC l d, ZaK]
theorem ZkZ : ∀ {l : List Dt} {i : Nat} {d : Dt}, Zgf l = true -> l[i]? = some d -> okF d = true
 | a :: l, 0, d, h, e => by cases e; rw [Zgf, Zcy] at h; exact h.1
 | a :: l, i + 1, d, h, e => by rw [Zgf, Zcy] at h; rw [Za0] at e; exact ZkZ h.2 e
theorem ZfQ : ∀ (l : List Dt) (i : Nat), (ZeA (l.take i)).length <= (ZeA l).length
 | [], i => by simp [ZeA]
 | a :: l, 0 => by simp [ZeA]
 | a :: l, i + 1 => by
  rw [List.take_succ_cons, ZeA, ZeA, ZaA, ZaA]
  have := ZfQ l i
  omega
theorem Zig : ∀ {l : List Dt} {i : Nat} {d : Dt}, l[i]? = some d -> (flV d).length <= (ZeA l).length
 | a :: l, 0, d, e => by cases e; rw [ZeA, ZaA]; omega
 | a :: l, i + 1, d, e => by
  rw [Za0] at e
  have := Zig e
  rw [ZeA, ZaA]
  omega
theorem ZgD {H : Hp} : ∀ {xs : List V} {ds : List Dt} {j : Nat} {x : V}, Ims H xs ds -> xs[j]? = some x -> ∃ d, ds[j]? = some d /\ Im H x d
 | _, _, 0, _, .cons h _, e => ⟨_, rfl, by cases e; exact h⟩
 | _, _, j + 1, _, .cons _ t, e => by
  rw [Za0] at e
  obtain ⟨d, e1, e2⟩ := ZgD t e
  exact ⟨d, by rw [Za0]; exact e1, e2⟩
section
variable {P : Program} {w : World} {K : PySem.W.Frag} {mg : Str -> Option Value} {base : Heap}
noncomputable def Zo8 (n : Nat) : Sp := fun vs H Q _ => ∃ (t : Addr) (xs : List V) (ds : List Dt), vs = [.ref t] /\ H t = some (.tup xs) /\ Ims H xs ds /\ Zgf ds = true /\ Zdd ds < n /\ (ZeA ds).length <= 100000 /\ ∀ l H', Same H H' -> H l = none -> H' l = some (.lst (ZeA ds)) -> Q (.ref l) H'
theorem Zo9 (T : Txt K mg) : ∀ n : Nat, ZdK P w K mg base CX0 (n + 1) T.a_flat T.fd_flat ["parts"] (Zo8 n) := by
 intro n
 induction n with
 | zero =>
  refine T.F_flat.ok ZiH (fun vs H Q E h => ?_) (fun cdv A outer s H vs Q E hr h => ?_)
  ·obtain ⟨t, xs, ds, rfl, _⟩ := h
   rfl
  obtain ⟨t, xs, ds, rfl, et, hx, hok, hd, hl, q⟩ := h
  exact absurd hd (ZbE _)
 | succ n ih =>
  have G_flat := ih
  refine T.F_flat.ok ZiH (fun vs H Q E h => ?_) (fun cdv A outer s H vs Q E hr h => ?_)
  ·obtain ⟨t, xs, ds, rfl, _⟩ := h
   rfl
  obtain ⟨t, xs, ds, rfl, et, hx, hok, hd, hl, q⟩ := h
  refine ⟨_, (ZcU (Zc9 (i := 1) ZiH.nd rfl (Or.inl rfl) (Zdl ZcT))
  (ZcU (ZfZ PassesOwn.never rfl (Zkv (cv 0)) (ZeW (i := 2) ZiH.nd rfl (Or.inl rfl))
   (ZcW (ZdF (ZeB (Zc3 ZdS rfl T.z_isinstance Zdc (ZcR (cv 2) (ZcR (ZeY rfl T.z_tuple ZdJ) ZcT))))
    (ZcW (Zdw (ZeD Zcr PySem.F.slot_list_extend PySem.F.type_list_extend Zl0 (cv 1) (ZcR (Zc7 G_flat (hr.mono (by omega)) rfl T.m_flat T.k_flat T.b_flat .nil ZdL (ZcR (cv 2) ZcT)) ZcT))))
    (ZcW (Zdw (Ze5 (ZeD Zcr Zcs Zct Zdr (PE.mono (cv 1)) (ZcR (PE.mono (cv 2)) ZcT))))))))
  (ZcW (Zc4 (cv 1))))), ?_⟩
  have sl : sizeLine = 16777216 := sizeLine_eq
  have lx := hx.length
  refine ⟨(by show 0 <= sizeLine; decide), fun f hf => ?_⟩
  have s1 := ZcV hf (.lst [])
  have e1 : (upd H f (.lst [])) f = some (.lst []) := ZcS
  dsimp only [Zeb]
  generalize upd H f (.lst []) = H1 at s1 e1 ⊢
  refine ⟨t, rfl, ⟨_, SqT.of (s1 _ _ et)⟩, ZlL (xs := xs) (fun i σ H2 => ∃ (o : Option V), σ = [some (.ref t), some (.ref f), o] /\ Same H H2 /\ H2 f = some (.lst (ZeA (ds.take i)))) ⟨none, rfl, s1, by simpa [ZeA] using e1⟩ (fun i σ H2 _ ⟨_, _, S, _⟩ => SqT.of (S _ _ et)) ?_ ?_⟩
  ·rintro i v σ H2 hv ⟨o, rfl, S, e⟩
   obtain ⟨d, hdi, him⟩ := ZgD hx hv
   have him2 := him.mono (Same.tk S)
   have hok1 := ZkZ hok hdi
   have tl := ZfQ ds i
   have gl := Zig hdi
   have nxt : ZeA (ds.take (i + 1)) = ZeA (ds.take i) ++ flV d := by rw [Za7, hdi]; exact ZjC _ _
   cases him2 with
   | flat hfl =>
    rw [flV] at nxt gl
    have ap : (∃ xs, H2 f = some (.lst xs)) /\ ∃ xs, H2 f = some (.lst xs) /\ xs.length < sizeLine /\ ∃ (o : Option V), [some (V.ref t), some (V.ref f), some v] = [some (V.ref t), some (.ref f), o] /\ Same H (upd H2 f (.lst (xs ++ [v]))) /\ (upd H2 f (.lst (xs ++ [v]))) f = some (.lst (ZeA (ds.take (i + 1)))) :=
     ⟨⟨_, e⟩, _, e, by omega, _, rfl, Ze0 S hf _, by rw [ZcS, nxt]⟩
    cases v with
    | int n => exact ⟨_, _, _, _, false, rfl, fun _ r => r, .int n, rfl, _, rfl, Zeq ap⟩
    | str x => exact ⟨_, _, _, _, false, rfl, fun _ r => r, .str x, rfl, _, rfl, Zeq ap⟩
    | _ => simp [okF] at hok1
   | @tup a ys es ha hs =>
    rw [flV] at nxt gl
    rw [okF] at hok1
    have hdd := L2.Internal.depDs_get hdi
    rw [Zgq] at hdd
    refine ⟨_, _, _, _, true, rfl, fun _ r => r, .tup ha, rfl, _, rfl, ZeI ⟨.inl ⟨rfl, _, SqL.of e⟩, a, ys, es, rfl, ha, hs, hok1, by omega, by omega, fun l H3 S3 hl3 e3 => ?_⟩⟩
    refine ⟨f, l, _, _, rfl, rfl, S3 _ _ e, e3, ?_, _, rfl, Ze0 (S.trans S3) hf _, by rw [ZcS, nxt]⟩
    have h1 : (ZeA (ds.take (i + 1))).length <= (ZeA ds).length := ZfQ ds (i + 1)
    rw [nxt, ZaA] at h1
    omega
  ·rintro σ H2 ⟨o, rfl, S, e⟩
   rw [Za4 (by omega)] at e
   exact q f H2 S hf e
end
theorem Zqr (y : V) (ys : List V) : Zi0 (y :: ys) (some 1) none = ys /\ ¬ (HT.Internal.sIx (y :: ys).length 0 (some 1) = 0 /\ HT.Internal.sIx (y :: ys).length (y :: ys).length none = (y :: ys).length) := by
 have e : HT.Internal.sIx (y :: ys).length 0 (some 1) = 1 := by
  show HT.Internal.sIx (y :: ys).length 0 (some ((1 : Nat) : Int)) = 1
  rw [HT.Internal.sIx_nat, Zan]
  omega
 refine ⟨?_, fun h => by rw [e] at h; exact absurd h.1 (by decide)⟩
 unfold Zi0
 rw [e, HT.Internal.sIx_none, List.drop_succ_cons, Za3, Zan, Nat.add_sub_cancel, ZaR]
theorem Zrz {s : Str} (h1 : s ≠ "num") (h2 : s ≠ "name") : inV (.str s) [.str "num", .str "name"] = false := by
 cases h : inV (.str s) [.str "num", .str "name"] with
 | false => rfl
 | true =>
  have := Zj1 (w := s) (l := ["num", "name"]) h
  rcases Zaf.mp this with e | e
  ·exact absurd e h1
  ·exact absurd (ZaU.mp e) h2
section
variable {P : Program} {w : World} {K : PySem.W.Frag} {mg : Str -> Option Value} {base : Heap}
noncomputable def Zka : Sp := fun vs H Q _ => ∃ (t : Addr) (s : Str) (ys : List V) (ds : List Dt), vs = [.ref t] /\ H t = some (.tup (.str s :: ys)) /\ Ims H ys ds /\ s ≠ "num" /\ s ≠ "name" /\ Zgf ds = true /\ Zdd ds < 3 /\ (ZeA ds).length <= 100000 /\ ∀ l H', Same H H' -> H l = none -> H' l = some (.lst (ZeA ds)) -> Q (.ref l) H'
theorem Zkb (T : Txt K mg) : ZdK P w K mg base CX0 5 T.a_parts_of T.fd_parts_of ["row"] Zka := by
 have G_flat := Zo9 (P := P) (w := w) (base := base) T 3
 refine T.F_parts_of.ok ZjW (fun vs H Q E h => ?_) (fun cdv A outer s H vs Q E hr h => ?_)
 ·obtain ⟨t, z, ys, ds, rfl, _⟩ := h
  rfl
 obtain ⟨t, z, ys, ds, rfl, et, hs, n1, n2, f1, f2, f3, q⟩ := h
 refine ⟨_, (ZcU (ZdF (Zdh Zhn (ZdR ZgU (cv 0) ZcZ (fun _ _ => rfl)) (Zfn (ZcR Zc0 (ZcR Zc0 ZcT))) rfl)
   (ZcW (Zc4 (Zdl ZcT)))
   Zc6)
  (ZcW (Zc4 (Zc7 G_flat (hr.mono (by decide)) rfl T.m_flat T.k_flat T.b_flat .nil ZdL (ZcR (Zg6 ZpK (cv 0) (Zir ZcZ) Ziq) ZcT))))), ?_⟩
 have sl : sizeLine = 16777216 := sizeLine_eq
 refine ⟨_, et, Zdn (Zdi (j := 0) rfl) ?_⟩
 refine ⟨(by show 2 <= sizeLine; decide), fun p hp => ⟨p, [.str "num", .str "name"], rfl, .inr (SqT.of ZcS), rfl, rfl, ?_⟩⟩
 have s1 := ZcV hp (.tup [.str "num", .str "name"])
 generalize upd H p (.tup [.str "num", .str "name"]) = H1 at s1 ⊢
 dsimp only [onB]
 rw [show (if false = true then !inV (.str z) [.str "num", .str "name"] else inV (.str z) [.str "num", .str "name"]) = false from Zrz n1 n2]
 obtain ⟨c1, c2⟩ := Zqr (.str z) ys
 refine Zeq ⟨1, rfl, t, _, rfl, SqT.of (s1 _ _ et), c2, fun pc hpc => ?_⟩
 rw [c1]
 have s2 := ZcV hpc (.tup ys)
 exact ⟨pc, ys, ds, rfl, ZcS, hs.mono (Same.tk (s1.trans s2)), f1, f2, f3, fun l H' S hl e' => q l H' ((s1.trans s2).trans S) ((s1.trans s2).free hl) e'⟩
end
noncomputable def Mt (X : List Str) (v : V) (y : Str) : Prop := v = .str y \/ ∃ k : Nat, v = .int (k : Int) /\ X[k]? = some y
inductive Mts (X : List Str) : List V -> List Str -> Prop
 | nil : Mts X [] []
 | cons {v : V} {y : Str} {vs : List V} {ys : List Str} (h : Mt X v y) (t : Mts X vs ys) : Mts X (v :: vs) (y :: ys)
theorem Mts.app {X : List Str} {a c : List V} {b d : List Str} (h : Mts X a b) (k : Mts X c d) : Mts X (a ++ c) (b ++ d) := by
 induction h with
 | nil => exact k
 | cons h _ ih => exact .cons h ih
theorem Mts.len {X : List Str} {a : List V} {b : List Str} (h : Mts X a b) : a.length = b.length := by
 induction h with
 | nil => rfl
 | cons h _ ih => rw [Zan, Zan, ih]
theorem Mts.get {X : List Str} {a : List V} {b : List Str} (h : Mts X a b) : ∀ {j : Nat} {v : V}, a[j]? = some v -> ∃ y, b[j]? = some y /\ Mt X v y := by
 induction h with
 | nil => intro j v e; simp at e
 | cons h _ ih =>
  intro j v e
  cases j with
  | zero => cases e; exact ⟨_, rfl, h⟩
  | succ j => rw [Za0] at e ⊢; exact ih e
theorem ZjD : ∀ ps : List Nat, ZeA (ps.map TM.Internal.kD) = ps.map fun k : Nat => V.int (k : Int)
 | [] => by rw [ZaF, ZeA]; rfl
 | k :: ps => by rw [Zap, ZeA, ZjD ps, TM.Internal.kD, flV]; rfl
theorem Zk0 : ∀ a b : List Dt, ZeA (a ++ b) = ZeA a ++ ZeA b
 | [], b => by rw [ZeA]; rfl
 | x :: a, b => by rw [Zbg, ZeA, ZeA, Zk0 a b, ZaK]
theorem Zk1 {X : List Str} : ∀ {ps : List Nat} {ks : List TM.Internal.Tr}, ps.length = ks.length -> (∀ j k : Nat, ps[j]? = some k -> ∃ t : TM.Internal.Tr, ks[j]? = some t /\ X[k]? = some t.st) -> Mts X (ps.map fun k : Nat => V.int (k : Int)) (sts ks)
 | [], [], _, _ => by rw [sts]; exact .nil
 | p :: ps, k :: ks, hl, h => by
  rw [sts, Zap]
  refine .cons ?_ (Zk1 (by simpa using hl) fun j q e => h (j + 1) q (by rw [Za0]; exact e))
  obtain ⟨t, e1, e2⟩ := h 0 p rfl
  cases e1
  exact .inr ⟨p, rfl, e2⟩
theorem Zqs {X : List Str} : ∀ {l : List Str} {ps : List Nat} {ks : List TM.Internal.Tr}, Mts X (ps.map fun k : Nat => V.int (k : Int)) (sts ks) -> Mts X (ZeA ((l.zip ps).map fun p => Dt.tup [TM.Internal.sD p.1, TM.Internal.kD p.2])) (TM.Internal.wv1 l ((sts ks).map fun s => [s]))
 | [], ps, ks, _ => by cases ks <;> exact .nil
 | w :: l, [], [], _ => .nil
 | w :: l, [], k :: ks, h => by rw [sts] at h; cases h
 | w :: l, p :: ps, [], h => by rw [sts] at h; cases h
 | w :: l, p :: ps, k :: ks, h => by
  rw [sts, Zap] at h
  cases h with
  | cons h t =>
   rw [sts, Zap, TM.Internal.wv1, Zbi, Zap, ZeA, flV, ZeA, ZeA, ZeA, TM.Internal.sD, TM.Internal.kD, flV, flV]
   exact .cons (.inl rfl) (.cons h (Zqs t))
theorem Zqt {X : List Str} : ∀ {l : List (Str × Str)} {ps : List Nat} {ks : List TM.Internal.Tr}, Mts X (ps.map fun k : Nat => V.int (k : Int)) (sts ks) -> Mts X (ZeA ((l.zip ps).map fun p => Dt.tup [TM.Internal.sD p.1.1, TM.Internal.sD p.1.2, TM.Internal.kD p.2])) (TM.Internal.wv2 l ((sts ks).map fun s => [s]))
 | [], ps, ks, _ => by cases ks <;> exact .nil
 | w :: l, [], [], _ => .nil
 | w :: l, [], k :: ks, h => by rw [sts] at h; cases h
 | w :: l, p :: ps, [], h => by rw [sts] at h; cases h
 | w :: l, p :: ps, k :: ks, h => by
  rw [sts, Zap] at h
  cases h with
  | cons h t =>
   rw [sts, Zap, TM.Internal.wv2, Zbi, Zap, ZeA, flV, ZeA, ZeA, ZeA, ZeA, TM.Internal.sD, TM.Internal.sD, TM.Internal.kD, flV, flV, flV]
   exact .cons (.inl rfl) (.cons (.inl rfl) (.cons h (Zqt t)))
theorem okk : ∀ ps : List Nat, Zgf (ps.map TM.Internal.kD) = true /\ Zdd (ps.map TM.Internal.kD) = 0
 | [] => ⟨by rw [ZaF, Zgf], by rw [ZaF, Zdd]⟩
 | k :: ps => by
  obtain ⟨a, b⟩ := okk ps
  refine ⟨by rw [Zap, Zgf, a]; rfl, by rw [Zap, Zdd, b]; rfl⟩
theorem ok1 : ∀ (l : List (Str × Nat)), Zgf (l.map fun p => Dt.tup [TM.Internal.sD p.1, TM.Internal.kD p.2]) = true /\ Zdd (l.map fun p => Dt.tup [TM.Internal.sD p.1, TM.Internal.kD p.2]) <= 1
 | [] => ⟨by rw [ZaF, Zgf], by rw [ZaF, Zdd]; omega⟩
 | k :: l => by
  obtain ⟨a, b⟩ := ok1 l
  exact ⟨by rw [Zap, Zgf, a]; rfl, by rw [Zap, Zdd]; exact Nat.max_le.mpr ⟨Zbz 1, b⟩⟩
theorem ok2 : ∀ (l : List ((Str × Str) × Nat)), Zgf (l.map fun p => Dt.tup [TM.Internal.sD p.1.1, TM.Internal.sD p.1.2, TM.Internal.kD p.2]) = true /\ Zdd (l.map fun p => Dt.tup [TM.Internal.sD p.1.1, TM.Internal.sD p.1.2, TM.Internal.kD p.2]) <= 1
 | [] => ⟨by rw [ZaF, Zgf], by rw [ZaF, Zdd]; omega⟩
 | k :: l => by
  obtain ⟨a, b⟩ := ok2 l
  exact ⟨by rw [Zap, Zgf, a]; rfl, by rw [Zap, Zdd]; exact Nat.max_le.mpr ⟨Zbz 1, b⟩⟩
theorem Zpa {X : List Str} {κ : TM.Internal.Kn} {ks : List TM.Internal.Tr} {ps : List Nat} (hf : κ.fm) (h2 : ks.length = κ.ar) (hp : ps.length = ks.length) (h : Mts X (ps.map fun k : Nat => V.int (k : Int)) (sts ks)) :
  ∃ ds, κ.rw ps = TM.Internal.sD κ.s :: ds /\ Zgf ds = true /\ Zdd ds < 3 /\ Mts X (ZeA ds) (κ.ws ((sts ks).map fun s => [s])) := by
 obtain ⟨k1, k2⟩ := okk ps
 have one : ∀ w : Str, ∃ ds : List Dt, TM.Internal.sD w :: ps.map TM.Internal.kD = ds /\ Zgf ds = true /\ Zdd ds < 3 /\ Mts X (ZeA ds) (w :: ((sts ks).map fun s => [s]).flatten) := fun w => by
  refine ⟨_, rfl, by rw [Zgf, k1]; rfl, by rw [Zdd, k2]; show max 0 0 < 3; decide, ?_⟩
  rw [ZeA, ZjD, ZfP, TM.Internal.sD, flV]
  exact .cons (.inl rfl) h
 cases κ with
 | num n => exact hf.elim
 | name w => exact hf.elim
 | fn w => obtain ⟨ds, e, r⟩ := one w; exact ⟨ds, by rw [<- e]; rfl, r⟩
 | tag w => obtain ⟨ds, e, r⟩ := one w; exact ⟨ds, by rw [<- e]; rfl, r⟩
 | lt w => obtain ⟨ds, e, r⟩ := one w; exact ⟨ds, by rw [<- e]; rfl, r⟩
 | get w =>
  refine ⟨ps.map TM.Internal.kD ++ [TM.Internal.sD w], rfl, ?_, ?_, ?_⟩
  ·have : ∀ a b : List Dt, Zgf a = true -> Zgf b = true -> Zgf (a ++ b) = true := fun a b h1 h2 => by
    induction a with
    | nil => exact h2
    | cons x a ih => rw [Zgf, Zcy] at h1; rw [Zbg, Zgf, h1.1, ih h1.2]; rfl
   exact this _ _ k1 rfl
  ·have : ∀ a b : List Dt, Zdd a = 0 -> Zdd b = 0 -> Zdd (a ++ b) = 0 := fun a b h1 h2 => by
    induction a with
    | nil => exact h2
    | cons x a ih => rw [Zdd] at h1; rw [Zbg, Zdd, ih (by omega)]; omega
   rw [this _ _ k2 rfl]
   decide
  ·rw [Zk0, ZjD]
   show Mts X _ (((sts ks).map fun s => [s]).flatten ++ [w])
   rw [ZfP]
   exact h.app (.cons (.inl rfl) .nil)
 | rcd l =>
  obtain ⟨a, b⟩ := ok1 (l.zip ps)
  refine ⟨[.tup ((l.zip ps).map fun p => .tup [TM.Internal.sD p.1, TM.Internal.kD p.2])], rfl, ?_, ?_, ?_⟩
  ·rw [Zgf, okF, a, Zgf]; rfl
  ·rw [Zdd, Zgq, Zdd]; omega
  ·rw [ZeA, flV, ZeA, Zar]; exact Zqs h
 | case l =>
  cases ks with
  | nil => exact absurd h2 (by simp [TM.Internal.Kn.ar])
  | cons k ks =>
   cases ps with
   | nil => simp at hp
   | cons p ps =>
    obtain ⟨a, b⟩ := ok2 (l.zip ps)
    rw [sts, Zap] at h
    cases h with
    | cons h t =>
     refine ⟨[TM.Internal.kD p, .tup ((l.zip ps).map fun p => .tup [TM.Internal.sD p.1.1, TM.Internal.sD p.1.2, TM.Internal.kD p.2])], rfl, ?_, ?_, ?_⟩
     ·rw [Zgf, Zgf, okF, a, Zgf]; rfl
     ·rw [Zdd, Zdd, Zgq, Zdd, TM.Internal.kD, Zgq]; omega
     ·rw [ZeA, ZeA, flV, ZeA, Zar, TM.Internal.kD, flV, sts]
      exact .cons h (Zqt t)
 | row m =>
  refine ⟨[.tup (ps.map TM.Internal.kD)], rfl, ?_, ?_, ?_⟩
  ·rw [Zgf, okF, k1, Zgf]; rfl
  ·rw [Zdd, Zgq, Zdd, k2]; decide
  ·rw [ZeA, flV, ZeA, Zar, ZjD]
   show Mts X _ ((sts ks).map fun s => [s]).flatten
   rw [ZfP]
   exact h
 | op s m =>
  refine ⟨ps.map TM.Internal.kD, rfl, k1, by omega, ?_⟩
  rw [ZjD]
  show Mts X _ ((sts ks).map fun s => [s]).flatten
  rw [ZfP]
  exact h
end K04.Internal
namespace K04.Internal
open PySem L2.Internal BO.Internal
seal L2.Internal.PE L2.Internal.PA L2.Internal.PS L2.Internal.PSs L2.Internal.PT L2.Internal.PI
theorem ifF {b : Bool} {A u : TS} {D : Zih} {σ : St} {H : Hp} {t : TT} (ht : ∀ R : Bool -> Hp -> Prop, R b H -> t σ H R) (kt : b = true -> A { D with nx := u D } σ H) (kf : b = false -> u D σ H) : ZnL (ZnM t A ZhP) u D σ H := by
 refine ht _ ?_
 cases b with
 | true => exact ZeI (kt rfl)
 | false => exact Zeq (kf rfl)
section
variable {P : Program} {w : World} {K : PySem.W.Frag} {mg : Str -> Option Value} {base : Heap}
noncomputable def Zlt : Sp := fun vs H Q _ => ∃ (r tl : Addr) (rv : List V) (X : List Str) (κ : TM.Internal.Kn) (ks : List TM.Internal.Tr) (ps : List Nat), vs = [.ref r, .ref tl] /\ H r = some (.tup rv) /\ Ims H rv (κ.rw ps) /\ H tl = some (.lst (X.map V.str)) /\ (TM.Internal.Tr.mk κ ks).ok /\ (TM.Internal.Tr.mk κ ks).sz <= 160 /\ ps.length = ks.length /\
 (∀ j k : Nat, ps[j]? = some k -> ∃ t : TM.Internal.Tr, ks[j]? = some t /\ X[k]? = some t.st) /\ ∀ H', Same H H' -> Q (.str (TM.Internal.Tr.mk κ ks).st) H'
theorem Zlu (T : Txt K mg) : ZdK P w K mg base CX0 6 T.a_text_of T.fd_text_of ["row", "texts"] Zlt := by
 have G_parts_of := Zkb (P := P) (w := w) (base := base) T
 refine T.F_text_of.ok ZgN (fun vs H Q E h => ?_) (fun cdv A outer s H vs Q E hr h => ?_)
 ·obtain ⟨r, tl, rv, X, κ, ks, ps, rfl, _⟩ := h
  rfl
 obtain ⟨r, tl, rv, X, κ, ks, ps, rfl, er, hi, et, ho, hz, hp, hk, q⟩ := h
 refine ⟨_, (ZcU (ZdF (Zdh ZfD (ZdR ZgU (cv 0) ZcZ (fun _ _ => rfl)) Zc0 (Zdk _))
   (ZcW (Zc4 (Zdm ZiU rfl T.z_str Zhq (ZcR (ZdR ZgU (cv 0) ZcZ (fun _ _ => rfl)) ZcT))))
   Zc6)
  (ZcU (ZdF (Zdh ZfD (ZdR ZgU (cv 0) ZcZ (fun _ _ => rfl)) Zc0 (Zdk _))
   (ZcW (Zc4 (ZdR ZgU (cv 0) ZcZ (fun _ _ => rfl))))
   Zc6)
  (ZcU (Zc9 (i := 2) ZgN.nd rfl (Or.inl rfl) (Zdl (ZcR (ZdR ZgU (cv 0) ZcZ (fun _ _ => rfl)) ZcT)))
  (ZcU (ZfZ PassesOwn.never rfl (Ze4 (Zc7 G_parts_of (hr.mono (by decide)) rfl T.m_parts_of T.k_parts_of T.b_parts_of .nil ZdL (ZcR (cv 0) ZcT))) (ZeW (i := 3) ZgN.nd rfl (Or.inl rfl))
   (ZcW (Zdw (Ze5 (ZeD Zcr Zcs Zct Zdr (PE.mono (cv 2)) (ZcR (PE.mono (ZmS (ZeB (Zc3 ZdS rfl T.z_isinstance Zdc (ZcR (cv 3) (ZcR (ZeY rfl T.z_str Zhq) ZcT)))) (cv 3) (ZdR Zdt (cv 1) (cv 3) (fun _ _ => rfl)))) ZcT))))))
  (ZcW (Zc4 (Zde ZdH (Zde ZdH Zc0 (ZeD Zcq Zcu Zcv Zf5 Zc0 (ZcR (cv 2) ZcT))) Zc0))))))), ?_⟩
 have sl : sizeLine = 16777216 := sizeLine_eq
 have kg := ZqQ _ ho
 have wl := ZgQ (TM.Internal.Tr.mk κ ks).st.cps.toList
 rw [Zgc] at wl
 have hwt : wts (TM.Internal.Tr.mk κ ks).st.cps.toList + 36 <= 100 * (TM.Internal.Tr.mk κ ks).sz := kg.wt
 have lst : (TM.Internal.Tr.mk κ ks).st.length <= 16000 := by omega
 rw [TM.Internal.Tr.ok] at ho
 have tst : ∀ (m : Str) (R : Bool -> Hp -> Prop), R (decide (κ.s = m)) H -> R (false ^^ decide (κ.s = m)) H := fun m R h => by rw [ZcA]; exact h
 rcases ZnC κ with ⟨n, rfl⟩ | ⟨n, rfl⟩ | hf
 ·cases hi with
  | cons h1 hs =>
   cases hs with
   | cons h2 hs =>
    cases h1
    cases h2
    cases hs
    refine ifF (b := true) (fun R h => ⟨_, er, Zdn (Zdi (j := 0) rfl) h⟩) (fun _ => ⟨_, er, Zdn (Zdi (j := 1) rfl) ⟨_, rfl, ZmH ho.1.1 ho.1.2, ?_⟩⟩) (fun z => by cases z)
    have h := q H (Same.refl _)
    rw [TM.Internal.Tr.st] at h
    exact h
 ·cases hi with
  | cons h1 hs =>
   cases hs with
   | cons h2 hs =>
    cases h1
    cases h2
    cases hs
    refine ifF (b := false) (fun R h => ⟨_, er, Zdn (Zdi (j := 0) rfl) h⟩) (fun z => by cases z) (fun _ => ?_)
    refine ifF (b := true) (fun R h => ⟨_, er, Zdn (Zdi (j := 0) rfl) h⟩) (fun _ => ⟨_, er, Zdn (Zdi (j := 1) rfl) ?_⟩) (fun z => by cases z)
    have h := q H (Same.refl _)
    rw [TM.Internal.Tr.st] at h
    exact h
 ·obtain ⟨k1, k2⟩ := Zr0 hf ho.1
  obtain ⟨ds, ed, f1, f2, f3⟩ := Zpa hf ho.2.1 hp (Zk1 hp hk)
  rw [ed] at hi
  cases hi with
  | @cons _ _ ys _ h1 hs =>
   cases h1
   refine ifF (b := false) (fun R h => ⟨_, er, Zdn (Zdi (j := 0) rfl) (tst _ _ (by rw [decide_eq_false k1]; exact h))⟩) (fun z => by cases z) (fun _ => ?_)
   refine ifF (b := false) (fun R h => ⟨_, er, Zdn (Zdi (j := 0) rfl) (tst _ _ (by rw [decide_eq_false k2]; exact h))⟩) (fun z => by cases z) (fun _ => ?_)
   refine ⟨_, er, Zdn (Zdi (j := 0) rfl) ⟨(by show 1 <= sizeLine; decide), fun wl' hwl => ?_⟩⟩
   have est : (TM.Internal.Tr.mk κ ks).st = "(" ++ jn (κ.s :: κ.ws ((sts ks).map fun s => [s])) ++ ")" := by rw [Zo3 hf ho.2.1, (ZgB hf ho.2.1).2.1]
   have s1 := ZcV hwl (.lst [.str κ.s])
   have e1 : (upd H wl' (.lst [.str κ.s])) wl' = some (.lst [.str κ.s]) := ZcS
   dsimp only [Zeb]
   generalize upd H wl' (.lst [.str κ.s]) = H1 at s1 e1 ⊢
   have pl : ("(" : Str).length = 1 /\ (")" : Str).length = 1 := by decide +kernel
   rw [est] at q lst
   rw [Str.length_append, Str.length_append, pl.1, pl.2] at lst
   have jl := ZmF "" (κ.s :: κ.ws ((sts ks).map fun s => [s]))
   have fl := f3.len
   rw [Zan] at jl
   refine ⟨r, κ.s, ys, ds, rfl, s1 _ _ er, hs.mono (Same.tk s1), k1, k2, f1, f2, by omega, fun l H2 S2 hl e2 => ?_⟩
   have nl : l ≠ wl' := (ZcY e1 hl).symm
   have S12 := s1.trans S2
   refine ⟨l, rfl, ⟨_, SqL.of e2⟩, Zil (xs := ZeA ds) (fun i σ H3 => ∃ o, σ = [some (.ref r), some (.ref tl), some (.ref wl'), o] /\ Same H H3 /\ H3 l = some (.lst (ZeA ds)) /\ H3 wl' = some (.lst ((κ.s :: (κ.ws ((sts ks).map fun s => [s])).take i).map V.str))) ⟨none, rfl, S12, e2, S2 _ _ e1⟩ (fun i σ H3 _ h => by obtain ⟨o, _, _, h, _⟩ := h; exact SqL.of h) ?_ ?_⟩
   ·rintro i v σ H3 hv ⟨o, rfl, S3, el3, ew3⟩
    obtain ⟨y, hy, hm⟩ := f3.get hv
    have hi : i < (κ.ws ((sts ks).map fun s => [s])).length := (Zai.mp hy).1
    have nxt : ((κ.s :: (κ.ws ((sts ks).map fun s => [s])).take i).map V.str) ++ [.str y] = (κ.s :: (κ.ws ((sts ks).map fun s => [s])).take (i + 1)).map V.str := by
     rw [Za7, hy]
     simp
    have ap : ∃ xs, H3 wl' = some (.lst xs) /\ xs.length < sizeLine /\ ∃ o, [some (V.ref r), some (V.ref tl), some (V.ref wl'), some v] = [some (V.ref r), some (V.ref tl), some (V.ref wl'), o] /\ Same H (upd H3 wl' (.lst (xs ++ [.str y]))) /\ (upd H3 wl' (.lst (xs ++ [.str y]))) l = some (.lst (ZeA ds)) /\ (upd H3 wl' (.lst (xs ++ [.str y]))) wl' = some (.lst ((κ.s :: (κ.ws ((sts ks).map fun s => [s])).take (i + 1)).map V.str)) := by
     refine ⟨_, ew3, ?_, _, rfl, Ze0 S3 hwl _, by rw [Zc1 nl]; exact el3, by rw [ZcS, nxt]⟩
     rw [Zaq, Zan, Zav]
     omega
    rcases hm with rfl | ⟨k, rfl, hX⟩
    ·exact ⟨⟨_, ew3⟩, _, _, _, _, true, rfl, fun _ r => r, .str _, rfl, _, rfl, ZeI ap⟩
    ·refine ⟨⟨_, ew3⟩, _, _, _, _, false, rfl, fun _ r => r, .int _, rfl, _, rfl, Zeq ⟨_, S3 _ _ et, Zdn (v := V.str y) (Zdi (by rw [Zay, hX]; rfl)) ap⟩⟩
   ·rintro σ H3 ⟨o, rfl, S3, el3, ew3⟩
    rw [fl, ZaR] at ew3
    refine ⟨rfl, " ", wl', _, rfl, rfl, SqL.of ew3, ?_, ?_⟩
    ·have one : (" " : Str).length = 1 := by decide +kernel
     rw [one, Zan]
     omega
    ·exact ⟨by rw [pl.1]; show 1 + (jn _).length <= sizeLine; omega, by rw [Str.length_append, pl.1, pl.2]; show 1 + (jn _).length + 1 <= sizeLine; omega, q H3 S3⟩
end
end K04.Internal
namespace K04.Internal
open PySem L2.Internal BO.Internal
seal L2.Internal.PE L2.Internal.PA L2.Internal.PS L2.Internal.PSs L2.Internal.PT L2.Internal.PI
theorem Zk2 {α : Type} (x : α) : ∀ n : Nat, (Zau n [x]).flatten = Zau n x
 | 0 => rfl
 | n + 1 => by rw [ZaI, ZaJ, Zk2 x n]; rfl
noncomputable def Xm (ts : List TM.Internal.Tr) (m : Nat) : List Str := Zau m ("" : Str) ++ (ZjA ts).drop m
theorem Zqu {ts : List TM.Internal.Tr} {m k : Nat} (h : m <= k) : (Xm ts m)[k]? = (ZjA ts)[k]? := by
 unfold Xm
 rw [Zaw (by rw [ZaB]; exact h), ZaB, List.getElem?_drop]
 congr 1
 omega
theorem Zqv {ts : List TM.Internal.Tr} {m : Nat} {x : Str} (h : (ZjA ts)[m]? = some x) : (Xm ts (m + 1)).set m x = Xm ts m := by
 unfold Xm
 obtain ⟨hm, e⟩ := Zai.mp h
 rw [Za2 hm, e, Zbs, ZaK, Zbj _ _ (by rw [ZaB]; exact Zbz _), ZaB, ZbJ]
 rfl
theorem Zqw {ts : List TM.Internal.Tr} {m : Nat} (h : m <= TM.Internal.szs ts) : (Xm ts m).length = TM.Internal.szs ts := by
 unfold Xm
 rw [ZaA, ZaB, ZaE, Zhd]
 omega
section
variable {P : Program} {w : World} {K : PySem.W.Frag} {mg : Str -> Option Value} {base : Heap}
noncomputable def Zkc : Sp := fun vs H Q _ => ∃ (rl : Addr) (rv : List V) (ts : List TM.Internal.Tr), vs = [.ref rl] /\ H rl = some (.lst rv) /\ Ims H rv (TM.Internal.rws ts 0) /\ TM.Internal.oks ts /\ TM.Internal.szs ts <= 160 /\ ∀ l H', Same H H' -> H l = none -> H' l = some (.lst ((ZjA ts).map V.str)) -> Q (.ref l) H'
theorem Zkd (T : Txt K mg) : ZdK P w K mg base CX0 7 T.a_texts_of T.fd_texts_of ["rows"] Zkc := by
 have G_text_of := Zlu (P := P) (w := w) (base := base) T
 refine T.F_texts_of.ok Zf8 (fun vs H Q E h => ?_) (fun cdv A outer s H vs Q E hr h => ?_)
 ·obtain ⟨rl, rv, ts, rfl, _⟩ := h
  rfl
 obtain ⟨rl, rv, ts, rfl, er, hi, ho, hz, q⟩ := h
 refine ⟨_, (ZcU (Zc9 (i := 1) Zf8.nd rfl (Or.inl rfl) (Zde ZpN (Zdl (ZcR Zc0 ZcT)) (Zc3 Zda rfl T.z_len Zeo (ZcR (cv 0) ZcT))))
  (ZcU (ZfZ PassesOwn.never rfl (Zml rfl T.z_range (ZcR (Zde Zn0 (Zc3 Zda rfl T.z_len Zeo (ZcR (cv 0) ZcT)) ZcZ) (ZcR (Zk9 ZhZ ZcZ) (ZcR (Zk9 ZhZ ZcZ) ZcT)))) (ZeW (i := 2) Zf8.nd rfl (Or.inl rfl))
   (ZcW (Zkt (Zc7 G_text_of (hr.mono (by decide)) rfl T.m_text_of T.k_text_of T.b_text_of .nil ZdL (ZcR (ZdR Zdt (cv 0) (cv 2) (fun _ _ => rfl)) (ZcR (cv 1) ZcT))) (Zks (cv 1) (cv 2) Zg7))))
  (ZcW (Zc4 (cv 1))))), ?_⟩
 have sl : sizeLine = 16777216 := sizeLine_eq
 have ln := hi.length
 rw [TM.Internal.rws_len] at ln
 refine ⟨(by show 1 <= sizeLine; decide), fun a ha => ?_⟩
 have s1 := ZcV ha (.lst [.str ""])
 refine ⟨rl, _, rfl, .inl (SqL.of (s1 _ _ er)), a, _, _, rfl, rfl, ZcS, by omega, by omega, ?_, fun tl htl => ?_⟩
 ·show 1 * ((rv.length : Nat) : Int).toNat <= sizeLine
  rw [ZcG]
  omega
 have s2 := ZcV htl (.lst (Zau ((rv.length : Nat) : Int).toNat [V.str ""]).flatten)
 have e2 : (upd (upd H a (.lst [.str ""])) tl (.lst (Zau ((rv.length : Nat) : Int).toNat [V.str ""]).flatten)) tl = some (.lst ((Xm ts (TM.Internal.szs ts)).map V.str)) := by
  rw [ZcS, ZcG, Zk2]
  unfold Xm
  rw [Zbf (by rw [Zhd]; exact Zbz _), Zar, List.map_replicate, ln]
 have h0 := s1.free htl
 have s12 := s1.trans s2
 dsimp only [Zeb]
 generalize upd (upd H a (.lst [.str ""])) tl (.lst (Zau ((rv.length : Nat) : Int).toNat [V.str ""]).flatten) = H1 at s12 e2 ⊢
 refine ⟨rl, _, rfl, .inl (SqL.of (s12 _ _ er)), _, rfl, _, rfl, _, _, rfl, ⟨by omega, by omega, by decide, by decide⟩, Zne (fun i σ H2 => ∃ o, σ = [some (.ref rl), some (.ref tl), o] /\ Same H H2 /\ H2 tl = some (.lst ((Xm ts (TM.Internal.szs ts - i)).map V.str))) ⟨none, rfl, s12, e2⟩ ?_ ?_⟩
 ·rintro i σ H2 hlt ⟨o, rfl, S, e⟩
  have hi' : i < TM.Internal.szs ts := by omega
  obtain ⟨p, hp⟩ : ∃ p, TM.Internal.szs ts - i = p + 1 := ⟨TM.Internal.szs ts - i - 1, by omega⟩
  have ep : (rv.length : Int) - 1 - (i : Int) = (p : Int) := by omega
  have hps : p < rv.length := by omega
  obtain ⟨v, hv⟩ : ∃ v, rv[p]? = some v := ⟨_, ZaW hps⟩
  obtain ⟨d, hd, him⟩ := ZgD hi hv
  obtain ⟨x, hx, κ, ks, rfl, rfl, okk', szk, hk⟩ := Zo4 ts 0 p d ho hz hd
  rw [hp] at e
  rw [ZbI] at him hk
  cases him with
  | @tup r rvv _ her hrs =>
   show Zpv _ _ _ [some (.ref rl), some (.ref tl), some (.int ((rv.length : Int) - 1 - (i : Int)))] H2
   rw [ep]
   refine ⟨_, S _ _ er, Zdn (Zdi hv) ?_⟩
   refine ⟨r, tl, rvv, Xm ts (p + 1), κ, ks, _, rfl, S _ _ her, hrs.mono (Same.tk S), e, okk', szk, TM.Internal.offs_len _ _, fun j k ej => ?_, fun H3 S3 => ?_⟩
   ·obtain ⟨a1, _, t, a2, a3⟩ := hk j k ej
    exact ⟨t, a2, by rw [Zqu (by omega)]; exact a3⟩
   ·refine ⟨tl, _, _, p, rfl, rfl, S3 _ _ e, ZmC (by rw [Zaq, Zqw (by omega)]; omega), _, rfl, ?_, ?_⟩
    ·exact Ze0 (S.trans S3) h0 _
    ·rw [ZcS, <- List.map_set, Zqv hx, show TM.Internal.szs ts - (i + 1) = p by omega]
 ·rintro σ H2 ⟨o, rfl, S, e⟩
  refine q tl H2 S h0 ?_
  have ez : TM.Internal.szs ts - ((rv.length : Int) - 1 - -1).toNat = 0 := by omega
  rw [ez] at e
  exact e
end
end K04.Internal
namespace K04.Internal
open PySem L2.Internal BO.Internal
seal L2.Internal.PE L2.Internal.PA L2.Internal.PS L2.Internal.PSs L2.Internal.PT L2.Internal.PI
noncomputable def dfS (n x : Str) : Str := "(def " ++ n ++ " " ++ x ++ ")"
noncomputable def dfs : List Str -> List TM.Internal.Tr -> List Str
 | n :: ns, t :: ts => dfS n t.st :: dfs ns ts
 | _, _ => []
noncomputable def wr (ns : List Str) (ts : List TM.Internal.Tr) : Str := Str.join "\n" (dfs ns ts)
theorem Zpb {K : PySem.W.Frag} {a b : Addr} {xs ys : List V} {g : TG} {tb : TS} {D : Zih} {σ : St} {H : Hp} (Pv : Nat -> St -> Hp -> Prop) (h0 : Pv 0 σ H) (hl : ∀ i σ H, i <= xs.length -> Pv i σ H -> SqL K H a xs /\ SqL K H b ys) (hn : ys.length = xs.length)
  (hs : ∀ (i : Nat) (x y : V) (σ : St) (H : Hp) (T : Addr), xs[i]? = some x -> ys[i]? = some y -> Pv i σ H -> H T = none -> g (.ref T) σ (upd H T (.tup [x, y])) fun σ2 H2 => tb { D with nx := Pv (i + 1), ct := Pv (i + 1), bk := D.nx } σ2 H2) (hd : ∀ σ H, Pv xs.length σ H -> D.nx σ H) :
  ∃ W : Nat -> Nat -> St -> Hp -> Prop, (∃ m, W 0 m σ H) /\ ∀ i m σ H, W i m σ H ->
   ((Itz K a b).stop i H /\ D.nx σ H) \/ ((Itz K a b).go i H /\ ∃ N : St -> Hp -> Prop, (∀ σ' H', N σ' H' -> ∃ m', m' < m /\ W (i + 1) m' σ' H') /\ ∀ x H', (Itz K a b).yld i H x H' -> g x σ H' fun σ2 H2 => tb { D with nx := N, ct := N, bk := D.nx } σ2 H2) := by
 refine ⟨fun i m σ H => m = xs.length - i /\ i <= xs.length /\ Pv i σ H, ⟨xs.length, by simp, ZbA _, h0⟩, ?_⟩
 rintro i m σ H ⟨rfl, hi, p⟩
 obtain ⟨q1, q2⟩ := hl i σ H hi p
 by_cases hlt : i < xs.length
 ·refine .inr ⟨⟨xs, ys, xs[i], ys[i]'(by omega), q1, q2, by simp [hlt], ZaW (by omega)⟩, Pv (i + 1), fun σ' H' p' => ⟨xs.length - (i + 1), by omega, rfl, hlt, p'⟩, fun v H' y => ?_⟩
  obtain ⟨T, x, y, rfl, hT, rfl, hx, hy⟩ := y
  exact hs i x y σ H T (hx xs q1) (hy ys q2) p hT
 ·have e : i = xs.length := by omega
  subst e
  exact .inl ⟨⟨xs, ys, q1, q2, by omega⟩, hd σ H p⟩
theorem Zgg : ∀ {ns : List Str} {ts : List TM.Internal.Tr}, ns.length = ts.length -> (dfs ns ts).length = ns.length
 | [], [], _ => rfl
 | n :: ns, t :: ts, h => by rw [dfs, Zan, Zan, Zgg (by simpa using h)]
theorem Zke : ∀ {ns : List Str} {ts : List TM.Internal.Tr} {i : Nat} {n : Str} {t : TM.Internal.Tr}, ns[i]? = some n -> ts[i]? = some t -> (dfs ns ts)[i]? = some (dfS n t.st)
 | n :: ns, t :: ts, 0, _, _, e, e' => by cases e; cases e'; rfl
 | n :: ns, t :: ts, i + 1, _, _, e, e' => by
  rw [Za0] at e e'
  rw [dfs, Za0]
  exact Zke e e'
theorem ZgE : ("(def " : Str).length = 5 /\ (" " : Str).length = 1 /\ (")" : Str).length = 1 /\ ("\n" : Str).length = 1 /\ Str.empty ++ ("(def " : Str) = "(def " := by decide +kernel
theorem Zpc (n x : Str) : (dfS n x).length = n.length + x.length + 7 := by
 unfold dfS
 rw [Str.length_append, Str.length_append, Str.length_append, Str.length_append, ZgE.1, ZgE.2.1, ZgE.2.2.1]
 omega
theorem Zk3 {t : TM.Internal.Tr} (ho : t.ok) (hz : t.sz <= 160) : t.st.length <= 16000 := by
 have kg := (ZqQ t ho).wt
 have wl := ZgQ t.st.cps.toList
 rw [Zgc] at wl
 have hwt : wts t.st.cps.toList + 36 <= 100 * t.sz := kg
 omega
theorem Zkf : ∀ {ts : List TM.Internal.Tr} {i : Nat} {t : TM.Internal.Tr}, TM.Internal.oks ts -> ts[i]? = some t -> t.ok /\ t.sz <= TM.Internal.szs ts
 | x :: ts, 0, t, h, e => by cases e; rw [TM.Internal.oks] at h; rw [TM.Internal.szs]; exact ⟨h.1, by omega⟩
 | x :: ts, i + 1, t, h, e => by
  rw [Za0] at e
  rw [TM.Internal.oks] at h
  obtain ⟨a, b⟩ := Zkf h.2 e
  rw [TM.Internal.szs]
  exact ⟨a, by omega⟩
theorem Zkg {l : List Str} {m : Nat} : (∀ y ∈ l, y.length <= m) -> (l.map (·.length)).sum <= m * l.length := by
 induction l with
 | nil => intro _; simp
 | cons x l ih =>
  intro h
  have h1 := h x Zad
  have h2 := ih fun y hy => h y (Zae _ hy)
  rw [Zap, Za8, Zan, Nat.mul_succ]
  omega
theorem ZmK {ns : List Str} {ts : List TM.Internal.Tr} (ho : TM.Internal.oks ts) (hz : TM.Internal.szs ts <= 160) (hn : ∀ n ∈ ns, n.length <= 100) (hl : ns.length = ts.length) : ∀ y ∈ dfs ns ts, y.length <= 17000 := fun y hy => by
 obtain ⟨i, hi⟩ := Za9.mp hy
 have hlt := (Zai.mp hi).1
 rw [Zgg hl] at hlt
 have e1 : ns[i]? = some ns[i] := ZaW hlt
 have e2 : ts[i]? = some (ts[i]'(by omega)) := ZaW (by omega)
 rw [Zke e1 e2] at hi
 cases hi
 obtain ⟨a, b⟩ := Zkf ho e2
 have := Zk3 a (by omega)
 have := hn _ (Zaz e1)
 rw [Zpc]
 omega
open GR.Internal (fP Zf6 Zfo ZfU)
section
variable {P : Program} {w : World} {K : PySem.W.Frag} {mg : Str -> Option Value} {base : Heap}
structure PrL (C : Addr) (H : Hp) (g nl tl rl : Addr) (ns : List Str) (ts : List TM.Internal.Tr) (rv : List V) : Prop where
 ob : ∃ dg, H g = some (.ins C dg (fP nl tl rl))
 nm : H nl = some (.lst (ns.map V.str))
 rt : H tl = some (.lst ((TM.Internal.offs ts 0).map fun k : Nat => V.int (k : Int)))
 rw : H rl = some (.lst rv)
 im : Ims H rv (TM.Internal.rws ts 0)
 ok : TM.Internal.oks ts
 sz : TM.Internal.szs ts <= 160
 ln : ns.length = ts.length
 l12 : ns.length <= 12
 nn : ∀ n ∈ ns, n.length <= 100
noncomputable def Zlv (C : Addr) : Sp := fun vs H Q _ => ∃ (g nl tl rl : Addr) (ns : List Str) (ts : List TM.Internal.Tr) (rv : List V), vs = [.ref g] /\ PrL C H g nl tl rl ns ts rv /\ ∀ H', Same H H' -> Q (.str (wr ns ts)) H'
theorem Zlw (T : Txt K mg) : ZdK P w K mg base CX0 8 T.a_written T.fd_written ["program"] (Zlv T.a_Program) := by
 have G_texts_of := Zkd (P := P) (w := w) (base := base) T
 refine T.F_written.ok Ze3 (fun vs H Q E h => ?_) (fun cdv A outer s H vs Q E hr h => ?_)
 ·obtain ⟨g, nl, tl, rl, ns, ts, rv, rfl, _⟩ := h
  rfl
 obtain ⟨g, nl, tl, rl, ns, ts, rv, rfl, pr, q⟩ := h
 obtain ⟨dg, eg⟩ := pr.ob
 refine ⟨_, (ZcU (Zc9 (i := 1) Ze3.nd rfl (Or.inl rfl) (Zc7 G_texts_of (hr.mono (by decide)) rfl T.m_texts_of T.k_texts_of T.b_texts_of .nil ZdL (ZcR (ZeX T.cl_Program T.n_Program_rows (cv 0)) ZcT)))
  (ZcU (Zc9 (i := 2) Ze3.nd rfl (Or.inl rfl) (Zdl ZcT))
  (ZcU (ZfZ PassesOwn.never rfl (ZpW rfl T.z_zip (ZcR (ZeX T.cl_Program T.n_Program_names (cv 0)) (ZcR (ZeX T.cl_Program T.n_Program_roots (cv 0)) ZcT))) (Zpu rfl (Zg4 (ZeW (i := 3) Ze3.nd rfl (Or.inl rfl)) (Zg4 (ZeW (i := 4) Ze3.nd rfl (Or.inl rfl)) ZlG)))
   (ZcU (Zc9 (i := 5) Ze3.nd rfl (Or.inl rfl) (ZdR Zdt (cv 1) (cv 4) (fun _ _ => rfl)))
   (ZcW (Zdw (Ze5 (ZeD Zcr Zcs Zct Zdr (PE.mono (cv 2)) (ZcR (PE.mono (Zfy (Zdu Zc0 (Zdu (Ziv (cv 3)) (Zdu Zc0 (Zdu (Ziv (cv 5)) (Zdu Zc0 Zgp))))))) ZcT)))))))
  (ZcW (Zc4 (ZeD Zcq Zcu Zcv Zf5 Zc0 (ZcR (cv 2) ZcT))))))), ?_⟩
 have sl : sizeLine = 16777216 := sizeLine_eq
 refine ⟨_, ⟨dg, _, eg, Zf6 _ _ _⟩, rl, rv, ts, rfl, pr.rw, pr.im, pr.ok, pr.sz, fun xl H1 S1 hxl ex => ?_⟩
 dsimp only [Zeb]
 refine ⟨(by show 0 <= sizeLine; decide), fun dl hdl => ?_⟩
 have s2 := ZcV hdl (.lst [])
 have ed : (upd H1 dl (.lst [])) dl = some (.lst []) := ZcS
 have nd : xl ≠ dl := ZcY ex hdl
 have h0 := S1.free hdl
 have S2 := S1.trans s2
 have ex2 := s2 _ _ ex
 dsimp only [Zeb]
 generalize upd H1 dl (.lst []) = H2 at s2 ed S2 ex2 ⊢
 have ln := pr.ln
 have l12 := pr.l12
 have dl' := Zgg ln
 refine ⟨_, ⟨dg, _, S2 _ _ eg, Zfo _ _ _⟩, _, ⟨dg, _, S2 _ _ eg, ZfU _ _ _⟩, nl, tl, rfl, ⟨_, SqL.of (S2 _ _ pr.nm)⟩, ⟨_, SqL.of (S2 _ _ pr.rt)⟩, Zpb (xs := ns.map V.str) (ys := (TM.Internal.offs ts 0).map fun k : Nat => V.int (k : Int)) (fun i σ H3 => ∃ (o3 o4 o5 : Option V), σ = [some (.ref g), some (.ref xl), some (.ref dl), o3, o4, o5] /\ Same H H3 /\ H3 xl = some (.lst ((ZjA ts).map V.str)) /\ H3 dl = some (.lst (((dfs ns ts).take i).map V.str))) ⟨none, none, none, rfl, S2, ex2, ed⟩ (fun i σ H3 _ ⟨_, _, _, _, S, _⟩ => ⟨SqL.of (S _ _ pr.nm), SqL.of (S _ _ pr.rt)⟩) (by rw [Zaq, Zaq, TM.Internal.offs_len]; omega) ?_ ?_⟩
 ·rintro i x y σ H3 t hx hy ⟨o3, o4, o5, rfl, S, ex3, ed3⟩ ht
  rw [Zay] at hx hy
  obtain ⟨n, hn, rfl⟩ := ZbN.mp hx
  obtain ⟨k, hk, rfl⟩ := ZbN.mp hy
  obtain ⟨_, tr, htr, hst⟩ := ZiR ts 0 i k hk
  rw [Nat.sub_zero] at hst
  obtain ⟨okt, szt⟩ := Zkf pr.ok htr
  have lst := Zk3 okt (by have := pr.sz; omega)
  have lnn := pr.nn n (Zaz hn)
  have sT := ZcV ht (.tup [.str n, .int (k : Int)])
  refine ⟨t, _, rfl, SqT.of ZcS, rfl, _, _, rfl, _, _, rfl, rfl, ?_⟩
  obtain ⟨l1, l2, l3, l4, l5⟩ := ZgE
  have lE : Str.empty.length = 0 := rfl
  refine ⟨_, sT _ _ ex3, Zdn (v := V.str tr.st) (Zdi (by rw [Zay, hst]; rfl)) ?_⟩
  refine ⟨⟨_, sT _ _ ed3⟩, _, rfl, by rw [Str.length_append, lE, l1]; omega, .inl ⟨n, rfl, by omega, _, rfl, by simp only [Str.length_append, lE, l1]; omega, _, rfl, by simp only [Str.length_append, lE, l1, l2]; omega, .inl ⟨tr.st, rfl, by omega, _, rfl, by simp only [Str.length_append, lE, l1, l2]; omega, _, rfl, by simp only [Str.length_append, lE, l1, l2, l3]; omega, by simp only [Str.length_append, lE, l1, l2, l3]; omega, _, sT _ _ ed3, ?_, ?_⟩⟩⟩
  ·rw [Zaq, Zav]; omega
  ·rw [l5]
   refine ⟨_, _, _, rfl, Ze0 (S.trans sT) h0 _, by rw [Zc1 nd]; exact sT _ _ ex3, ?_⟩
   rw [ZcS, Za7, Zke hn htr]
   simp [dfS]
 ·rintro σ H3 ⟨o3, o4, o5, rfl, S, ex3, ed3⟩
  rw [Zaq, <- dl', ZaR] at ed3
  refine ⟨rfl, "\n", dl, _, rfl, rfl, SqL.of ed3, ?_, q H3 S⟩
  have := Zkg (ZmK pr.ok pr.sz pr.nn ln)
  rw [ZgE.2.2.2.1]
  omega
end
end K04.Internal
namespace K04.Internal
open PySem L2.Internal BO.Internal
seal L2.Internal.PE L2.Internal.PA L2.Internal.PS L2.Internal.PSs L2.Internal.PT L2.Internal.PI
mutual
noncomputable def gF : Dt -> Bool
 | .flat v => (match v with | .int _ => true | .str _ => true | _ => false)
 | .tup ds => decide (ds.length <= 1000) && gFs ds
 | .lst _ => false
noncomputable def gFs : List Dt -> Bool
 | [] => true
 | d :: ds => gF d && gFs ds
end
theorem ZmL : ∀ {l : List Dt} {i : Nat} {d : Dt}, gFs l = true -> l[i]? = some d -> gF d = true
 | a :: l, 0, d, h, e => by cases e; rw [gFs, Zcy] at h; exact h.1
 | a :: l, i + 1, d, h, e => by rw [gFs, Zcy] at h; rw [Za0] at e; exact ZmL h.2 e
theorem Zkh : ∀ {a b : List Dt}, gFs a = true -> gFs b = true -> gFs (a ++ b) = true
 | [], _, _, h => h
 | x :: a, b, h, h' => by rw [gFs, Zcy] at h; rw [Zbg, gFs, h.1, Zkh h.2 h']; rfl
theorem ZmM : ∀ ps : List Nat, gFs (ps.map TM.Internal.kD) = true
 | [] => by rw [ZaF, gFs]
 | k :: ps => by rw [Zap, gFs, ZmM ps]; rfl
theorem Zqx : ∀ l : List (Str × Nat), gFs (l.map fun p => Dt.tup [TM.Internal.sD p.1, TM.Internal.kD p.2]) = true
 | [] => by rw [ZaF, gFs]
 | k :: l => by rw [Zap, gFs, Zqx l]; rfl
theorem Zqy : ∀ l : List ((Str × Str) × Nat), gFs (l.map fun p => Dt.tup [TM.Internal.sD p.1.1, TM.Internal.sD p.1.2, TM.Internal.kD p.2]) = true
 | [] => by rw [ZaF, gFs]
 | k :: l => by rw [Zap, gFs, Zqy l]; rfl
theorem Zgh {ds : List Dt} (h : ds.length <= 1000) (g : gFs ds = true) : gF (.tup ds) = true := by rw [gF, decide_eq_true h, g]; rfl
theorem ZeH {d : Dt} {ds : List Dt} (h : gF d = true) (g : gFs ds = true) : gFs (d :: ds) = true := by rw [gFs, h, g]; rfl
theorem ZrA {κ : TM.Internal.Kn} {ps : List Nat} (hp : ps.length <= 100) : gF (.tup (κ.rw ps)) = true := by
 have lk : (ps.map TM.Internal.kD).length = ps.length := Zaq _
 have k1 := ZmM ps
 have s1 : ∀ s : Str, gF (TM.Internal.sD s) = true := fun s => rfl
 cases κ with
 | num n => rfl
 | name w => rfl
 | fn w => exact Zgh (by show (ps.map TM.Internal.kD).length + 1 + 1 <= 1000; omega) (ZeH (s1 _) (ZeH (s1 _) k1))
 | tag w => exact Zgh (by show (ps.map TM.Internal.kD).length + 1 + 1 <= 1000; omega) (ZeH (s1 _) (ZeH (s1 _) k1))
 | lt w => exact Zgh (by show (ps.map TM.Internal.kD).length + 1 + 1 <= 1000; omega) (ZeH (s1 _) (ZeH (s1 _) k1))
 | get w => exact Zgh (by show (ps.map TM.Internal.kD ++ [TM.Internal.sD w]).length + 1 <= 1000; rw [ZaA, lk]; show ps.length + 1 + 1 <= 1000; omega) (ZeH (s1 _) (Zkh k1 rfl))
 | rcd l => exact Zgh (by show 2 <= 1000; decide) (ZeH (s1 _) (ZeH (Zgh (by rw [Zaq, Zbl]; omega) (Zqx _)) rfl))
 | case l =>
  cases ps with
  | nil => rfl
  | cons p ps =>
   rw [Zan] at hp
   exact Zgh (by show 3 <= 1000; decide) (ZeH (s1 _) (ZeH rfl (ZeH (Zgh (by rw [Zaq, Zbl]; omega) (Zqy _)) rfl)))
 | row m => exact Zgh (by show 2 <= 1000; decide) (ZeH (s1 _) (ZeH (Zgh (by rw [lk]; omega) k1) rfl))
 | op s m => exact Zgh (by show (ps.map TM.Internal.kD).length + 1 <= 1000; omega) (ZeH (s1 _) k1)
section
variable {P : Program} {w : World} {K : PySem.W.Frag} {mg : Str -> Option Value} {base : Heap}
noncomputable def ZjE (n : Nat) : Sp := fun vs H Q _ => ∃ (x y : V) (d : Dt), vs = [x, y] /\ Im H x d /\ Im H y d /\ gF d = true /\ Zgq d < n /\ ∀ H', Same H H' -> Q (.bl true) H'
theorem ZjF (T : Txt K mg) : ∀ n : Nat, ZdK P w K mg base CX0 (n + 1) T.a__law_same T.fd__law_same ["_law_found", "_law_due"] (ZjE n) := by
 intro n
 induction n with
 | zero =>
  refine T.F__law_same.ok ZgW (fun vs H Q E h => ?_) (fun cdv A outer s H vs Q E hr h => ?_)
  ·obtain ⟨x, y, d, rfl, _⟩ := h
   rfl
  obtain ⟨x, y, d, rfl, hx, hy, ho, hd, _⟩ := h
  exact absurd hd (ZbE _)
 | succ n ih =>
  have G__law_same := ih
  refine T.F__law_same.ok ZgW (fun vs H Q E h => ?_) (fun cdv A outer s H vs Q E hr h => ?_)
  ·obtain ⟨x, y, d, rfl, _⟩ := h
   rfl
  obtain ⟨x, y, d, rfl, hx, hy, ho, hd, q⟩ := h
  refine ⟨_, (ZcU (ZdF (ZeB (Zc3 ZdS rfl T.z_isinstance Zdc (ZcR (cv 1) (ZcR (ZeY rfl T.z_tuple ZdJ) ZcT))))
   (ZcU (ZdF (PW.pt (Zik (Zft (ZeB (Zc3 ZdS rfl T.z_isinstance Zdc (ZcR (cv 0) (ZcR (ZeY rfl T.z_tuple ZdJ) ZcT))))) (ZgR (Zdh Znd (Zc3 Zda rfl T.z_len Zeo (ZcR (cv 0) ZcT)) (Zc3 Zda rfl T.z_len Zeo (ZcR (cv 1) ZcT)) (Zdk _)))))
    (ZcW (Zc4 Zii))
    Zc6)
   (ZcW (Zc4 (Zc3 (ZkC rfl) rfl T.z_all ZnR (ZcR (Zgo rfl (Zpj (x := "_law_k") ["_law_found", "_law_due"] [("_law_found", 0, s.heap.objs.size + 1), ("_law_due", 1, s.heap.objs.size + 2)] rfl rfl (by decide +kernel) (by decide +kernel) rfl (by decide +kernel) rfl rfl (by intro p hp; simp only [Zaf, ZaZ, or_false] at hp; rcases hp with rfl | rfl <;> exact ⟨rfl, rfl, rfl, rfl⟩)) (Zgi rfl T.z_range (ZcR (Zc3 Zda rfl T.z_len Zeo (ZcR (cv 1) ZcT)) ZcT)) (fun _ _ _ _ _ => ZeK) (fun _ _ _ _ _ => (Zc7 G__law_same (hr.mono (by omega)) rfl T.m__law_same T.k__law_same T.b__law_same .nil ZdL (ZcR (ZdR ZgU (cv 1) (cv 0) (fun _ _ => rfl)) (ZcR (ZdR ZgU (cv 2) (cv 0) (fun _ _ => rfl)) ZcT))))) ZcT)))))
   Zc6)
  (ZcU (ZdF (ZeB (Zc3 ZdS rfl T.z_isinstance Zdc (ZcR (cv 1) (ZcR (ZeY rfl T.z_str Zhq) ZcT))))
   (ZcW (Zc4 (Zkr (Zc3 ZdS rfl T.z_isinstance Zdc (ZcR (cv 0) (ZcR (ZeY rfl T.z_str Zhq) ZcT))) (Zkq (ZgF ZfD (cv 0) (cv 1) (Zdk _))))))
   Zc6)
  (ZcW (Zc4 (Zkr (Zc3 ZdS rfl T.z_isinstance Zdc (ZcR (cv 0) (ZcR (ZeY rfl T.z_int ZnT) ZcT))) (Zkr (Zps (Zc3 ZdS rfl T.z_isinstance Zdc (ZcR (cv 0) (ZcR (ZeY rfl T.z_bool ZoB) ZcT)))) (Zkq (ZgF ZfD (cv 0) (cv 1) (Zdk _))))))))), ?_⟩
  have sl : sizeLine = 16777216 := sizeLine_eq
  cases hx with
  | flat hv =>
   cases hy with
   | flat _ =>
    cases x with
    | str z =>
     refine ⟨_, _, _, _, false, rfl, fun _ r => r, .str _, rfl, _, rfl, Zeq ⟨_, _, _, _, true, rfl, fun _ r => r, .str _, rfl, _, rfl, ZeI ?_⟩⟩
     refine ⟨_, _, _, _, true, rfl, fun _ r => r, .str _, rfl, _, rfl, ZeI ?_⟩
     show Q (.bl (false ^^ decide (z = z))) H
     rw [decide_eq_true rfl]
     exact q H (Same.refl _)
    | int z =>
     refine ⟨_, _, _, _, false, rfl, fun _ r => r, .int _, rfl, _, rfl, Zeq ⟨_, _, _, _, false, rfl, fun _ r => r, .int _, rfl, _, rfl, Zeq ?_⟩⟩
     refine ⟨_, _, _, _, true, rfl, fun _ r => r, .int _, rfl, _, rfl, ZeI ⟨_, _, _, _, false, rfl, fun _ r => r, .int _, rfl, _, rfl, _, rfl, ZeI ?_⟩⟩
     show Q (.bl (false ^^ decide (z = z))) H
     rw [decide_eq_true rfl]
     exact q H (Same.refl _)
    | _ => simp [gF] at ho
  | @tup a xs ds ha hs =>
   cases hy with
   | @tup b ys _ hb hs' =>
    rw [gF, Zcy, decide_eq_true_eq] at ho
    rw [Zgq] at hd
    have l1 := hs.length
    have l2 := hs'.length
    refine ⟨_, _, _, _, true, rfl, fun _ r => r, .tup hb, rfl, _, rfl, ZeI ?_⟩
    refine ⟨_, _, _, _, true, rfl, fun _ r => r, .tup ha, rfl, _, rfl, Zeq ⟨a, _, rfl, .inr (SqT.of ha), b, _, rfl, .inr (SqT.of hb), ?_⟩⟩
    have el : (xs.length : Int) = (ys.length : Int) := by omega
    show if (true ^^ decide ((xs.length : Int) = (ys.length : Int))) = true then _ else _
    rw [decide_eq_true el]
    refine Zeq ?_
    refine ⟨b, _, rfl, .inr (SqT.of hb), _, rfl, by omega, by omega, fun D hD => ?_⟩
    refine Zi8 ys.length (by omega) (fun zs _ => zs = Zau zs.length (V.bl true)) (fun zs H H' h _ => h) hD rfl (fun k H _ h => by show k < ((ys.length : Nat) : Int).toNat; rw [ZcG]; exact h) (fun H _ => by show ((ys.length : Nat) : Int).toNat <= ys.length; rw [ZcG]; exact Zbz _) rfl ?_ ?_
    ·intro k H2 v H3 zs Z S hk y hz hzl hZ
     obtain ⟨rfl, rfl⟩ := y
     obtain ⟨x', hx'⟩ : ∃ x', xs[k]? = some x' := ⟨_, ZaW (by omega)⟩
     obtain ⟨y', hy'⟩ : ∃ y', ys[k]? = some y' := ⟨_, ZaW (by omega)⟩
     obtain ⟨d1, e1, i1⟩ := ZgD hs hx'
     obtain ⟨d2, e2, i2⟩ := ZgD hs' hy'
     rw [e1] at e2
     cases e2
     have hdd := L2.Internal.depDs_get e1
     have ek : (0 : Int) + (k : Int) = (k : Int) := Int.zero_add _
     refine ⟨_, S _ _ ha, Zdn (v := x') (by rw [ek]; exact Zdi hx') ⟨_, S _ _ hb, Zdn (v := y') (by rw [ek]; exact Zdi hy') ?_⟩⟩
     refine ⟨x', y', d1, rfl, i1.mono (Same.tk S), i2.mono (Same.tk S), ZmL ho.2 e1, by omega, fun H' S' => hZ _ _ S' ?_⟩
     rw [ZaA, ZaL, Zbs, <- hz]
    ·intro H' zs S hz hzl eD
     rw [hz, hzl] at eD
     refine ⟨D, Zau ys.length true, rfl, SqL.of (by rw [eD, List.map_replicate]), ?_⟩
     have e : (Zau ys.length true).all id = true := by simp
     rw [e]
     exact q H' S
end
end K04.Internal
namespace K04.Internal
open PySem L2.Internal BO.Internal
seal L2.Internal.PE L2.Internal.PA L2.Internal.PS L2.Internal.PSs L2.Internal.PT L2.Internal.PI
open GR.Internal (fP Zf6 Zfo ZfU)
section
variable {P : Program} {w : World} {K : PySem.W.Frag} {mg : Str -> Option Value} {base : Heap}
theorem Zki {H : Hp} : ∀ ns : List Str, Ims H (ns.map V.str) (ns.map TM.Internal.sD)
 | [] => .nil
 | n :: ns => .cons (.flat rfl) (Zki ns)
theorem Zkj {H : Hp} : ∀ ps : List Nat, Ims H (ps.map fun k : Nat => V.int (k : Int)) (ps.map TM.Internal.kD)
 | [] => .nil
 | n :: ns => .cons (.flat rfl) (Zkj ns)
theorem Zqz : ∀ ns : List Str, gFs (ns.map TM.Internal.sD) = true
 | [] => by rw [ZaF, gFs]
 | k :: ps => by rw [Zap, gFs, Zqz ps]; rfl
theorem ZqA : ∀ ns : List Str, Zdd (ns.map TM.Internal.sD) = 0
 | [] => by rw [ZaF, Zdd]
 | x :: l => by rw [Zap, Zdd, ZqA l]; rfl
noncomputable def Zlx (C : Addr) : Sp := fun vs H Q _ => ∃ (g dg n t r n' t' r' : Addr) (ns : List Str) (ps : List Nat) (rv rv' : List V) (ds : List Dt), vs = [.ref g, .ref n', .ref t', .ref r'] /\ H g = some (.ins C dg (fP n t r)) /\
 H n = some (.lst (ns.map V.str)) /\ H n' = some (.lst (ns.map V.str)) /\ H t = some (.lst (ps.map fun k : Nat => V.int (k : Int))) /\ H t' = some (.lst (ps.map fun k : Nat => V.int (k : Int))) /\ H r = some (.lst rv) /\ H r' = some (.lst rv') /\ Ims H rv ds /\ Ims H rv' ds /\
 gFs ds = true /\ Zdd ds <= 8 /\ ds.length <= 1000 /\ ns.length <= 1000 /\ ps.length <= 1000 /\ ∀ H', Same H H' -> Q (.bl true) H'
theorem Zly (T : Txt K mg) : ZdK P w K mg base CX0 14 T.a__law_is T.fd__law_is ["_law_found", "_law_names", "_law_roots", "_law_rows"] (Zlx T.a_Program) := by
 have G__law_same := ZjF (P := P) (w := w) (base := base) T 12
 refine T.F__law_is.ok Zif (fun vs H Q E h => ?_) (fun cdv A outer s H vs Q E hr h => ?_)
 ·obtain ⟨g, dg, n, t, r, n', t', r', ns, ps, rv, rv', ds, rfl, _⟩ := h
  rfl
 obtain ⟨g, dg, n, t, r, n', t', r', ns, ps, rv, rv', ds, rfl, eg, en, en', et, et', er, er', ir, ir', gd, dd, ld, ln, lp, q⟩ := h
 refine ⟨_, (ZcU (ZdF (Zft (ZeB (Zc3 ZdS rfl T.z_isinstance Zdc (ZcR (cv 0) (ZcR (Zm3 rfl T.m_Program) ZcT)))))
   (ZcW (Zc4 Zii))
   Zc6)
  (ZcU (ZdF (PW.pt (Zik (Zft (ZeB (Zc3 ZdS rfl T.z_isinstance Zdc (ZcR (ZeX T.cl_Program T.n_Program_names (cv 0)) (ZcR (ZeY rfl T.z_list ZfH) ZcT))))) (Zik (Zft (ZeB (Zc3 ZdS rfl T.z_isinstance Zdc (ZcR (ZeX T.cl_Program T.n_Program_roots (cv 0)) (ZcR (ZeY rfl T.z_list ZfH) ZcT))))) (ZgR (Zft (ZeB (Zc3 ZdS rfl T.z_isinstance Zdc (ZcR (ZeX T.cl_Program T.n_Program_rows (cv 0)) (ZcR (ZeY rfl T.z_list ZfH) ZcT)))))))))
   (ZcW (Zc4 Zii))
   Zc6)
  (ZcU (Zc9 (i := 4) Zif.nd rfl (Or.inl rfl) (Zfn (ZcR (Zdm Zdj rfl T.z_tuple ZdJ (ZcR (ZeX T.cl_Program T.n_Program_names (cv 0)) ZcT)) (ZcR (Zdm Zdj rfl T.z_tuple ZdJ (ZcR (ZeX T.cl_Program T.n_Program_roots (cv 0)) ZcT)) (ZcR (Zdm Zdj rfl T.z_tuple ZdJ (ZcR (ZeX T.cl_Program T.n_Program_rows (cv 0)) ZcT)) ZcT)))))
  (ZcW (Zc4 (Zc7 G__law_same (hr.mono (by decide)) rfl T.m__law_same T.k__law_same T.b__law_same .nil ZdL (ZcR (cv 4) (ZcR (Zfn (ZcR (Zdm Zdj rfl T.z_tuple ZdJ (ZcR (cv 1) ZcT)) (ZcR (Zdm Zdj rfl T.z_tuple ZdJ (ZcR (cv 2) ZcT)) (ZcR (Zdm Zdj rfl T.z_tuple ZdJ (ZcR (cv 3) ZcT)) ZcT)))) ZcT)))))))), ?_⟩
 have sl : sizeLine = 16777216 := sizeLine_eq
 refine ⟨_, _, .ref T.a_Program, .ref T.a_Program, true, rfl, (fun _ h => h), T.ty_Program _ _ _ _ eg, T.i_Program_Program, _, rfl, Zeq ?_⟩
 refine ⟨_, ⟨dg, _, eg, Zfo _ _ _⟩, _, _, _, _, true, rfl, fun _ r => r, .lst en, rfl, _, rfl, Zeq ⟨_, ⟨dg, _, eg, ZfU _ _ _⟩, _, _, _, _, true, rfl, fun _ r => r, .lst et, rfl, _, rfl, Zeq ⟨_, ⟨dg, _, eg, Zf6 _ _ _⟩, _, _, _, _, true, rfl, fun _ r => r, .lst er, rfl, _, rfl, Zeq ?_⟩⟩⟩
 refine ⟨_, ⟨dg, _, eg, Zfo _ _ _⟩, n, _, rfl, .inl ⟨SqL.of en, fun a1 h1 => ?_⟩⟩
 have s1 := ZcV h1 (.tup (ns.map V.str))
 have e1 : (upd H a1 (.tup (ns.map V.str))) a1 = some (.tup (ns.map V.str)) := ZcS
 generalize upd H a1 (.tup (ns.map V.str)) = H1 at s1 e1 ⊢
 refine ⟨_, ⟨dg, _, s1 _ _ eg, ZfU _ _ _⟩, t, _, rfl, .inl ⟨SqL.of (s1 _ _ et), fun a2 h2 => ?_⟩⟩
 have s2 := ZcV h2 (.tup (ps.map fun k : Nat => V.int (k : Int)))
 have e2 : (upd H1 a2 (.tup (ps.map fun k : Nat => V.int (k : Int)))) a2 = some (.tup (ps.map fun k : Nat => V.int (k : Int))) := ZcS
 have t2 := s1.trans s2
 generalize upd H1 a2 (.tup (ps.map fun k : Nat => V.int (k : Int))) = H2 at s2 t2 e2 ⊢
 refine ⟨_, ⟨dg, _, t2 _ _ eg, Zf6 _ _ _⟩, r, _, rfl, .inl ⟨SqL.of (t2 _ _ er), fun a3 h3 => ?_⟩⟩
 have s3 := ZcV h3 (.tup rv)
 have e3 : (upd H2 a3 (.tup rv)) a3 = some (.tup rv) := ZcS
 have t3 := t2.trans s3
 generalize upd H2 a3 (.tup rv) = H3 at s3 t3 e3 ⊢
 refine ⟨(by show 3 <= sizeLine; decide), fun p hp => ?_⟩
 have s4 := ZcV hp (.tup [.ref a1, .ref a2, .ref a3])
 have e4 : (upd H3 p (.tup [.ref a1, .ref a2, .ref a3])) p = some (.tup [.ref a1, .ref a2, .ref a3]) := ZcS
 have t4 := t3.trans s4
 dsimp only [Zeb]
 generalize upd H3 p (.tup [.ref a1, .ref a2, .ref a3]) = H4 at s4 t4 e4 ⊢
 refine ⟨n', _, rfl, .inl ⟨SqL.of (t4 _ _ en'), fun b1 g1 => ?_⟩⟩
 have s5 := ZcV g1 (.tup (ns.map V.str))
 have e5 : (upd H4 b1 (.tup (ns.map V.str))) b1 = some (.tup (ns.map V.str)) := ZcS
 have t5 := t4.trans s5
 generalize upd H4 b1 (.tup (ns.map V.str)) = H5 at s5 t5 e5 ⊢
 refine ⟨t', _, rfl, .inl ⟨SqL.of (t5 _ _ et'), fun b2 g2 => ?_⟩⟩
 have s6 := ZcV g2 (.tup (ps.map fun k : Nat => V.int (k : Int)))
 have e6 : (upd H5 b2 (.tup (ps.map fun k : Nat => V.int (k : Int)))) b2 = some (.tup (ps.map fun k : Nat => V.int (k : Int))) := ZcS
 have t6 := t5.trans s6
 generalize upd H5 b2 (.tup (ps.map fun k : Nat => V.int (k : Int))) = H6 at s6 t6 e6 ⊢
 refine ⟨r', _, rfl, .inl ⟨SqL.of (t6 _ _ er'), fun b3 g3 => ?_⟩⟩
 have s7 := ZcV g3 (.tup rv')
 have e7 : (upd H6 b3 (.tup rv')) b3 = some (.tup rv') := ZcS
 have t7 := t6.trans s7
 generalize upd H6 b3 (.tup rv') = H7 at s7 t7 e7 ⊢
 refine ⟨(by show 3 <= sizeLine; decide), fun p2 hp2 => ?_⟩
 have s8 := ZcV hp2 (.tup [.ref b1, .ref b2, .ref b3])
 have e8 : (upd H7 p2 (.tup [.ref b1, .ref b2, .ref b3])) p2 = some (.tup [.ref b1, .ref b2, .ref b3]) := ZcS
 have t8 := t7.trans s8
 generalize upd H7 p2 (.tup [.ref b1, .ref b2, .ref b3]) = H8 at s8 t8 e8 ⊢
 have u78 := s7.trans s8
 have u68 := s6.trans u78
 have u58 := s5.trans u68
 have u48 := s4.trans u58
 have u38 := s3.trans u48
 have u28 := s2.trans u38
 refine ⟨.ref p, .ref p2, .tup [.tup (ns.map TM.Internal.sD), .tup (ps.map TM.Internal.kD), .tup ds], rfl, ?_, ?_, ?_, ?_, fun H' S' => q H' (t8.trans S')⟩
 ·exact .tup (u58 _ _ e4) (.cons (.tup (u28 _ _ e1) (Zki ns)) (.cons (.tup (u38 _ _ e2) (Zkj ps)) (.cons (.tup (u48 _ _ e3) (ir.mono (Same.tk t8))) .nil)))
 ·exact .tup e8 (.cons (.tup (u68 _ _ e5) (Zki ns)) (.cons (.tup (u78 _ _ e6) (Zkj ps)) (.cons (.tup (s8 _ _ e7) (ir'.mono (Same.tk t8))) .nil)))
 ·exact Zgh (by show 3 <= 1000; decide) (ZeH (Zgh (by rw [Zaq]; omega) (Zqz ns)) (ZeH (Zgh (by rw [Zaq]; omega) (ZmM ps)) (ZeH (Zgh (by omega) gd) rfl)))
 ·have d1 := ZqA ns
  have d2 := (okk ps).2
  rw [Zgq, Zdd, Zdd, Zdd, Zdd, Zgq, Zgq, Zgq, d1, d2]
  omega
end
end K04.Internal
namespace K04.Internal
open PySem L2.Internal BO.Internal
seal L2.Internal.PE L2.Internal.PA L2.Internal.PS L2.Internal.PSs L2.Internal.PT L2.Internal.PI
open GR.Internal (Op Gp toks ZfY Zep Zc8 isName WOk TAt Zfl)
noncomputable def dtk (n : Str) (t : TM.Internal.Tr) : List Str := ("(" : Str) :: "def" :: n :: (t.tk ++ [(")" : Str)])
noncomputable def ZjH : List Str -> List TM.Internal.Tr -> List Str
 | n :: ns, t :: ts => dtk n t ++ ZjH ns ts
 | _, _ => []
theorem Zk4 : ∀ {ns : List Str} {ts : List TM.Internal.Tr}, ns.length = ts.length -> (∀ n ∈ ns, isName n = true) -> TM.Internal.oks ts -> (∀ t ∈ ts, t.nest <= 24) -> ∀ (rows : List Dt) (names : List Str) (roots : List Dt), rows.length + TM.Internal.szs ts <= 160 ->
  Zep (ZjH ns ts) rows names roots = some (names ++ ns, roots ++ (TM.Internal.offs ts rows.length).map TM.Internal.kD, rows ++ TM.Internal.rws ts rows.length)
 | [], [], _, _, _, _, rows, names, roots, _ => by
  show Zep [] rows names roots = _
  rw [GR.Internal.defs_nil, TM.Internal.offs, TM.Internal.rws, Zar, ZaF, Zar, Zar]
 | n :: ns, t :: ts, hl, hn, ho, hd, rows, names, roots, hz => by
  rw [TM.Internal.oks] at ho
  rw [TM.Internal.szs] at hz
  have e := TM.Internal.rd_all 24 t ho.1 (hd t Zad) ((")" : Str) :: ZjH ns ts) rows (by omega)
  have lr : (rows ++ t.rw rows.length).length = rows.length + t.sz := by rw [ZaA, TM.Internal.Tr.rw_len]
  have h1 : ZjH (n :: ns) (t :: ts) = ("(" : Str) :: "def" :: n :: (t.tk ++ (")" : Str) :: ZjH ns ts) := by
   show dtk n t ++ ZjH ns ts = _
   unfold dtk
   rw [Zbg, Zbg, Zbg, ZaK]
   rfl
  rw [h1, GR.Internal.defs_yes (hn n Zad) e, Zk4 (by simpa using hl) (fun x hx => hn x (Zae _ hx)) ho.2 (fun x hx => hd x (Zae _ hx)) _ _ _ (by rw [lr]; omega), lr, TM.Internal.offs, TM.Internal.rws, Zap, ZaK, ZaK, ZaK]
  rfl
theorem ZnI {ns : List Str} {ts : List TM.Internal.Tr} (hl : ns.length = ts.length) (hn : ∀ n ∈ ns, isName n = true) (ho : TM.Internal.oks ts) (hd : ∀ t ∈ ts, t.nest <= 24) (hz : TM.Internal.szs ts <= 160) (h1 : 1 <= ns.length) (h12 : ns.length <= 12) : ZfY (ZjH ns ts) = some (ns, (TM.Internal.offs ts 0).map TM.Internal.kD, TM.Internal.rws ts 0) := by
 unfold ZfY
 rw [Zk4 hl hn ho hd [] [] [] (by rw [Zba, ZbI]; exact hz)]
 show (if 1 <= ([] ++ ns).length /\ ([] ++ ns).length <= 12 then _ else _) = _
 rw [ZaM, if_pos ⟨h1, h12⟩]
 rfl
theorem ZrB : Gp "(def " ["(", "def"] := by unfold Gp; decide +kernel
theorem ZqB {n : Str} {t : TM.Internal.Tr} (hn : isName n = true) (ho : t.ok) : Gp (dfS n t.st) (dtk n t) /\ wt (dfS n t.st) <= 40 + 100 * t.sz /\ (dtk n t).length <= 4 + 8 * t.sz /\ ∀ w ∈ dtk n t, okW w := by
 have kg := ZqQ t ho
 have gn := ZfB hn
 have hwt : wt "(def " = 12 := by decide +kernel
 have okd : okW "def" := by unfold okW; decide +kernel
 refine ⟨?_, ?_, ?_, fun w hw => ?_⟩
 ·have := ((ZrB.app_op gn.op).gap.app_op kg.op).close
  exact this
 ·have h1 := gn.wt
  have h2 := kg.wt
  unfold dfS
  rw [Zf3, Zf3, Zf3, Zf3, hwt, ZmI.1, ZmI.2.2]
  omega
 ·have := kg.ln
  unfold dtk
  rw [Zan, Zan, Zan, ZaA, ZaL]
  omega
 ·unfold dtk at hw
  rcases Zaf.mp hw with e | hw
  ·rw [e]; exact ZnH.1
  ·rcases Zaf.mp hw with e | hw
   ·rw [e]; exact okd
   ·rcases Zaf.mp hw with e | hw
    ·rw [e]; exact gn.ok n (ZaU.mpr rfl)
    ·rcases Zag.mp hw with hw | hw
     ·exact kg.ok w hw
     ·rw [ZaU.mp hw]; exact ZnH.2
theorem ZrC {x : Str} {ts : List Str} (h : Gp x ts) : Gp (x ++ "\n") ts := by
 have e : (x ++ "\n").cps.toList = x.cps.toList ++ [10] := Zd3 x "\n"
 unfold Gp at *
 rw [e, T1.W_gap _ (.inr rfl)]
 refine ⟨rfl, ?_⟩
 have h2 : T1.all (T1.W x.cps.toList) = (T1.W x.cps.toList).1 := by unfold T1.all; rw [if_pos h.1]
 show (T1.all (T1.W x.cps.toList)).map _ = ts
 rw [h2]
 exact h.2
theorem ZrD : wt "\n" = 1 := by decide +kernel
theorem Zoh : ∀ {ns : List Str} {ts : List TM.Internal.Tr}, ns.length = ts.length -> (∀ n ∈ ns, isName n = true) -> TM.Internal.oks ts -> Gp (wr ns ts) (ZjH ns ts) /\ wt (wr ns ts) <= 41 * ns.length + 100 * TM.Internal.szs ts /\ (ZjH ns ts).length <= 4 * ns.length + 8 * TM.Internal.szs ts /\ ∀ w ∈ ZjH ns ts, okW w
 | [], [], _, _, _ => ⟨by unfold Gp; decide +kernel, ZbA _, ZbA _, fun w hw => by cases hw⟩
 | [n], [t], _, hn, ho => by
  rw [TM.Internal.oks] at ho
  obtain ⟨a, b, c, d⟩ := ZqB (hn n Zad) ho.1
  have e1 : ZjH [n] [t] = dtk n t := by show dtk n t ++ [] = _; rw [Zar]
  rw [e1, TM.Internal.szs, TM.Internal.szs]
  exact ⟨a, by show wt (dfS n t.st) <= 41 * 1 + _; omega, by show _ <= 4 * 1 + _; omega, d⟩
 | n :: n' :: ns, t :: t' :: ts, hl, hn, ho => by
  have ho' := ho
  rw [TM.Internal.oks] at ho'
  obtain ⟨a, b, c, d⟩ := ZqB (hn n Zad) ho'.1
  obtain ⟨a', b', c', d'⟩ := Zoh (ns := n' :: ns) (ts := t' :: ts) (by simpa using hl) (fun x hx => hn x (Zae _ hx)) ho'.2
  have e1 : ZjH (n :: n' :: ns) (t :: t' :: ts) = dtk n t ++ ZjH (n' :: ns) (t' :: ts) := rfl
  have e2 : wr (n :: n' :: ns) (t :: t' :: ts) = dfS n t.st ++ "\n" ++ wr (n' :: ns) (t' :: ts) := rfl
  rw [e1, e2, TM.Internal.szs]
  refine ⟨(ZrC a).app a', ?_, ?_, fun w hw => ?_⟩
  ·rw [Zf3, Zf3, ZrD, Zan]
   omega
  ·rw [ZaA, Zan]
   omega
  ·rcases Zag.mp hw with hw | hw
   ·exact d w hw
   ·exact d' w hw
theorem ZqC {ws : List Str} (hl : ws.length <= 30000) (h : ∀ w ∈ ws, okW w) : WOk ws := ⟨hl, fun x hx => by
 obtain ⟨a, b, c⟩ := h x hx
 exact ⟨a, by omega, fun k hk => by have := c k hk; omega⟩⟩
theorem ZqD {x y : Str} (h : T1.W y.cps.toList = T1.W x.cps.toList) : toks y = toks x := by unfold toks; rw [h]
mutual
theorem ZqE {K : PySem.W.Frag} {H : Hp} : ∀ {x : V} {d : Dt}, TAt K H x d -> gF d = true -> Im H x d
 | _, _, .flat h, g => .flat (by
   rename_i v
   cases v with
   | int n => rfl
   | str z => rfl
   | _ => simp [gF] at g)
 | _, _, .tup h hs, g => by
  rw [gF, Zcy] at g
  exact .tup h (ZfX hs g.2)
theorem ZfX {K : PySem.W.Frag} {H : Hp} : ∀ {xs : List V} {ds : List Dt}, Zfl K H xs ds -> gFs ds = true -> Ims H xs ds
 | _, _, .nil, _ => .nil
 | _, _, .cons h t, g => by
  rw [gFs, Zcy] at g
  exact .cons (ZqE h g.1) (ZfX t g.2)
end
mutual
theorem ZqF {H : Hp} : ∀ {x : V} {d : Dt}, Dta H x d -> gF d = true -> Im H x d
 | _, _, .flat h, _ => .flat h
 | _, _, .tup h hs, g => by
  rw [gF, Zcy] at g
  exact .tup h (Zhe hs g.2)
 | _, _, .lst h hs, g => by rw [gF] at g; cases g
theorem Zhe {H : Hp} : ∀ {xs : List V} {ds : List Dt}, Zfu H xs ds -> gFs ds = true -> Ims H xs ds
 | _, _, .nil, _ => .nil
 | _, _, .cons h t, g => by
  rw [gFs, Zcy] at g
  exact .cons (ZqF h g.1) (Zhe t g.2)
end
theorem Zpd {H : Hp} : ∀ {ps : List Nat} {xs : List V}, Ims H xs (ps.map TM.Internal.kD) -> xs = ps.map fun k : Nat => V.int (k : Int)
 | [], xs, h => by cases h; rfl
 | p :: ps, xs, h => by
  rw [Zap, TM.Internal.kD] at h
  cases h with
  | cons h t =>
   cases h
   rw [Zpd t]
   rfl
theorem ZrE {κ : TM.Internal.Kn} {ks : List TM.Internal.Tr} (h : (TM.Internal.Tr.mk κ ks).ok) : ks.length <= 100 := by
 rw [TM.Internal.Tr.ok] at h
 obtain ⟨h1, h2, _⟩ := h
 rw [h2]
 cases κ with
 | rcd l => have : l.length <= 6 := h1.1; show l.length <= 100; omega
 | case l => have : l.length <= 6 := h1.2.1; show l.length + 1 <= 100; omega
 | row m => have : m <= 8 := h1; show m <= 100; omega
 | op s m => have : m <= 3 := (Zn8 (s, m) h1).2; show m <= 100; omega
 | num n => show 0 <= 100; omega
 | name w => show 0 <= 100; omega
 | fn w => show 1 <= 100; omega
 | tag w => show 1 <= 100; omega
 | lt w => show 2 <= 100; omega
 | get w => show 1 <= 100; omega
mutual
theorem g_rw : ∀ (t : TM.Internal.Tr) (p : Nat), t.ok -> gFs (t.rw p) = true
 | .mk κ ks, p, h => by
  have hl := ZrE h
  rw [TM.Internal.Tr.ok] at h
  rw [TM.Internal.Tr.rw]
  exact ZeH (ZrA (by rw [TM.Internal.offs_len]; exact hl)) (ZjG ks (p + 1) h.2.2)
theorem ZjG : ∀ (ts : List TM.Internal.Tr) (p : Nat), TM.Internal.oks ts -> gFs (TM.Internal.rws ts p) = true
 | [], p, _ => by rw [TM.Internal.rws, gFs]
 | t :: ts, p, h => by
  rw [TM.Internal.oks] at h
  rw [TM.Internal.rws]
  exact Zkh (g_rw t p h.1) (ZjG ts _ h.2)
end
end K04.Internal
namespace K04.Internal
open PySem L2.Internal BO.Internal
seal L2.Internal.PE L2.Internal.PA L2.Internal.PS L2.Internal.PSs L2.Internal.PT L2.Internal.PI
open GR.Internal (fP Zf6 Zfo ZfU TAt Zfl isName ZfY)
theorem Zkk : ∀ a b : List TM.Internal.Tr, TM.Internal.szs (a ++ b) = TM.Internal.szs a + TM.Internal.szs b
 | [], b => by rw [ZaM, TM.Internal.szs, ZbI]
 | x :: a, b => by rw [Zbg, TM.Internal.szs, TM.Internal.szs, Zkk a b, ZbK]
theorem ZmN : ∀ (a b : List TM.Internal.Tr) (p : Nat), TM.Internal.rws (a ++ b) p = TM.Internal.rws a p ++ TM.Internal.rws b (p + TM.Internal.szs a)
 | [], b, p => by rw [ZaM, TM.Internal.rws, TM.Internal.szs]; rfl
 | x :: a, b, p => by rw [Zbg, TM.Internal.rws, TM.Internal.rws, TM.Internal.szs, ZmN a b, ZaK, ZbK]
theorem Zk5 : ∀ (a b : List TM.Internal.Tr) (p : Nat), TM.Internal.offs (a ++ b) p = TM.Internal.offs a p ++ TM.Internal.offs b (p + TM.Internal.szs a)
 | [], b, p => by rw [ZaM, TM.Internal.offs, TM.Internal.szs]; rfl
 | x :: a, b, p => by rw [Zbg, TM.Internal.offs, TM.Internal.offs, TM.Internal.szs, Zk5 a b, Zbg, ZbK]
theorem ZmO : ∀ {a : List Str} {b : List TM.Internal.Tr} {c : List Str} {d : List TM.Internal.Tr}, a.length = b.length -> dfs (a ++ c) (b ++ d) = dfs a b ++ dfs c d
 | [], [], c, d, _ => rfl
 | n :: a, t :: b, c, d, h => by rw [Zbg, Zbg, dfs, dfs, ZmO (by simpa using h)]; rfl
theorem Gw.same {F H H' : Hp} (s : Same F H) (t : Same H H') : Gw F H F H' := ⟨Same.refl _, s.trans t, fun _ _ _ h => h, fun _ o e => ⟨o, t _ _ e⟩⟩
theorem ZmP : ∀ ms : List (Str × TM.Internal.Tr), tot ms = TM.Internal.szs (ms.map Prod.snd)
 | [] => by rw [tot, ZaF, TM.Internal.szs]
 | p :: ms => by rw [tot, ZmP ms, Zap, TM.Internal.szs]
theorem Zoi : ∀ {ms : List (Str × TM.Internal.Tr)}, (∀ p ∈ ms, GdM p) -> TM.Internal.oks (ms.map Prod.snd)
 | [], _ => by rw [ZaF, TM.Internal.oks]; trivial
 | p :: ms, h => by rw [Zap, TM.Internal.oks]; exact ⟨(h p Zad).2.1, Zoi fun x hx => h x (Zae _ hx)⟩
theorem Zkl : ∀ a b : List Dt, Zdd (a ++ b) = max (Zdd a) (Zdd b)
 | [], b => by rw [ZaM, Zdd]; omega
 | x :: a, b => by rw [Zbg, Zdd, Zdd, Zkl a b]; omega
theorem Zpe (κ : TM.Internal.Kn) (ps : List Nat) : Zgq (.tup (κ.rw ps)) <= 3 := by
 have k2 := (okk ps).2
 have sd : ∀ s : Str, Zgq (TM.Internal.sD s) = 0 := fun s => by rw [TM.Internal.sD, Zgq]
 have kd : ∀ k : Nat, Zgq (TM.Internal.kD k) = 0 := fun s => by rw [TM.Internal.kD, Zgq]
 rw [Zgq]
 cases κ with
 | num n => show Zdd [TM.Internal.sD "num", .flat (.int n)] + 1 <= 3; rw [Zdd, Zdd, Zdd, sd, Zgq]; decide
 | name w => show Zdd [TM.Internal.sD "name", TM.Internal.sD w] + 1 <= 3; rw [Zdd, Zdd, Zdd, sd, sd]; decide
 | fn w => show Zdd (TM.Internal.sD "fn" :: TM.Internal.sD w :: ps.map TM.Internal.kD) + 1 <= 3; rw [Zdd, Zdd, k2, sd, sd]; decide
 | tag w => show Zdd (TM.Internal.sD "tag" :: TM.Internal.sD w :: ps.map TM.Internal.kD) + 1 <= 3; rw [Zdd, Zdd, k2, sd, sd]; decide
 | lt w => show Zdd (TM.Internal.sD "let" :: TM.Internal.sD w :: ps.map TM.Internal.kD) + 1 <= 3; rw [Zdd, Zdd, k2, sd, sd]; decide
 | get w => show Zdd (TM.Internal.sD "get" :: (ps.map TM.Internal.kD ++ [TM.Internal.sD w])) + 1 <= 3; rw [Zdd, Zkl, k2, Zdd, Zdd, sd, sd]; decide
 | rcd l =>
  have := (ok1 (l.zip ps)).2
  show Zdd [TM.Internal.sD "rec", .tup ((l.zip ps).map fun p => .tup [TM.Internal.sD p.1, TM.Internal.kD p.2])] + 1 <= 3
  rw [Zdd, Zdd, Zdd, sd, Zgq]
  omega
 | case l =>
  cases ps with
  | nil => show Zdd [] + 1 <= 3; rw [Zdd]; decide
  | cons p ps =>
   have := (ok2 (l.zip ps)).2
   show Zdd [TM.Internal.sD "case", TM.Internal.kD p, .tup ((l.zip ps).map fun p => .tup [TM.Internal.sD p.1.1, TM.Internal.sD p.1.2, TM.Internal.kD p.2])] + 1 <= 3
   rw [Zdd, Zdd, Zdd, Zdd, sd, kd, Zgq]
   omega
 | row m => show Zdd [TM.Internal.sD "row", .tup (ps.map TM.Internal.kD)] + 1 <= 3; rw [Zdd, Zdd, Zdd, sd, Zgq, k2]; decide
 | op s m => show Zdd (TM.Internal.sD s :: ps.map TM.Internal.kD) + 1 <= 3; rw [Zdd, k2, sd]; decide
mutual
theorem ZqG : ∀ (t : TM.Internal.Tr) (p : Nat), Zdd (t.rw p) <= 3
 | .mk κ ks, p => by
  have h1 := Zpe κ (TM.Internal.offs ks (p + 1))
  have h2 := Zkm ks (p + 1)
  rw [TM.Internal.Tr.rw, Zdd]
  omega
theorem Zkm : ∀ (ts : List TM.Internal.Tr) (p : Nat), Zdd (TM.Internal.rws ts p) <= 3
 | [], p => by rw [TM.Internal.rws, Zdd]; omega
 | t :: ts, p => by
  have h1 := ZqG t p
  have h2 := Zkm ts (p + t.sz)
  rw [TM.Internal.rws, Zkl]
  omega
end
theorem pig {α : Type} [DecidableEq α] : ∀ {l m : List α}, l.Nodup -> (∀ x ∈ l, x ∈ m) -> l.length <= m.length
 | [], m, _, _ => ZbA _
 | x :: l, m, hn, h => by
  rw [Zas] at hn
  have hx := h x Zad
  have ih := pig (l := l) (m := m.erase x) hn.2 fun y hy => by
   have hne : y ≠ x := fun z => hn.1 (by rw [<- z]; exact hy)
   exact (List.mem_erase_of_ne hne).mpr (h y (Zae _ hy))
  rw [List.length_erase_of_mem hx] at ih
  have : 1 <= m.length := List.length_pos_of_mem hx
  rw [Zan]
  omega
noncomputable def wS (v : V) : Str := match v with
 | .str z => "w" ++ z
 | _ => ""
noncomputable def sgs : List V := ("abcdefghijklmn" : Str).cps.toList.map fun c => V.str ⟨#[c]⟩
theorem ZgY : (sgs.map wS).Nodup /\ (sgs.map wS).length = 14 /\ sgs.length = 14 /\ ("abcdefghijklmn" : Str).cps.size = 14 /\ ∀ y ∈ sgs.map wS, y.length <= 100 := by decide +kernel
theorem ZnJ {ns : List Str} (h : ns.length <= 12) : ∃ v r, sgs.filter (fun v => !inV (.str (wS v)) (ns.map V.str)) = v :: r /\ (wS v).length <= 100 := by
 cases e : sgs.filter (fun v => !inV (.str (wS v)) (ns.map V.str)) with
 | cons v r =>
  have : v ∈ sgs.filter (fun v => !inV (.str (wS v)) (ns.map V.str)) := by rw [e]; exact Zad
  exact ⟨v, r, rfl, ZgY.2.2.2.2 _ (Zbq (Zab.mp this).1)⟩
 | nil =>
  have h2 := pig ZgY.1 (m := ns) fun y hy => by
   obtain ⟨v, hv, rfl⟩ := ZaX.mp hy
   cases hb : inV (.str (wS v)) (ns.map V.str) with
   | true => exact Zj1 hb
   | false =>
    have : v ∈ sgs.filter (fun v => !inV (.str (wS v)) (ns.map V.str)) := Zab.mpr ⟨hv, by rw [hb]; rfl⟩
    rw [e] at this
    cases this
  rw [ZgY.2.1] at h2
  omega
section
variable {P : Program} {w : World} {K : PySem.W.Frag} {mg : Str -> Option Value} {base : Heap}
theorem ZqH {f : Addr} {fd : FuncData} (T : Txt K mg) (F : Fun K "law" "law" ZhQ f fd)
  (G_read : ZdK P w K mg base (CXE P w) 126 T.a_read T.fd_read ["text"] (Zmu K T.a_Program T.a_BadText)) : ZdK P w K mg base CX0 150 f fd ["_law_script"] (Zjl K) := by
 have G__law_trees := ZiK (P := P) (w := w) (base := base) T
 have G__law_place := Zgy (P := P) (w := w) (base := base) T 24
 have G__law_plain := ZiQ (P := P) (w := w) (base := base) T 97
 have G__law_spread := ZhX (P := P) (w := w) (base := base) T
 have G__law_is := Zly (P := P) (w := w) (base := base) T
 have G_written := Zlw (P := P) (w := w) (base := base) T
 have G_Program___init__ := Zfj (P := P) (w := w) (base := base) T
 refine F.ok Zfw (fun vs H Q E h => ?_) (fun cdv A outer s H vs Q E hr h => ?_)
 ·obtain ⟨a, ns, rfl, _⟩ := h
  rfl
 obtain ⟨ad, ks, rfl, hsq, hlen, q⟩ := h
 refine ⟨_, (ZcU (Zc9 (i := 1) Zfw.nd rfl (Or.inl rfl) (Zc7 G__law_trees (hr.mono (by decide)) rfl T.m__law_trees T.k__law_trees T.b__law_trees .nil ZdL (ZcR (cv 0) ZcT)))
  (ZcU (Zc9 (i := 2) Zfw.nd rfl (Or.inl rfl) (Zdl ZcT))
  (ZcU (Zc9 (i := 3) Zfw.nd rfl (Or.inl rfl) (Zdl ZcT))
  (ZcU (Zc9 (i := 4) Zfw.nd rfl (Or.inl rfl) (Zdl ZcT))
  (ZcU (ZfZ PassesOwn.never rfl (Ze4 (cv 1)) (Zp2 rfl (Zg4 (ZeW (i := 5) Zfw.nd rfl (Or.inl rfl)) (Zg4 (ZeW (i := 6) Zfw.nd rfl (Or.inl rfl)) ZlG)))
   (ZcU (Zdw (Ze5 (ZeD Zcr Zcs Zct Zdr (PE.mono (cv 3)) (ZcR (PE.mono (Zc7 G__law_place (hr.mono (by decide)) rfl T.m__law_place T.k__law_place T.b__law_place .nil ZdL (ZcR (cv 6) (ZcR (cv 2) ZcT)))) ZcT))))
   (ZcW (Zdw (Ze5 (ZeD Zcr Zcs Zct Zdr (PE.mono (cv 4)) (ZcR (PE.mono (Zde ZdH (Zde ZdH (Zde ZdH (Zde ZdH Zc0 (cv 5)) Zc0) (Zc7 G__law_plain (hr.mono (by decide)) rfl T.m__law_plain T.k__law_plain T.b__law_plain .nil ZdL (ZcR (cv 6) ZcT))) Zc0)) ZcT)))))))
  (ZcU (Zc9 (i := 7) Zfw.nd rfl (Or.inr rfl) (Zgo rfl (ZnU (x := "_law_pair") rfl (by decide +kernel) (by decide +kernel) rfl rfl) (Ze4 (cv 1)) (fun _ _ _ _ _ => ZeK) (fun _ _ _ _ _ => (ZdR Zdt (cv 0) ZcZ (fun _ _ => rfl)))))
  (ZcU (Zc9 (i := 8) Zfw.nd rfl (Or.inl rfl) (ZeD Zcq Zcu Zcv Zf5 Zc0 (ZcR (cv 4) ZcT)))
  (ZcU (Zc9 (i := 9) Zfw.nd rfl (Or.inl rfl) (Zc7 G_read (hr.mono (by decide)) rfl T.m_read T.k_read T.b_read .nil ZpT (ZcR (Zc7 G__law_spread (hr.mono (by decide)) rfl T.m__law_spread T.k__law_spread T.b__law_spread .nil ZdL (ZcR (cv 8) (ZcR (Zc3 (Zmb rfl) rfl T.z_sum ZnS (ZcR (Zg6 ZjR (cv 0) Ziq (Zir ZcZ)) ZcT)) ZcT))) ZcT)))
  (ZcU (ZdF (Zft (ZeB (Zc7 G__law_is (hr.mono (by decide)) rfl T.m__law_is T.k__law_is T.b__law_is .nil ZdL (ZcR (cv 9) (ZcR (cv 7) (ZcR (cv 3) (ZcR (cv 2) ZcT)))))))
   (ZcW (Zc4 Zii))
   Zc6)
  (ZcU (Zc9 (i := 10) Zfw.nd rfl (Or.inl rfl) (Zc7 G_written (hr.mono (by decide)) rfl T.m_written T.k_written T.b_written .nil ZdL (ZcR (cv 9) ZcT)))
  (ZcU (ZdF (PW.pt (Zik (Zft (ZeB (Zc3 ZdS rfl T.z_isinstance Zdc (ZcR (cv 10) (ZcR (ZeY rfl T.z_str Zhq) ZcT))))) (ZgR (Zdh Znd (cv 10) (cv 8) (Zdk _)))))
   (ZcW (Zc4 Zii))
   Zc6)
  (ZcU (ZdF (Zdh Znd (Zc7 G_written (hr.mono (by decide)) rfl T.m_written T.k_written T.b_written .nil ZdL (ZcR (ZjO T.mk_Program G_Program___init__ (hr.mono (by decide)) rfl T.m_Program T.b_Program___init__ .nil ZdL (ZcR (Zdm ZfG rfl T.z_list ZfH (ZcR (cv 7) ZcT)) (ZcR (Zdm ZfG rfl T.z_list ZfH (ZcR (cv 3) ZcT)) (ZcR (Zdm ZfG rfl T.z_list ZfH (ZcR (cv 2) ZcT)) ZcT)))) ZcT)) (cv 8) (Zdk _))
   (ZcW (Zc4 Zii))
   Zc6)
  (ZcU (Zc9 (i := 11) Zfw.nd rfl (Or.inl rfl) (ZdR Zdt (Zgo rfl (Zpj (x := "_law_sign") ["_law_names"] [("_law_names", 7, s.heap.objs.size + 1)] rfl rfl (by decide +kernel) (by decide +kernel) rfl (by decide +kernel) rfl rfl (by intro p hp; simp only [Zaf, ZaZ, or_false] at hp; rcases hp with rfl <;> exact ⟨rfl, rfl, rfl, rfl⟩)) (Zl5 Zc0) (fun _ _ _ _ _ => (Zl6 (Zdh (show OpR _ (compareOp .NotIn) (rIn K true) from Zi2) (Zde ZdH Zc0 (cv 0)) (cv 1) rfl))) (fun _ _ _ _ _ => (Zde ZdH Zc0 (cv 0)))) ZcZ (fun _ _ => rfl)))
  (ZcU (Zkt (cv 11) (Zks (ZeX T.cl_Program T.n_Program_names (cv 9)) ZcZ Zg7))
  (ZcU (Zc9 (i := 12) Zfw.nd rfl (Or.inl rfl) (Zde Zho (Zdl (ZcR (Zde ZdH (Zde ZdH (Zde ZdH (Zde ZdH Zc0 (cv 11)) Zc0) (Zc7 G__law_plain (hr.mono (by decide)) rfl T.m__law_plain T.k__law_plain T.b__law_plain .nil ZdL (ZcR (ZdR Zdt (ZdR Zdt (cv 1) ZcZ (fun _ _ => rfl)) ZcZ (fun _ _ => rfl)) ZcT))) Zc0) ZcT)) (Zg6 ZjR (cv 4) (Zir ZcZ) Ziq)))
  (ZcU (ZdF (Zdh Znd (Zc7 G_written (hr.mono (by decide)) rfl T.m_written T.k_written T.b_written .nil ZdL (ZcR (cv 9) ZcT)) (ZeD Zcq Zcu Zcv Zf5 Zc0 (ZcR (cv 12) ZcT)) (Zdk _))
   (ZcW (Zc4 Zii))
   Zc6)
  (ZcU (Zdw (Ze5 (ZeD Zcr Zcs Zct Zdr (PE.mono (ZeX T.cl_Program T.n_Program_names (cv 9))) (ZcR (PE.mono Zc0) ZcT))))
  (ZcU (Zdw (ZnQ Zcr PySem.F.slot_list_reverse PySem.F.type_list_reverse Zlg (ZeX T.cl_Program T.n_Program_rows (cv 9))))
  (ZcW (Zc4 (Zc7 G__law_is (hr.mono (by decide)) rfl T.m__law_is T.k__law_is T.b__law_is .nil ZdL (ZcR (Zc7 G_read (hr.mono (by decide)) rfl T.m_read T.k_read T.b_read .nil ZpT (ZcR (cv 10) ZcT)) (ZcR (cv 7) (ZcR (cv 3) (ZcR (cv 2) ZcT))))))))))))))))))))))))), ?_⟩
 have sl : sizeLine = 16777216 := sizeLine_eq
 refine ⟨ad, ks, rfl, hsq, hlen, fun md ms H1 S1 dm gm l12 l1 tt => ?_⟩
 dsimp only [Zeb]
 cases dm with
 | @lst _ mv _ em hmv =>
 have lmv := Zds hmv
 rw [Zaq] at lmv
 rw [ZmP] at tt
 refine ⟨(by show 0 <= sizeLine; decide), fun rl hrl => ?_⟩
 have w2 := Gw.mut (Same.refl H1) hrl (.lst [])
 have er : (upd H1 rl (.lst [])) rl = some (.lst []) := ZcS
 dsimp only [Zeb]
 generalize upd H1 rl (.lst []) = H2 at w2 er ⊢
 refine ⟨(by show 0 <= sizeLine; decide), fun tl htl => ?_⟩
 have w3 := Gw.mut w2.fh htl (.lst [])
 have et : (upd H2 tl (.lst [])) tl = some (.lst []) := ZcS
 have nrt : rl ≠ tl := ZcY er htl
 have er3 : (upd H2 tl (.lst [])) rl = some (.lst []) := by rw [Zc1 nrt]; exact er
 have f3 := w2.fh.free htl
 dsimp only [Zeb]
 generalize upd H2 tl (.lst []) = H3 at w3 et er3 ⊢
 refine ⟨(by show 0 <= sizeLine; decide), fun xl hxl => ?_⟩
 have w4 := Gw.mut w3.fh hxl (.lst [])
 have ex : (upd H3 xl (.lst [])) xl = some (.lst []) := ZcS
 have nrx : rl ≠ xl := ZcY er3 hxl
 have ntx : tl ≠ xl := ZcY et hxl
 have er4 : (upd H3 xl (.lst [])) rl = some (.lst []) := by rw [Zc1 nrx]; exact er3
 have et4 : (upd H3 xl (.lst [])) tl = some (.lst []) := by rw [Zc1 ntx]; exact et
 have f4 := w3.fh.free hxl
 have w14 := w2.trans (w3.trans w4)
 dsimp only [Zeb]
 generalize upd H3 xl (.lst []) = H4 at w4 w14 ex er4 et4 ⊢
 refine ⟨md, rfl, ⟨_, SqL.of (w14.fh _ _ em)⟩, Zil (xs := mv) (fun i σ H5 => ∃ (F : Hp) (o5 o6 : Option V), σ = [some (.ref ad), some (.ref md), some (.ref rl), some (.ref tl), some (.ref xl), o5, o6, none, none, none, none, none, none] /\ Gw H1 H1 F H5 /\ Rws F H5 rl (TM.Internal.rws ((ms.map Prod.snd).take i) 0) /\ H5 tl = some (.lst ((TM.Internal.offs ((ms.map Prod.snd).take i) 0).map fun k : Nat => V.int (k : Int))) /\ F tl = none /\ H5 xl = some (.lst ((dfs ((ms.map Prod.fst).take i) ((ms.map Prod.snd).take i)).map V.str)) /\ F xl = none)
  ⟨H1, none, none, rfl, w14, ⟨[], er4, .nil, hrl⟩, et4, f3, ex, f4⟩ (fun i σ H5 _ h => by obtain ⟨F, _, _, _, g, _⟩ := h; exact SqL.of ((g.ff.trans g.fh) _ _ em)) ?_ ?_⟩
 ·rintro i v σ H5 hv ⟨F, o5, o6, rfl, g5, hR, et5, ft5, ex5, fx5⟩
  obtain ⟨d, hd, dv⟩ := ZeP hmv hv
  rw [Zay] at hd
  obtain ⟨⟨nm, t⟩, hm, rfl⟩ := ZbN.mp hd
  obtain ⟨hnm, okt, nst, szt⟩ : isName nm = true /\ t.ok /\ t.nest <= 24 /\ t.sz <= 160 := gm (nm, t) (Zaz hm)
  have hi : i < ms.length := (Zai.mp hm).1
  have kn : (ms.map Prod.fst).take (i + 1) = (ms.map Prod.fst).take i ++ [nm] := by rw [Za7, Zay, hm]; rfl
  have kt : (ms.map Prod.snd).take (i + 1) = (ms.map Prod.snd).take i ++ [t] := by rw [Za7, Zay, hm]; rfl
  have szi : TM.Internal.szs ((ms.map Prod.snd).take i) + t.sz <= 160 := by
   have h1 : ms.map Prod.snd = (ms.map Prod.snd).take (i + 1) ++ (ms.map Prod.snd).drop (i + 1) := (Zbr _ _).symm
   have h2 : TM.Internal.szs (ms.map Prod.snd) = TM.Internal.szs ((ms.map Prod.snd).take (i + 1)) + TM.Internal.szs ((ms.map Prod.snd).drop (i + 1)) := by rw [<- Zkk, <- h1]
   rw [kt, Zkk, TM.Internal.szs, TM.Internal.szs] at h2
   omega
  have lrw : (TM.Internal.rws ((ms.map Prod.snd).take i) 0).length = TM.Internal.szs ((ms.map Prod.snd).take i) := TM.Internal.rws_len _ _
  replace dv : Dta H1 v (.lst [TM.Internal.sD nm, t.td]) := dv
  cases dv with
  | @lst e xs _ he hs =>
   cases hs with
   | cons h1 hs =>
    cases hs with
    | @cons tv _ _ _ h2 hs =>
     cases hs
     cases h1
     have he5 := (g5.ff.trans g5.fh) _ _ he
     refine ⟨e, _, rfl, SqL.of he5, rfl, _, _, rfl, _, _, rfl, rfl, ?_⟩
     refine ⟨⟨_, et5⟩, F, tv, rl, t, _, rfl, g5.fh, h2.same g5.ff, okt, nst, hR, by rw [lrw]; omega, fun F6 H6 g6 f6 hR6 => ?_⟩
     have et6 := f6 _ _ et5 (fun z => nrt z.symm)
     have ex6 := f6 _ _ ex5 (fun z => nrx z.symm)
     have ft6 := g6.no _ _ et5 ft5
     have fx6 := g6.no _ _ ex5 fx5
     refine ⟨_, et6, by rw [Zaq, TM.Internal.offs_len, Zav]; omega, ?_⟩
     have g7 := Gw.put g6.fh ft6 (.lst ((TM.Internal.offs ((ms.map Prod.snd).take i) 0).map (fun k : Nat => V.int (k : Int)) ++ [.int ((TM.Internal.rws ((ms.map Prod.snd).take i) 0).length : Int)]))
     have e7t : (upd H6 tl (.lst ((TM.Internal.offs ((ms.map Prod.snd).take i) 0).map (fun k : Nat => V.int (k : Int)) ++ [.int ((TM.Internal.rws ((ms.map Prod.snd).take i) 0).length : Int)]))) tl = some (.lst ((TM.Internal.offs ((ms.map Prod.snd).take (i + 1)) 0).map fun k : Nat => V.int (k : Int))) := by
      rw [ZcS, kt, Zk5, ZaQ, lrw, TM.Internal.offs, TM.Internal.offs, ZbI]
      rfl
     have e7x : (upd H6 tl (.lst ((TM.Internal.offs ((ms.map Prod.snd).take i) 0).map (fun k : Nat => V.int (k : Int)) ++ [.int ((TM.Internal.rws ((ms.map Prod.snd).take i) 0).length : Int)]))) xl = some (.lst ((dfs ((ms.map Prod.fst).take i) ((ms.map Prod.snd).take i)).map V.str)) := by
      rw [Zc1 (fun z => ntx z.symm)]; exact ex6
     have hR7 := hR6.gw g7 fun o e => by rw [Zc1 nrt]; exact e
     dsimp only
     generalize upd H6 tl (.lst ((TM.Internal.offs ((ms.map Prod.snd).take i) 0).map (fun k : Nat => V.int (k : Int)) ++ [.int ((TM.Internal.rws ((ms.map Prod.snd).take i) 0).length : Int)])) = H7 at g7 e7t e7x hR7 ⊢
     have lnm := Zfs hnm
     have lst := Zk3 okt (by omega)
     obtain ⟨l1', l2', l3', l4', l5'⟩ := ZgE
     refine ⟨⟨_, e7x⟩, by omega, by rw [Str.length_append]; omega, tv, .t t, rfl, ?_, ?_, ?_, ?_, ?_, fun H8 S8 => ?_⟩
     ·rw [Pt.td]; exact (h2.same g5.ff).same (g6.ff.trans (g7.ff.trans g7.fh))
     ·rw [Pt.gd]; exact ⟨okt, nst⟩
     ·rw [Pt.mx]; omega
     ·rw [Pt.ne]; trivial
     ·rw [Pt.tx, Zgz]; omega
     rw [Pt.tx, Zgz]
     have e8x := S8 _ _ e7x
     have g8 := Gw.same g7.fh S8
     have hR8 := hR7.gw g8 fun o e => S8 _ _ e
     have e8t := S8 _ _ e7t
     refine ⟨by rw [Str.length_append, Str.length_append]; omega, by rw [Str.length_append, Str.length_append, Str.length_append]; omega, _, e8x, by rw [Zaq, Zgg (by rw [Zav, Zav, Zaq, Zaq]), Zav]; omega, ?_⟩
     have fx8 : F6 xl = none := fx6
     have g9 := Gw.put g8.fh fx8 (.lst ((dfs ((ms.map Prod.fst).take i) ((ms.map Prod.snd).take i)).map V.str ++ [.str (dfS nm t.st)]))
     refine ⟨F6, _, _, rfl, g5.trans (g6.trans (g7.trans (g8.trans g9))), ?_, ?_, ft6, ?_, fx6⟩
     ·have h := hR8.gw g9 fun o e => by rw [Zc1 nrx]; exact e
      rw [kt, ZmN, TM.Internal.rws, TM.Internal.rws, Zar, ZbI]
      rw [lrw] at h
      exact h
     ·rw [Zc1 ntx]; exact e8t
     ·rw [kn, kt, ZmO (by rw [Zav, Zav, Zaq, Zaq]), ZaQ]
      exact ZcS
 ·rintro σ H5 ⟨F, o5, o6, rfl, g5, hR, et5, ft5, ex5, fx5⟩
  have mz : mv.length = ms.length := lmv
  have ltk : ∀ {α : Type} (l : List α), l.length = ms.length -> l.take mv.length = l := fun l h => Za4 (by omega)
  rw [ltk (ms.map Prod.snd) (Zaq _)] at hR et5 ex5
  rw [ltk (ms.map Prod.fst) (Zaq _)] at ex5
  have ho := Zoi gm
  have hln : (ms.map Prod.fst).length = (ms.map Prod.snd).length := by rw [Zaq, Zaq]
  have hnn : ∀ n ∈ ms.map Prod.fst, isName n = true := fun n hn => by
   obtain ⟨p, hp, rfl⟩ := ZaX.mp hn
   exact (gm p hp).1
  have hnst : ∀ t ∈ ms.map Prod.snd, t.nest <= 24 := fun t ht => by
   obtain ⟨p, hp, rfl⟩ := ZaX.mp ht
   exact (gm p hp).2.2.1
  have e0 : ∀ {Hx : Hp}, Same H5 Hx -> Hx md = some (.lst mv) := fun s => s _ _ ((g5.ff.trans g5.fh) _ _ em)
  obtain ⟨W1, W2, W3, W4⟩ := Zoh hln hnn ho
  have hlm : (ms.map Prod.fst).length = ms.length := Zaq _
  have rdA := ZnI hln hnn ho hnst tt (by omega) (by omega)
  dsimp only
  refine ⟨md, rfl, ⟨_, SqL.of (e0 (Same.refl _))⟩, fun nl hnl => ?_⟩
  have dmv5 : Zfu H5 mv (ms.map mdD) := hmv.same (g5.ff.trans g5.fh)
  refine Zi8 mv.length (by omega) (fun ys _ => ys = ((ms.map Prod.fst).take ys.length).map V.str) (fun ys H H' h _ => h) hnl rfl (fun k H S h => Zh9 (e0 (Same.refl _)) S h) (fun H S => Zia (e0 (Same.refl _)) S) rfl ?_ ?_
  ·intro k Ha v Hb ys Z S hk y hy hyl hZ
   obtain ⟨rfl, hv⟩ := y
   have hv := hv _ (SqL.of (e0 S))
   obtain ⟨d, hd, dv⟩ := ZeP dmv5 hv
   rw [Zay] at hd
   obtain ⟨⟨nm, t⟩, hm, rfl⟩ := ZbN.mp hd
   replace dv : Dta H5 v (.lst [TM.Internal.sD nm, t.td]) := dv
   cases dv with
   | @lst e xs _ he hs =>
    cases hs with
    | cons h1 hs =>
     cases h1
     refine ⟨_, S _ _ he, Zdn (Zdi (j := 0) rfl) (hZ _ _ (Same.refl _) ?_)⟩
     rw [ZaA, ZaL, Za7, hyl, Zay, hm, ZaQ]
     rw [hyl] at hy
     rw [<- hy]
     rfl
  intro H6 ys S6 hys lys enl
  rw [lys, ltk _ hlm] at hys
  subst hys
  dsimp only [Zeb]
  have ex6 := S6 _ _ ex5
  have et6 := S6 _ _ et5
  have g6 := Gw.same g5.fh S6
  have hR6 := hR.gw g6 fun o e => S6 _ _ e
  have dle := ZmK ho tt (fun n hn => Zfs (hnn n hn)) hln
  have dl := Zgg hln
  refine ⟨rfl, "\n", xl, _, rfl, rfl, SqL.of ex6, ?_, ?_⟩
  ·have := Zkg dle
   rw [ZgE.2.2.2.1]
   omega
  dsimp only [Zeb]
  show ZnL _ _ _ [some (.ref ad), some (.ref md), some (.ref rl), some (.ref tl), some (.ref xl), o5, o6, some (.ref nl), some (.str (wr (ms.map Prod.fst) (ms.map Prod.snd))), none, none, none, none] H6
  obtain ⟨ks0, ek0⟩ : ∃ ks0 : List Int, Zi0 (ks.map V.int) none (some 1) = ks0.map V.int := ⟨(ks.drop (HT.Internal.sIx (ks.map V.int).length 0 none)).take (HT.Internal.sIx (ks.map V.int).length (ks.map V.int).length (some 1) - HT.Internal.sIx (ks.map V.int).length 0 none), by unfold Zi0; rw [List.map_take, List.map_drop]⟩
  have S06 : Same H H6 := S1.trans ((g5.ff.trans g5.fh).trans S6)
  refine ⟨_, rfl, ad, _, rfl, S06.seq hsq, fun c1 hc1 => ⟨c1, ks0, rfl, SqL.of (by rw [ZcS, ek0]), fun n0 => ?_⟩⟩
  have s7 := ZcV hc1 (.lst (Zi0 (ks.map V.int) none (some 1)))
  generalize upd H6 c1 (.lst (Zi0 (ks.map V.int) none (some 1))) = H7 at s7 ⊢
  have wle : wt (wr (ms.map Prod.fst) (ms.map Prod.snd)) <= 30000 := by omega
  have wok : GR.Internal.WOk (ZjH (ms.map Prod.fst) (ms.map Prod.snd)) := ZqC (by omega) W4
  refine ⟨_, n0, rfl, wle, fun y H8 S8 hW hy => ?_⟩
  refine ⟨y, ZjH (ms.map Prod.fst) (ms.map Prod.snd), rfl, by omega, ?_, wok, fun names roots rows g nl' tl' rl' rtv rwv H9 ra S9 fn ft fr pr tr tw => ?_, fun h => ?_⟩
  ·rw [GR.Internal.toks_v, ZqD hW]
   exact congrArg _ W1.op
  ·rw [rdA] at ra
   cases ra
   dsimp only [Zeb]
   have S69 := s7.trans (S8.trans S9)
   obtain ⟨dg, eg⟩ := pr.ob
   have irt := ZfX tr (ZmM _)
   have ertv := Zpd irt
   subst ertv
   have irw := ZfX tw (ZjG _ 0 ho)
   obtain ⟨vs, er6, dvs, fr6⟩ := id hR6
   have irv : Ims H9 vs (TM.Internal.rws (ms.map Prod.snd) 0) := Zhe ((dvs.same g6.fh).same S69) (ZjG _ 0 ho)
   have lofs : (TM.Internal.offs (ms.map Prod.snd) 0).length = ms.length := by rw [TM.Internal.offs_len, Zaq]
   have lrws : (TM.Internal.rws (ms.map Prod.snd) 0).length <= 160 := by rw [TM.Internal.rws_len]; exact tt
   have dps := Zkm (ms.map Prod.snd) 0
   have en9 := S69 _ _ enl
   have et9 := S69 _ _ et6
   have er9 := S69 _ _ er6
   refine ⟨g, dg, nl', tl', rl', nl, tl, rl, ms.map Prod.fst, TM.Internal.offs (ms.map Prod.snd) 0, rwv, vs, TM.Internal.rws (ms.map Prod.snd) 0, rfl, eg, pr.nm, en9, pr.rt, et9, pr.rw, er9, irw, irv, ZjG _ 0 ho, by omega, by omega, by omega, by omega, fun H10 S10 => ⟨_, rfl, Zeq ?_⟩⟩
   have prl : PrL T.a_Program H9 g nl' tl' rl' (ms.map Prod.fst) (ms.map Prod.snd) rwv := ⟨⟨dg, eg⟩, pr.nm, pr.rt, pr.rw, irw, ho, tt, hln, by omega, fun n hn => Zfs (hnn n hn)⟩
   have prl10 : PrL T.a_Program H10 g nl' tl' rl' (ms.map Prod.fst) (ms.map Prod.snd) rwv := ⟨⟨dg, S10 _ _ eg⟩, S10 _ _ pr.nm, S10 _ _ pr.rt, S10 _ _ pr.rw, irw.mono (Same.tk S10), ho, tt, hln, by omega, fun n hn => Zfs (hnn n hn)⟩
   refine ⟨g, nl', tl', rl', _, _, rwv, rfl, prl10, fun H11 S11 => ?_⟩
   dsimp only [Zeb]
   refine ⟨_, _, _, _, true, rfl, fun _ r => r, .str _, rfl, _, rfl, Zeq ?_⟩
   show if (true ^^ decide (wr (ms.map Prod.fst) (ms.map Prod.snd) = wr (ms.map Prod.fst) (ms.map Prod.snd))) = true then _ else _
   rw [decide_eq_true rfl]
   refine Zeq ?_
   have S611 := S69.trans (S10.trans S11)
   have S911 := S10.trans S11
   dsimp only [ZhP]
   refine ⟨nl, _, rfl, .inl (SqL.of (S911 _ _ en9)), fun pn hpn => ?_⟩
   have z1 := ZcV hpn (.lst ((ms.map Prod.fst).map V.str))
   have zn : (upd H11 pn (.lst ((ms.map Prod.fst).map V.str))) pn = some (.lst ((ms.map Prod.fst).map V.str)) := ZcS
   generalize upd H11 pn (.lst ((ms.map Prod.fst).map V.str)) = H12 at z1 zn ⊢
   refine ⟨tl, _, rfl, .inl (SqL.of (z1 _ _ (S911 _ _ et9))), fun pt hpt => ?_⟩
   have z2 := ZcV hpt (.lst ((TM.Internal.offs (ms.map Prod.snd) 0).map fun k : Nat => V.int (k : Int)))
   have zt : (upd H12 pt (.lst ((TM.Internal.offs (ms.map Prod.snd) 0).map fun k : Nat => V.int (k : Int)))) pt = some (.lst ((TM.Internal.offs (ms.map Prod.snd) 0).map fun k : Nat => V.int (k : Int))) := ZcS
   generalize upd H12 pt (.lst ((TM.Internal.offs (ms.map Prod.snd) 0).map fun k : Nat => V.int (k : Int))) = H13 at z2 zt ⊢
   refine ⟨rl, _, rfl, .inl (SqL.of ((z1.trans z2) _ _ (S911 _ _ er9))), fun pw hpw => ?_⟩
   have z3 := ZcV hpw (.lst vs)
   have zw : (upd H13 pw (.lst vs)) pw = some (.lst vs) := ZcS
   generalize upd H13 pw (.lst vs) = H14 at z3 zw ⊢
   have z13 := z1.trans (z2.trans z3)
   intro x dx hx hdx hne
   refine ⟨x, dx, pn, pt, pw, rfl, ZcS, fun H15 hg15 keep => ⟨rfl, ?_⟩⟩
   have z4 : Same H14 H15 := fun b u e => keep b u (by rw [Zc1 (ZcY e hx), Zc1 (ZcY e hdx)]; exact e) (ZcY e hx)
   have S915 := S911.trans (z13.trans z4)
   have prl15 : PrL T.a_Program H15 x pn pt pw (ms.map Prod.fst) (ms.map Prod.snd) vs := ⟨⟨dx, hg15⟩, (z2.trans (z3.trans z4)) _ _ zn, (z3.trans z4) _ _ zt, z4 _ _ zw, irv.mono (Same.tk S915), ho, tt, hln, by omega, fun n hn => Zfs (hnn n hn)⟩
   refine ⟨x, pn, pt, pw, _, _, vs, rfl, prl15, fun H16 S16 => ?_⟩
   show if (true ^^ decide (wr (ms.map Prod.fst) (ms.map Prod.snd) = wr (ms.map Prod.fst) (ms.map Prod.snd))) = true then _ else _
   rw [decide_eq_true rfl]
   refine Zeq ?_
   dsimp only [ZhP]
   have S916 := S915.trans S16
   obtain ⟨v0, r0, ef, lv0⟩ := ZnJ (ns := ms.map Prod.fst) (by omega)
   have fl : ((ms.map Prod.fst).map V.str).all ZgI = true := Zbd.mpr fun x hx => by
    obtain ⟨z, _, rfl⟩ := ZaX.mp hx
    rfl
   have w1l : ("w" : Str).length = 1 := by decide +kernel
   have en16 := S916 _ _ en9
   refine ⟨_, rfl, fun D hD => ?_⟩
   refine ZoD (xs := sgs) (fun v => !inV (.str (wS v)) ((ms.map Prod.fst).map V.str)) (fun v => .str (wS v)) hD (by rw [ZgY.2.2.1]; omega) rfl (fun k H _ h => by rw [ZgY.2.2.1] at h; show k < _; rw [ZgY.2.2.2.1]; exact h) ?_ (fun H _ => by rw [ZgY.2.2.1]; exact ZgY.2.2.2.1.symm) ?_ ?_ ?_
   ·rintro k Ha v Hb S ⟨rfl, c, hc, rfl⟩
    refine ⟨rfl, ?_⟩
    unfold sgs
    rw [Zay, ZcE, hc]
    rfl
   ·intro k v Ha R hv S hR
    obtain ⟨c, rfl⟩ : ∃ c : Nat, v = .str ⟨#[c]⟩ := by
     unfold sgs at hv
     rw [Zay] at hv
     obtain ⟨c, _, e⟩ := ZbN.mp hv
     exact ⟨c, e.symm⟩
    exact ⟨by rw [w1l, ZhH]; omega, nl, _, rfl, .inl (SqL.of (S _ _ en16)), rfl, fl, hR⟩
   ·intro k v Ha R hv _ S hR
    obtain ⟨c, rfl⟩ : ∃ c : Nat, v = .str ⟨#[c]⟩ := by
     unfold sgs at hv
     rw [Zay] at hv
     obtain ⟨c, _, e⟩ := ZbN.mp hv
     exact ⟨c, e.symm⟩
    exact ⟨by rw [w1l, ZhH]; omega, hR⟩
   intro H17 S17 eD
   rw [ef] at eD
   refine ⟨_, eD, Zdn (Zdi (j := 0) rfl) ?_⟩
   dsimp only [Zeb]
   generalize wS v0 = oth at lv0 ⊢
   have S917 := S916.trans S17
   obtain ⟨⟨n1, t1⟩, mr, emr⟩ : ∃ p mr, ms = p :: mr := by
    cases ms with
    | nil => exact absurd l1 (by decide)
    | cons p mr => exact ⟨p, mr, rfl⟩
   have en17 := S917 _ _ pr.nm
   have eg17 := S917 _ _ eg
   have eset : ((ms.map Prod.fst).map V.str).set 0 (.str oth) = (oth :: mr.map Prod.fst).map V.str := by rw [emr]; rfl
   refine ⟨_, ⟨dg, _, eg17, Zfo _ _ _⟩, nl', _, _, 0, rfl, rfl, en17, ZmC (j := 0) (by rw [Zaq]; omega), ?_⟩
   rw [eset]
   have hk18 : ∀ {b : Addr} {u : HO}, b ≠ nl' -> H17 b = some u -> (upd H17 nl' (.lst ((oth :: mr.map Prod.fst).map V.str))) b = some u := fun nb e => by rw [Zc1 nb]; exact e
   have en18 : (upd H17 nl' (.lst ((oth :: mr.map Prod.fst).map V.str))) nl' = some (.lst ((oth :: mr.map Prod.fst).map V.str)) := ZcS
   have S818 : Same H8 (upd H17 nl' (.lst ((oth :: mr.map Prod.fst).map V.str))) := Ze0 (S9.trans S917) fn _
   generalize upd H17 nl' (.lst ((oth :: mr.map Prod.fst).map V.str)) = H18 at hk18 en18 S818 ⊢
   have S68 := s7.trans S8
   have S618 := S68.trans S818
   have S118 : Same H1 H18 := (g5.ff.trans g5.fh).trans (S6.trans S618)
   have e18md := S118 _ _ em
   obtain ⟨e1, tv, m0, he1, dt1⟩ : ∃ (e1 : Addr) (tv : V), mv[0]? = some (.ref e1) /\ H1 e1 = some (.lst [.str n1, tv]) /\ Dta H1 tv t1.td := by
    have h := hmv
    rw [emr, Zap] at h
    cases h with
    | @cons v0 _ vr _ h t =>
     replace h : Dta H1 v0 (.lst [TM.Internal.sD n1, t1.td]) := h
     cases h with
     | @lst e xs _ he hs =>
      cases hs with
      | cons a1 hs =>
       cases hs with
       | @cons tv _ _ _ a2 hs =>
        cases hs
        cases a1
        exact ⟨e, tv, rfl, he, a2⟩
   obtain ⟨hn1, okt1, nst1, szt1⟩ : isName n1 = true /\ t1.ok /\ t1.nest <= 24 /\ t1.sz <= 160 := gm (n1, t1) (by rw [emr]; exact Zad)
   have lst1 := Zk3 okt1 szt1
   obtain ⟨l1', l2', l3', l4', l5'⟩ := ZgE
   refine ⟨by omega, by rw [Str.length_append]; omega, _, e18md, Zdn (Zdi (j := 0) m0) ⟨_, S118 _ _ he1, Zdn (Zdi (j := 1) rfl) ⟨tv, .t t1, rfl, ?_, ?_, ?_, ?_, ?_, fun H19 S19 => ?_⟩⟩⟩
   ·rw [Pt.td]; exact dt1.same S118
   ·rw [Pt.gd]; exact ⟨okt1, nst1⟩
   ·rw [Pt.mx]; omega
   ·rw [Pt.ne]; trivial
   ·rw [Pt.tx, Zgz]; omega
   rw [Pt.tx, Zgz]
   refine ⟨by rw [Str.length_append, Str.length_append]; omega, by rw [Str.length_append, Str.length_append, Str.length_append]; omega, (by show 1 <= sizeLine; decide), fun q1 hq1 => ?_⟩
   have y1 := ZcV hq1 (.lst [.str ("(def " ++ oth ++ " " ++ t1.st ++ ")")])
   have eq1 : (upd H19 q1 (.lst [.str ("(def " ++ oth ++ " " ++ t1.st ++ ")")])) q1 = some (.lst [.str (dfS oth t1.st)]) := ZcS
   generalize upd H19 q1 (.lst [.str ("(def " ++ oth ++ " " ++ t1.st ++ ")")]) = H20 at y1 eq1 ⊢
   have S620 := S618.trans (S19.trans y1)
   have ex20 := S620 _ _ ex6
   have edf : (dfs (ms.map Prod.fst) (ms.map Prod.snd)).map V.str = V.str (dfS n1 t1.st) :: (dfs (mr.map Prod.fst) (mr.map Prod.snd)).map V.str := by rw [emr]; rfl
   rw [edf] at ex20
   have edo : (dfs (oth :: mr.map Prod.fst) (ms.map Prod.snd)).map V.str = [V.str (dfS oth t1.st)] ++ (dfs (mr.map Prod.fst) (mr.map Prod.snd)).map V.str := by rw [emr]; rfl
   refine ⟨1, rfl, xl, _, rfl, SqL.of ex20, fun c2 hc2 => ?_⟩
   rw [(Zqr _ _).1]
   have y2 := ZcV hc2 (.lst ((dfs (mr.map Prod.fst) (mr.map Prod.snd)).map V.str))
   have ec2 : (upd H20 c2 (.lst ((dfs (mr.map Prod.fst) (mr.map Prod.snd)).map V.str))) c2 = some (.lst ((dfs (mr.map Prod.fst) (mr.map Prod.snd)).map V.str)) := ZcS
   have y12 := y1.trans y2
   generalize upd H20 c2 (.lst ((dfs (mr.map Prod.fst) (mr.map Prod.snd)).map V.str)) = H20b at y2 y12 ec2 ⊢
   have ld2 : (dfs (mr.map Prod.fst) (mr.map Prod.snd)).length <= 12 := by
    rw [Zgg (by rw [Zaq, Zaq]), Zaq]
    rw [emr, Zan] at l12
    omega
   refine ⟨q1, c2, _, _, rfl, rfl, y2 _ _ eq1, ec2, by rw [Zaq]; show 1 + _ <= sizeLine; omega, fun p3 hp3 => ?_⟩
   rw [<- edo]
   have y3 := ZcV hp3 (.lst ((dfs (oth :: mr.map Prod.fst) (ms.map Prod.snd)).map V.str))
   have e21 : (upd H20b p3 (.lst ((dfs (oth :: mr.map Prod.fst) (ms.map Prod.snd)).map V.str))) p3 = some (.lst ((dfs (oth :: mr.map Prod.fst) (ms.map Prod.snd)).map V.str)) := ZcS
   have S1821 := S19.trans (y12.trans y3)
   dsimp only [Zeb]
   generalize upd H20b p3 (.lst ((dfs (oth :: mr.map Prod.fst) (ms.map Prod.snd)).map V.str)) = H21 at e21 S1821 ⊢
   have ngn : g ≠ nl' := ZfF eg17 en17 (fun z => nomatch z)
   have eg21 := S1821 _ _ (hk18 ngn eg17)
   have en21 := S1821 _ _ en18
   have et21 := S1821 _ _ (hk18 (fun z => pr.n1 z.symm) (S917 _ _ pr.rt))
   have er21 := S1821 _ _ (hk18 (fun z => pr.n2 z.symm) (S917 _ _ pr.rw))
   have tk921 : BO.Internal.TK H9 H21 := fun a xs e => S1821 _ _ (hk18 (ZfF (S917 _ _ e) en17 (fun z => nomatch z)) (S917 _ _ e))
   have lno : ∀ n ∈ oth :: mr.map Prod.fst, n.length <= 100 := fun n hn => by
    rcases Zaf.mp hn with e | e
    ·rw [e]; exact lv0
    ·exact Zfs (hnn n (by rw [emr, Zap]; exact Zae _ e))
   have hlo : (oth :: mr.map Prod.fst).length = (ms.map Prod.snd).length := by rw [emr]; simp
   have prl21 : PrL T.a_Program H21 g nl' tl' rl' (oth :: mr.map Prod.fst) (ms.map Prod.snd) rwv := ⟨⟨dg, eg21⟩, en21, et21, er21, irw.mono tk921, ho, tt, hlo, by rw [hlo, Zaq]; exact l12, lno⟩
   refine ⟨g, nl', tl', rl', _, _, rwv, rfl, prl21, fun H22 S22 => ?_⟩
   have dle2 := ZmK ho tt lno hlo
   have dl2 := Zgg hlo
   refine ⟨rfl, "\n", p3, _, rfl, rfl, SqL.of (S22 _ _ e21), ?_, ?_⟩
   ·have := Zkg dle2
    have : (ms.map Prod.snd).length = ms.length := Zaq _
    rw [ZgE.2.2.2.1]
    omega
   show if (true ^^ decide (wr (oth :: mr.map Prod.fst) (ms.map Prod.snd) = wr (oth :: mr.map Prod.fst) (ms.map Prod.snd))) = true then _ else _
   rw [decide_eq_true rfl]
   refine Zeq ?_
   dsimp only [ZhP]
   have eg22 := S22 _ _ eg21
   have en22 := S22 _ _ en21
   have er22 := S22 _ _ er21
   have S822 := S818.trans (S1821.trans S22)
   refine ⟨_, ⟨dg, _, eg22, Zfo _ _ _⟩, ⟨_, en22⟩, _, en22, by rw [Zaq, hlo, Zaq]; omega, ?_⟩
   have S823 : Same H8 (upd H22 nl' (.lst ((oth :: mr.map Prod.fst).map V.str ++ [.str "more"]))) := Ze0 S822 fn _
   have eg23 : (upd H22 nl' (.lst ((oth :: mr.map Prod.fst).map V.str ++ [.str "more"]))) g = _ := (Zc1 ngn).trans eg22
   have er23 : (upd H22 nl' (.lst ((oth :: mr.map Prod.fst).map V.str ++ [.str "more"]))) rl' = _ := (Zc1 (fun z => pr.n2 z.symm)).trans er22
   generalize upd H22 nl' (.lst ((oth :: mr.map Prod.fst).map V.str ++ [.str "more"])) = H23 at S823 eg23 er23 ⊢
   refine ⟨_, ⟨dg, _, eg23, Zf6 _ _ _⟩, .inl ⟨rfl, _, SqL.of er23⟩, rl', _, rfl, rfl, er23, ?_⟩
   have S824 : Same H8 (upd H23 rl' (.lst rwv.reverse)) := Ze0 S823 fr _
   generalize upd H23 rl' (.lst rwv.reverse) = H24 at S824 ⊢
   have lwr := ZgQ (wr (ms.map Prod.fst) (ms.map Prod.snd)).cps.toList
   rw [Zgc] at lwr
   have wle' : wts (wr (ms.map Prod.fst) (ms.map Prod.snd)).cps.toList <= 30000 := wle
   refine ⟨wr (ms.map Prod.fst) (ms.map Prod.snd), ZjH (ms.map Prod.fst) (ms.map Prod.snd), rfl, by omega, ?_, wok, fun names roots rows g2 nl2 tl2 rl2 rtv2 rwv2 H25 ra2 S25 _ _ _ pr2 tr2 tw2 => ?_, fun h => ?_⟩
   ·rw [GR.Internal.toks_v]
    exact congrArg _ W1.op
   ·rw [rdA] at ra2
    cases ra2
    obtain ⟨dg2, eg2⟩ := pr2.ob
    have irt2 := ZfX tr2 (ZmM _)
    have ertv2 := Zpd irt2
    subst ertv2
    have irw2 := ZfX tw2 (ZjG _ 0 ho)
    have S625 := S68.trans (S824.trans S25)
    have irv2 : Ims H25 vs (TM.Internal.rws (ms.map Prod.snd) 0) := Zhe ((dvs.same g6.fh).same S625) (ZjG _ 0 ho)
    exact ⟨g2, dg2, nl2, tl2, rl2, nl, tl, rl, ms.map Prod.fst, TM.Internal.offs (ms.map Prod.snd) 0, rwv2, vs, TM.Internal.rws (ms.map Prod.snd) 0, rfl, eg2, pr2.nm, S625 _ _ enl, pr2.rt, S625 _ _ et6, pr2.rw, S625 _ _ er6, irw2, irv2, ZjG _ 0 ho, by omega, by omega, by omega, by omega, fun H26 _ => q H26⟩
   ·rw [rdA] at h
    cases h
  ·rw [rdA] at h
   cases h
end
end K04.Internal
namespace K04.Internal
open PySem L2.Internal BO.Internal
seal L2.Internal.PE L2.Internal.PA L2.Internal.PS L2.Internal.PSs L2.Internal.PT L2.Internal.PI
open GR.Internal
theorem ZfR {l : List (Str × Tok × Addr)} : (l.map (·.1)).Nodup -> ∀ x ∈ l, Zhk (l.map fun p => ((Sum.inr p.1 : Key), V.ref p.2.2)) (Sum.inr x.1) = some (.ref x.2.2) := by
 induction l with
 | nil => exact fun _ x hx => nomatch hx
 | cons y r ih =>
  intro hn x hx
  rw [Zap, Zas] at hn
  unfold Zhk
  rw [Zap, ZaC]
  rcases Zaf.mp hx with e | hm
  ·subst e
   rw [decide_eq_true rfl]
   rfl
  ·have ne : ¬ (Sum.inr y.1 : Key) = Sum.inr x.1 := fun z => hn.1 (by rw [Sum.inr.inj z]; exact Zbq hm)
   rw [decide_eq_false ne]
   exact ih hn.2 x hm
theorem ZqI {l : List (Str × Tok × Addr)} {h : Str} (hn : h ∉ l.map (·.1)) : Zhk (l.map fun p => ((Sum.inr p.1 : Key), V.ref p.2.2)) (Sum.inr h) = none := by
 unfold Zhk
 rw [Option.map_eq_none_iff, List.find?_eq_none]
 intro kv hkv z
 obtain ⟨p, hp, rfl⟩ := ZaX.mp hkv
 have e : (Sum.inr p.1 : Key) = Sum.inr h := of_decide_eq_true z
 exact hn (by rw [<- Sum.inr.inj e]; exact Zbq hp)
noncomputable def ZpI {P : Program} {w : World} {K : PySem.W.Frag} {mg : Str -> Option Value} {a : Addr} {n : Nat} {t1 t2 t3 t4 t5 t6 t7 t8 t9 t10 t11 : Tok} {q1 q2 q3 q4 q5 q6 q7 q8 q9 q10 q11 : Addr} (m : mg "STEADY_FORMS" = some (.ref a)) (ha : (a == sysModules) = false) (hl : K.lookup a = some ⟨.type "dict", none, .dict #[⟨PyData.keyHash w.params "fn", .str "fn" t1, .ref q1⟩, ⟨PyData.keyHash w.params "call", .str "call" t2, .ref q2⟩, ⟨PyData.keyHash w.params "let", .str "let" t3, .ref q3⟩, ⟨PyData.keyHash w.params "get", .str "get" t4, .ref q4⟩, ⟨PyData.keyHash w.params "tag", .str "tag" t5, .ref q5⟩, ⟨PyData.keyHash w.params "at", .str "at" t6, .ref q6⟩, ⟨PyData.keyHash w.params "join", .str "join" t7, .ref q7⟩, ⟨PyData.keyHash w.params "size", .str "size" t8, .ref q8⟩, ⟨PyData.keyHash w.params "add", .str "add" t9, .ref q9⟩, ⟨PyData.keyHash w.params "sub", .str "sub" t10, .ref q10⟩, ⟨PyData.keyHash w.params "less", .str "less" t11, .ref q11⟩] n, #[]⟩)
  (h1 : ∀ H : Hp, SqT K H q1 [V.str "name", V.str "expr"]) (h2 : ∀ H : Hp, SqT K H q2 [V.str "expr", V.str "expr"]) (h3 : ∀ H : Hp, SqT K H q3 [V.str "name", V.str "expr", V.str "expr"]) (h4 : ∀ H : Hp, SqT K H q4 [V.str "expr", V.str "name"]) (h5 : ∀ H : Hp, SqT K H q5 [V.str "name", V.str "expr"]) (h6 : ∀ H : Hp, SqT K H q6 [V.str "expr", V.str "expr", V.str "expr"]) (h7 : ∀ H : Hp, SqT K H q7 [V.str "expr", V.str "expr"]) (h8 : ∀ H : Hp, SqT K H q8 [V.str "expr"]) (h9 : ∀ H : Hp, SqT K H q9 [V.str "expr", V.str "expr"]) (h10 : ∀ H : Hp, SqT K H q10 [V.str "expr", V.str "expr"]) (h11 : ∀ H : Hp, SqT K H q11 [V.str "expr", V.str "expr"]) : Dk P w K mg where
 a := a
 m := m
 kvs := ([("fn", t1, q1), ("call", t2, q2), ("let", t3, q3), ("get", t4, q4), ("tag", t5, q5), ("at", t6, q6), ("join", t7, q7), ("size", t8, q8), ("add", t9, q9), ("sub", t10, q10), ("less", t11, q11)] : List (Str × Tok × Addr)).map fun p => ((Sum.inr p.1 : Key), V.ref p.2.2)
 kd := Zm8 ha hl rfl (by show (["fn", "call", "let", "get", "tag", "at", "join", "size", "add", "sub", "less"] : List Str).Nodup; decide +kernel)
 no := fun h e => ZqI (l := [("fn", t1, q1), ("call", t2, q2), ("let", t3, q3), ("get", t4, q4), ("tag", t5, q5), ("at", t6, q6), ("join", t7, q7), ("size", t8, q8), ("add", t9, q9), ("sub", t10, q10), ("less", t11, q11)]) (by
  show h ∉ (["fn", "call", "let", "get", "tag", "at", "join", "size", "add", "sub", "less"] : List Str)
  intro z
  have e1 : ∀ k ∈ (["fn", "call", "let", "get", "tag", "at", "join", "size", "add", "sub", "less"] : List Str), stP k ≠ none := by decide +kernel
  exact e1 h z e)
 yes := fun h ps e => by
  have hn : (([("fn", t1, q1), ("call", t2, q2), ("let", t3, q3), ("get", t4, q4), ("tag", t5, q5), ("at", t6, q6), ("join", t7, q7), ("size", t8, q8), ("add", t9, q9), ("sub", t10, q10), ("less", t11, q11)] : List (Str × Tok × Addr)).map (·.1)).Nodup := by show (["fn", "call", "let", "get", "tag", "at", "join", "size", "add", "sub", "less"] : List Str).Nodup; decide +kernel
  unfold stP at e
  obtain ⟨p, hp, rfl⟩ := ZbN.mp e
  have hm := Zbo hp
  have hh : p.1 = h := of_decide_eq_true (List.find?_some (p := fun p : Str × List Bool => decide (p.1 = h)) hp)
  subst hh
  clear hp e
  unfold stT at hm
  simp only [Zaf, ZaZ, or_false] at hm
  rcases hm with rfl | rfl | rfl | rfl | rfl | rfl | rfl | rfl | rfl | rfl | rfl
  ·exact ⟨q1, ZfR hn ("fn", t1, q1) (Zad ..), h1⟩
  ·exact ⟨q2, ZfR hn ("call", t2, q2) (Zae _ (Zad ..)), h2⟩
  ·exact ⟨q3, ZfR hn ("let", t3, q3) (Zae _ (Zae _ (Zad ..))), h3⟩
  ·exact ⟨q4, ZfR hn ("get", t4, q4) (Zae _ (Zae _ (Zae _ (Zad ..)))), h4⟩
  ·exact ⟨q5, ZfR hn ("tag", t5, q5) (Zae _ (Zae _ (Zae _ (Zae _ (Zad ..))))), h5⟩
  ·exact ⟨q6, ZfR hn ("at", t6, q6) (Zae _ (Zae _ (Zae _ (Zae _ (Zae _ (Zad ..)))))), h6⟩
  ·exact ⟨q7, ZfR hn ("join", t7, q7) (Zae _ (Zae _ (Zae _ (Zae _ (Zae _ (Zae _ (Zad ..))))))), h7⟩
  ·exact ⟨q8, ZfR hn ("size", t8, q8) (Zae _ (Zae _ (Zae _ (Zae _ (Zae _ (Zae _ (Zae _ (Zad ..)))))))), h8⟩
  ·exact ⟨q9, ZfR hn ("add", t9, q9) (Zae _ (Zae _ (Zae _ (Zae _ (Zae _ (Zae _ (Zae _ (Zae _ (Zad ..))))))))), h9⟩
  ·exact ⟨q10, ZfR hn ("sub", t10, q10) (Zae _ (Zae _ (Zae _ (Zae _ (Zae _ (Zae _ (Zae _ (Zae _ (Zae _ (Zad ..)))))))))), h10⟩
  ·exact ⟨q11, ZfR hn ("less", t11, q11) (Zae _ (Zae _ (Zae _ (Zae _ (Zae _ (Zae _ (Zae _ (Zae _ (Zae _ (Zae _ (Zad ..))))))))))), h11⟩
section
variable {P : Program} {w : World} {K : PySem.W.Frag} {mg : Str -> Option Value} {base : Heap}
theorem Zpf {f : Addr} {fd : FuncData} (T : Txt K mg) (D : Dk P w K mg) (F : Fun K "law" "law" ZhQ f fd) : ZdK P w K mg base CX0 150 f fd ["_law_script"] (Zjl K) := by
 have g1 := Zlr (P := P) (w := w) (base := base) T
 have g2 := Zls T g1
 have g3 := Zjm T g1
 have ga := ZhG (P := P) (w := w) (base := base) T
 have g4 := ZhS (P := P) (w := w) (base := base) T ga
 have gc := ZhT (P := P) (w := w) (base := base) T
 have gp := Zga T g4
 have gn := Zgb T g4 g2
 have ge := Zmt T D ga g4 gp gn g2 g3 gc 24
 have g5 := ZoV T (Zj0 T) (Zgv T) ga gp gn ge gc (Zfj T)
 exact ZqH T F g5
end
end K04.Internal
noncomputable def PySem.W.Fast.tw17317293937723402104 : Nat := 0
noncomputable def PySem.W.Fast.tw11624518492918440762 : Nat := 0
noncomputable def PySem.W.Fast.tw16873377602030119068 : Nat := 0
noncomputable def PySem.W.Fast.tw9273239337888070772 : Nat := 0
noncomputable def PySem.W.Fast.tw6432407476243964328 : Nat := 0
noncomputable def PySem.W.Fast.tw8227906383339976140 : Nat := 0
noncomputable def PySem.W.Fast.tw70221213648618450 : Nat := 0
noncomputable def PySem.W.Fast.tw6286161258375882937 : Nat := 0
noncomputable def PySem.W.Fast.tw8276360802336726540 : Nat := 0
noncomputable def PySem.W.Fast.tw16300655588492887521 : Nat := 0
noncomputable def PySem.W.Fast.tw17412051199118431533 : Nat := 0
noncomputable def PySem.W.Fast.tw12998932026953703655 : Nat := 0
noncomputable def PySem.W.Fast.tw6064666782160268850 : Nat := 0
namespace K04.Internal
open PySem L2.Internal
theorem all_mk {l : PySem.W.OpenLaw} {w : World} {K : PySem.W.Frag} {h : Heap} {mg : Str -> Option Value} {fa fL : Addr} (X : K.In h) (G : h.Ns mainGlobals mg) (hfa : mg "law" = some (.ref fa))
  {u1 : Tok} {u2 : Tok} {p3 : Addr} {w3_0 w3_1 w3_2 w3_3 w3_4 w3_5 w3_6 w3_7 w3_8 w3_9 w3_10 w3_11 w3_12 w3_13 w3_14 : Tok} {od3 : Option Addr} {n3 : Nat} {sl3 : Array (Option Value)} {u4 : Tok} {u5 : Tok} {u6 : Tok} {u7 : Tok} {u8 : Tok} {u9 : Tok} {u10 : Tok} {u11 : Tok} {f12 : Addr} {od12 an12 : Option Addr} {sl12 : Array (Option Value)} {oc12 kV12 dc12 pm12 cd12 ct12 : Value} {f13 : Addr} {od13 an13 : Option Addr} {sl13 : Array (Option Value)} {oc13 kV13 dc13 pm13 cd13 ct13 : Value} {f14 : Addr} {od14 an14 : Option Addr} {sl14 : Array (Option Value)} {oc14 kV14 dc14 pm14 cd14 ct14 : Value} {f15 : Addr} {od15 an15 : Option Addr} {sl15 : Array (Option Value)} {oc15 kV15 dc15 pm15 cd15 ct15 : Value} {f16 : Addr} {od16 an16 : Option Addr} {sl16 : Array (Option Value)} {oc16 kV16 dc16 pm16 cd16 ct16 : Value} {f17 : Addr} {od17 an17 : Option Addr} {sl17 : Array (Option Value)} {oc17 kV17 dc17 pm17 cd17 ct17 : Value} {f18 : Addr} {od18 an18 : Option Addr} {sl18 : Array (Option Value)} {oc18 kV18 dc18 pm18 cd18 ct18 : Value} {f19 : Addr} {od19 an19 : Option Addr} {sl19 : Array (Option Value)} {oc19 kV19 dc19 pm19 cd19 ct19 : Value} {f20 : Addr} {od20 an20 : Option Addr} {sl20 : Array (Option Value)} {oc20 kV20 dc20 pm20 cd20 ct20 : Value} {f21 : Addr} {od21 an21 : Option Addr} {sl21 : Array (Option Value)} {oc21 kV21 dc21 pm21 cd21 ct21 : Value} {f22 : Addr} {od22 an22 : Option Addr} {sl22 : Array (Option Value)} {oc22 kV22 dc22 pm22 cd22 ct22 : Value} {f23 : Addr} {od23 an23 : Option Addr} {sl23 : Array (Option Value)} {oc23 kV23 dc23 pm23 cd23 ct23 : Value} {f24 : Addr} {od24 an24 : Option Addr} {sl24 : Array (Option Value)} {oc24 kV24 dc24 pm24 cd24 ct24 : Value} {f25 : Addr} {od25 an25 : Option Addr} {sl25 : Array (Option Value)} {oc25 kV25 dc25 pm25 cd25 ct25 : Value} {f26 : Addr} {od26 an26 : Option Addr} {sl26 : Array (Option Value)} {oc26 kV26 dc26 pm26 cd26 ct26 : Value} {f27 : Addr} {od27 an27 : Option Addr} {sl27 : Array (Option Value)} {oc27 kV27 dc27 pm27 cd27 ct27 : Value} {f28 : Addr} {od28 an28 : Option Addr} {sl28 : Array (Option Value)} {oc28 kV28 dc28 pm28 cd28 ct28 : Value} {f29 : Addr} {od29 an29 : Option Addr} {sl29 : Array (Option Value)} {oc29 kV29 dc29 pm29 cd29 ct29 : Value} {f30 : Addr} {od30 an30 : Option Addr} {sl30 : Array (Option Value)} {oc30 kV30 dc30 pm30 cd30 ct30 : Value} {f31 : Addr} {od31 an31 : Option Addr} {sl31 : Array (Option Value)} {oc31 kV31 dc31 pm31 cd31 ct31 : Value} {f32 : Addr} {od32 an32 : Option Addr} {sl32 : Array (Option Value)} {oc32 kV32 dc32 pm32 cd32 ct32 : Value} {f33 : Addr} {od33 an33 : Option Addr} {sl33 : Array (Option Value)} {oc33 kV33 dc33 pm33 cd33 ct33 : Value} {f34 : Addr} {od34 an34 : Option Addr} {sl34 : Array (Option Value)} {oc34 kV34 dc34 pm34 cd34 ct34 : Value} {C35 : Addr} {C36 : Addr} {C37 : Addr} {f38 : Addr} {od38 an38 : Option Addr} {sl38 : Array (Option Value)} {oc38 kV38 dc38 pm38 cd38 ct38 : Value} {C39 : Addr} {f40 : Addr} {od40 an40 : Option Addr} {sl40 : Array (Option Value)} {oc40 kV40 dc40 pm40 cd40 ct40 : Value} {f41 : Addr} {od41 an41 : Option Addr} {sl41 : Array (Option Value)} {oc41 kV41 dc41 pm41 cd41 ct41 : Value} {f42 : Addr} {od42 an42 : Option Addr} {sl42 : Array (Option Value)} {oc42 kV42 dc42 pm42 cd42 ct42 : Value} {f43 : Addr} {od43 an43 : Option Addr} {sl43 : Array (Option Value)} {oc43 kV43 dc43 pm43 cd43 ct43 : Value} {f44 : Addr} {od44 an44 : Option Addr} {sl44 : Array (Option Value)} {oc44 kV44 dc44 pm44 cd44 ct44 : Value} {f45 : Addr} {od45 an45 : Option Addr} {sl45 : Array (Option Value)} {oc45 kV45 dc45 pm45 cd45 ct45 : Value} {f46 : Addr} {od46 an46 : Option Addr} {sl46 : Array (Option Value)} {oc46 kV46 dc46 pm46 cd46 ct46 : Value} {f47 : Addr} {od47 an47 : Option Addr} {sl47 : Array (Option Value)} {oc47 kV47 dc47 pm47 cd47 ct47 : Value} {f48 : Addr} {od48 an48 : Option Addr} {sl48 : Array (Option Value)} {oc48 kV48 dc48 pm48 cd48 ct48 : Value} {f49 : Addr} {od49 an49 : Option Addr} {sl49 : Array (Option Value)} {oc49 kV49 dc49 pm49 cd49 ct49 : Value} {f50 : Addr} {od50 an50 : Option Addr} {sl50 : Array (Option Value)} {oc50 kV50 dc50 pm50 cd50 ct50 : Value} {f51 : Addr} {od51 an51 : Option Addr} {sl51 : Array (Option Value)} {oc51 kV51 dc51 pm51 cd51 ct51 : Value}
  {pD : Addr} {nD : Nat} {tD1 tD2 tD3 tD4 tD5 tD6 tD7 tD8 tD9 tD10 tD11 : Tok} {qD1 qD2 qD3 qD4 qD5 qD6 qD7 qD8 qD9 qD10 qD11 : Addr} {odD1 : Option Addr} {nD1 : Nat} {slD1 : Array (Option Value)} {uD1_0 uD1_1 : Tok} {odD2 : Option Addr} {nD2 : Nat} {slD2 : Array (Option Value)} {uD2_0 uD2_1 : Tok} {odD3 : Option Addr} {nD3 : Nat} {slD3 : Array (Option Value)} {uD3_0 uD3_1 uD3_2 : Tok} {odD4 : Option Addr} {nD4 : Nat} {slD4 : Array (Option Value)} {uD4_0 uD4_1 : Tok} {odD5 : Option Addr} {nD5 : Nat} {slD5 : Array (Option Value)} {uD5_0 uD5_1 : Tok} {odD6 : Option Addr} {nD6 : Nat} {slD6 : Array (Option Value)} {uD6_0 uD6_1 uD6_2 : Tok} {odD7 : Option Addr} {nD7 : Nat} {slD7 : Array (Option Value)} {uD7_0 uD7_1 : Tok} {odD8 : Option Addr} {nD8 : Nat} {slD8 : Array (Option Value)} {uD8_0 : Tok} {odD9 : Option Addr} {nD9 : Nat} {slD9 : Array (Option Value)} {uD9_0 uD9_1 : Tok} {odD10 : Option Addr} {nD10 : Nat} {slD10 : Array (Option Value)} {uD10_0 uD10_1 : Tok} {odD11 : Option Addr} {nD11 : Nat} {slD11 : Array (Option Value)} {uD11_0 uD11_1 : Tok}
  {odL anL : Option Addr} {slL : Array (Option Value)} {ocL kVL dcL pmL cdL ctL : Value}
  (g1 : Zci K mainGlobals "LETTERS" = some (some (.str "abcdefghijklmnopqrstuvwxyz" u1)))
  (g2 : Zci K mainGlobals "FIGURES" = some (some (.str "0123456789" u2)))
  (g3 : Zci K mainGlobals "KEPT_WORDS" = some (some (.ref p3)))
  (h3 : K.lookup p3 = some ⟨.type "tuple", od3, .seq #[.str "def" w3_0, .str "fn" w3_1, .str "call" w3_2, .str "let" w3_3, .str "rec" w3_4, .str "get" w3_5, .str "tag" w3_6, .str "case" w3_7, .str "row" w3_8, .str "at" w3_9, .str "join" w3_10, .str "size" w3_11, .str "add" w3_12, .str "sub" w3_13, .str "less" w3_14] n3, sl3⟩)
  (g4 : Zci K mainGlobals "MOST_FIGURES" = some (some (.int 60 u4)))
  (g5 : Zci K mainGlobals "MOST_SIGNS" = some (some (.int 12 u5)))
  (g6 : Zci K mainGlobals "MOST_DEFINITIONS" = some (some (.int 12 u6)))
  (g7 : Zci K mainGlobals "MOST_FIELDS" = some (some (.int 6 u7)))
  (g8 : Zci K mainGlobals "MOST_ARMS" = some (some (.int 6 u8)))
  (g9 : Zci K mainGlobals "MOST_THINGS" = some (some (.int 8 u9)))
  (g10 : Zci K mainGlobals "MOST_PLACES" = some (some (.int 160 u10)))
  (g11 : Zci K mainGlobals "MOST_NEST" = some (some (.int 24 u11)))
  (a12 : Zci K mainGlobals "words_of" = some (some (.ref f12)))
  (l12 : K.lookup f12 = some ⟨oc12, od12, .func (Zce "words_of" "words_of" (Zdg ZeL) (Zdb ZeL) (ZcX ZeL) .none kV12 dc12 pm12 an12 cd12 ct12), sl12⟩)
  (c12 : Zcf K cd12 "words_of" = true)
  (k12 : Zb4 K (.ref f12) = true)
  (a13 : Zci K mainGlobals "is_name" = some (some (.ref f13)))
  (l13 : K.lookup f13 = some ⟨oc13, od13, .func (Zce "is_name" "is_name" (Zdg Ze9) (Zdb Ze9) (ZcX Ze9) .none kV13 dc13 pm13 an13 cd13 ct13), sl13⟩)
  (c13 : Zcf K cd13 "is_name" = true)
  (k13 : Zb4 K (.ref f13) = true)
  (a14 : Zci K mainGlobals "is_number" = some (some (.ref f14)))
  (l14 : K.lookup f14 = some ⟨oc14, od14, .func (Zce "is_number" "is_number" (Zdg Zes) (Zdb Zes) (ZcX Zes) .none kV14 dc14 pm14 an14 cd14 ct14), sl14⟩)
  (c14 : Zcf K cd14 "is_number" = true)
  (k14 : Zb4 K (.ref f14) = true)
  (a15 : Zci K mainGlobals "made_of" = some (some (.ref f15)))
  (l15 : K.lookup f15 = some ⟨oc15, od15, .func (Zce "made_of" "made_of" (Zdg Zfa) (Zdb Zfa) (ZcX Zfa) .none kV15 dc15 pm15 an15 cd15 ct15), sl15⟩)
  (c15 : Zcf K cd15 "made_of" = true)
  (k15 : Zb4 K (.ref f15) = true)
  (a16 : Zci K mainGlobals "read" = some (some (.ref f16)))
  (l16 : K.lookup f16 = some ⟨oc16, od16, .func (Zce "read" "read" (Zdg ZhB) (Zdb ZhB) (ZcX ZhB) .none kV16 dc16 pm16 an16 cd16 ct16), sl16⟩)
  (c16 : Zcf K cd16 "read" = true)
  (k16 : Zb4 K (.ref f16) = true)
  (a17 : Zci K mainGlobals "check_count" = some (some (.ref f17)))
  (l17 : K.lookup f17 = some ⟨oc17, od17, .func (Zce "check_count" "check_count" (Zdg Zd0) (Zdb Zd0) (ZcX Zd0) .none kV17 dc17 pm17 an17 cd17 ct17), sl17⟩)
  (c17 : Zcf K cd17 "check_count" = true)
  (k17 : Zb4 K (.ref f17) = true)
  (a18 : Zci K mainGlobals "parts_of" = some (some (.ref f18)))
  (l18 : K.lookup f18 = some ⟨oc18, od18, .func (Zce "parts_of" "parts_of" (Zdg ZeM) (Zdb ZeM) (ZcX ZeM) .none kV18 dc18 pm18 an18 cd18 ct18), sl18⟩)
  (c18 : Zcf K cd18 "parts_of" = true)
  (k18 : Zb4 K (.ref f18) = true)
  (a19 : Zci K mainGlobals "flat" = some (some (.ref f19)))
  (l19 : K.lookup f19 = some ⟨oc19, od19, .func (Zce "flat" "flat" (Zdg ZhC) (Zdb ZhC) (ZcX ZhC) .none kV19 dc19 pm19 an19 cd19 ct19), sl19⟩)
  (c19 : Zcf K cd19 "flat" = true)
  (k19 : Zb4 K (.ref f19) = true)
  (a20 : Zci K mainGlobals "written" = some (some (.ref f20)))
  (l20 : K.lookup f20 = some ⟨oc20, od20, .func (Zce "written" "written" (Zdg Zfb) (Zdb Zfb) (ZcX Zfb) .none kV20 dc20 pm20 an20 cd20 ct20), sl20⟩)
  (c20 : Zcf K cd20 "written" = true)
  (k20 : Zb4 K (.ref f20) = true)
  (a21 : Zci K mainGlobals "texts_of" = some (some (.ref f21)))
  (l21 : K.lookup f21 = some ⟨oc21, od21, .func (Zce "texts_of" "texts_of" (Zdg ZeN) (Zdb ZeN) (ZcX ZeN) .none kV21 dc21 pm21 an21 cd21 ct21), sl21⟩)
  (c21 : Zcf K cd21 "texts_of" = true)
  (k21 : Zb4 K (.ref f21) = true)
  (a22 : Zci K mainGlobals "text_of" = some (some (.ref f22)))
  (l22 : K.lookup f22 = some ⟨oc22, od22, .func (Zce "text_of" "text_of" (Zdg Zfc) (Zdb Zfc) (ZcX Zfc) .none kV22 dc22 pm22 an22 cd22 ct22), sl22⟩)
  (c22 : Zcf K cd22 "text_of" = true)
  (k22 : Zb4 K (.ref f22) = true)
  (a23 : Zci K mainGlobals "_law_name" = some (some (.ref f23)))
  (l23 : K.lookup f23 = some ⟨oc23, od23, .func (Zce "_law_name" "_law_name" (Zdg Zet) (Zdb Zet) (ZcX Zet) .none kV23 dc23 pm23 an23 cd23 ct23), sl23⟩)
  (c23 : Zcf K cd23 "_law_name" = true)
  (k23 : Zb4 K (.ref f23) = true)
  (a24 : Zci K mainGlobals "_law_pop" = some (some (.ref f24)))
  (l24 : K.lookup f24 = some ⟨oc24, od24, .func (Zce "_law_pop" "_law_pop" (Zdg ZeO) (Zdb ZeO) (ZcX ZeO) .none kV24 dc24 pm24 an24 cd24 ct24), sl24⟩)
  (c24 : Zcf K cd24 "_law_pop" = true)
  (k24 : Zb4 K (.ref f24) = true)
  (a25 : Zci K mainGlobals "_law_many" = some (some (.ref f25)))
  (l25 : K.lookup f25 = some ⟨oc25, od25, .func (Zce "_law_many" "_law_many" (Zdg Zeu) (Zdb Zeu) (ZcX Zeu) .none kV25 dc25 pm25 an25 cd25 ct25), sl25⟩)
  (c25 : Zcf K cd25 "_law_many" = true)
  (k25 : Zb4 K (.ref f25) = true)
  (a26 : Zci K mainGlobals "_law_tree" = some (some (.ref f26)))
  (l26 : K.lookup f26 = some ⟨oc26, od26, .func (Zce "_law_tree" "_law_tree" (Zdg Zev) (Zdb Zev) (ZcX Zev) .none kV26 dc26 pm26 an26 cd26 ct26), sl26⟩)
  (c26 : Zcf K cd26 "_law_tree" = true)
  (k26 : Zb4 K (.ref f26) = true)
  (a27 : Zci K mainGlobals "_law_item" = some (some (.ref f27)))
  (l27 : K.lookup f27 = some ⟨oc27, od27, .func (Zce "_law_item" "_law_item" (Zdg Zew) (Zdb Zew) (ZcX Zew) .none kV27 dc27 pm27 an27 cd27 ct27), sl27⟩)
  (c27 : Zcf K cd27 "_law_item" = true)
  (k27 : Zb4 K (.ref f27) = true)
  (a28 : Zci K mainGlobals "_law_trees" = some (some (.ref f28)))
  (l28 : K.lookup f28 = some ⟨oc28, od28, .func (Zce "_law_trees" "_law_trees" (Zdg Zed) (Zdb Zed) (ZcX Zed) .none kV28 dc28 pm28 an28 cd28 ct28), sl28⟩)
  (c28 : Zcf K cd28 "_law_trees" = true)
  (k28 : Zb4 K (.ref f28) = true)
  (a29 : Zci K mainGlobals "_law_place" = some (some (.ref f29)))
  (l29 : K.lookup f29 = some ⟨oc29, od29, .func (Zce "_law_place" "_law_place" (Zdg Zee) (Zdb Zee) (ZcX Zee) .none kV29 dc29 pm29 an29 cd29 ct29), sl29⟩)
  (c29 : Zcf K cd29 "_law_place" = true)
  (k29 : Zb4 K (.ref f29) = true)
  (a30 : Zci K mainGlobals "_law_part" = some (some (.ref f30)))
  (l30 : K.lookup f30 = some ⟨oc30, od30, .func (Zce "_law_part" "_law_part" (Zdg Zex) (Zdb Zex) (ZcX Zex) .none kV30 dc30 pm30 an30 cd30 ct30), sl30⟩)
  (c30 : Zcf K cd30 "_law_part" = true)
  (k30 : Zb4 K (.ref f30) = true)
  (a31 : Zci K mainGlobals "_law_plain" = some (some (.ref f31)))
  (l31 : K.lookup f31 = some ⟨oc31, od31, .func (Zce "_law_plain" "_law_plain" (Zdg Zef) (Zdb Zef) (ZcX Zef) .none kV31 dc31 pm31 an31 cd31 ct31), sl31⟩)
  (c31 : Zcf K cd31 "_law_plain" = true)
  (k31 : Zb4 K (.ref f31) = true)
  (a32 : Zci K mainGlobals "_law_spread" = some (some (.ref f32)))
  (l32 : K.lookup f32 = some ⟨oc32, od32, .func (Zce "_law_spread" "_law_spread" (Zdg Zd1) (Zdb Zd1) (ZcX Zd1) .none kV32 dc32 pm32 an32 cd32 ct32), sl32⟩)
  (c32 : Zcf K cd32 "_law_spread" = true)
  (k32 : Zb4 K (.ref f32) = true)
  (a33 : Zci K mainGlobals "_law_same" = some (some (.ref f33)))
  (l33 : K.lookup f33 = some ⟨oc33, od33, .func (Zce "_law_same" "_law_same" (Zdg Zey) (Zdb Zey) (ZcX Zey) .none kV33 dc33 pm33 an33 cd33 ct33), sl33⟩)
  (c33 : Zcf K cd33 "_law_same" = true)
  (k33 : Zb4 K (.ref f33) = true)
  (a34 : Zci K mainGlobals "_law_is" = some (some (.ref f34)))
  (l34 : K.lookup f34 = some ⟨oc34, od34, .func (Zce "_law_is" "_law_is" (Zdg Zfd) (Zdb Zfd) (ZcX Zfd) .none kV34 dc34 pm34 an34 cd34 ct34), sl34⟩)
  (c34 : Zcf K cd34 "_law_is" = true)
  (k34 : Zb4 K (.ref f34) = true)
  (a35 : Zci K mainGlobals "FlowError" = some (some (.ref C35)))
  (x35 : Zch K C35 [.type "ValueError", .type "Exception", .type "BaseException", .type "object"] "ValueError.__new__" = true)
  (a36 : Zci K mainGlobals "BadText" = some (some (.ref C36)))
  (x36 : Zch K C36 [.type "ValueError", .type "Exception", .type "BaseException", .type "object"] "ValueError.__new__" = true)
  (a37 : Zci K mainGlobals "Program" = some (some (.ref C37)))
  (pg37 : ZbU K C37 Str.empty = true)
  (hd37 : ZbV K C37 = true)
  (po37 : ZbZ K C37 = true)
  (sa37 : ZbW K (.ref C37) "__setattr__" = some (some (.builtin "object.__setattr__")))
  (t1_37 : ZbW K (.ref C37) "__class__" = some (some (.builtin "object.__class__")))
  (t2_37 : Zb3 K (.builtin "object.__class__") "__get__" = some (some (.builtin "getset_descriptor.__get__")))
  (t3_37 : Zb5 K (.builtin "object.__class__") = some true)
  (t4_37 : Zb6 K C37 (.type "object") = some true)
  (n37_names : ZbW K (.ref C37) "names" = some none)
  (n37_roots : ZbW K (.ref C37) "roots" = some none)
  (n37_rows : ZbW K (.ref C37) "rows" = some none)
  (i38 : ZbW K (.ref C37) "__init__" = some (some (.ref f38)))
  (j38 : ZbY K (.ref f38) = true)
  (l38 : K.lookup f38 = some ⟨oc38, od38, .func (Zce "__init__" "Program.__init__" (Zdg Zdx) (Zdb Zdx) (ZcX Zdx) .none kV38 dc38 pm38 an38 cd38 ct38), sl38⟩)
  (c38 : Zcf K cd38 "Program.__init__" = true)
  (k38 : Zb4 K (.ref f38) = true)
  (mk37 : Zb1 K C37 = true)
  (kc37 : Zb4 K (.ref C37) = true)
  (a39 : Zci K mainGlobals "Reader" = some (some (.ref C39)))
  (pg39 : ZbU K C39 Str.empty = true)
  (hd39 : ZbV K C39 = true)
  (po39 : ZbZ K C39 = true)
  (sa39 : ZbW K (.ref C39) "__setattr__" = some (some (.builtin "object.__setattr__")))
  (t1_39 : ZbW K (.ref C39) "__class__" = some (some (.builtin "object.__class__")))
  (t2_39 : Zb3 K (.builtin "object.__class__") "__get__" = some (some (.builtin "getset_descriptor.__get__")))
  (t3_39 : Zb5 K (.builtin "object.__class__") = some true)
  (t4_39 : Zb6 K C39 (.type "object") = some true)
  (n39_words : ZbW K (.ref C39) "words" = some none)
  (n39_taken : ZbW K (.ref C39) "taken" = some none)
  (n39_rows : ZbW K (.ref C39) "rows" = some none)
  (i40 : ZbW K (.ref C39) "__init__" = some (some (.ref f40)))
  (j40 : ZbY K (.ref f40) = true)
  (l40 : K.lookup f40 = some ⟨oc40, od40, .func (Zce "__init__" "Reader.__init__" (Zdg ZdD) (Zdb ZdD) (ZcX ZdD) .none kV40 dc40 pm40 an40 cd40 ct40), sl40⟩)
  (c40 : Zcf K cd40 "Reader.__init__" = true)
  (k40 : Zb4 K (.ref f40) = true)
  (mk39 : Zb1 K C39 = true)
  (kc39 : Zb4 K (.ref C39) = true)
  (i41 : ZbW K (.ref C39) "ahead" = some (some (.ref f41)))
  (j41 : ZbY K (.ref f41) = true)
  (l41 : K.lookup f41 = some ⟨oc41, od41, .func (Zce "ahead" "Reader.ahead" (Zdg ZdV) (Zdb ZdV) (ZcX ZdV) .none kV41 dc41 pm41 an41 cd41 ct41), sl41⟩)
  (c41 : Zcf K cd41 "Reader.ahead" = true)
  (k41 : Zb4 K (.ref f41) = true)
  (i42 : ZbW K (.ref C39) "take" = some (some (.ref f42)))
  (j42 : ZbY K (.ref f42) = true)
  (l42 : K.lookup f42 = some ⟨oc42, od42, .func (Zce "take" "Reader.take" (Zdg Zd2) (Zdb Zd2) (ZcX Zd2) .none kV42 dc42 pm42 an42 cd42 ct42), sl42⟩)
  (c42 : Zcf K cd42 "Reader.take" = true)
  (k42 : Zb4 K (.ref f42) = true)
  (i43 : ZbW K (.ref C39) "pass_over" = some (some (.ref f43)))
  (j43 : ZbY K (.ref f43) = true)
  (l43 : K.lookup f43 = some ⟨oc43, od43, .func (Zce "pass_over" "Reader.pass_over" (Zdg Zdy) (Zdb Zdy) (ZcX Zdy) .none kV43 dc43 pm43 an43 cd43 ct43), sl43⟩)
  (c43 : Zcf K cd43 "Reader.pass_over" = true)
  (k43 : Zb4 K (.ref f43) = true)
  (i44 : ZbW K (.ref C39) "take_name" = some (some (.ref f44)))
  (j44 : ZbY K (.ref f44) = true)
  (l44 : K.lookup f44 = some ⟨oc44, od44, .func (Zce "take_name" "Reader.take_name" (Zdg Zdz) (Zdb Zdz) (ZcX Zdz) .none kV44 dc44 pm44 an44 cd44 ct44), sl44⟩)
  (c44 : Zcf K cd44 "Reader.take_name" = true)
  (k44 : Zb4 K (.ref f44) = true)
  (i45 : ZbW K (.ref C39) "take_expr" = some (some (.ref f45)))
  (j45 : ZbY K (.ref f45) = true)
  (l45 : K.lookup f45 = some ⟨oc45, od45, .func (Zce "take_expr" "Reader.take_expr" (Zdg ZdA) (Zdb ZdA) (ZcX ZdA) .none kV45 dc45 pm45 an45 cd45 ct45), sl45⟩)
  (c45 : Zcf K cd45 "Reader.take_expr" = true)
  (k45 : Zb4 K (.ref f45) = true)
  (i46 : ZbW K (.ref C39) "take_row" = some (some (.ref f46)))
  (j46 : ZbY K (.ref f46) = true)
  (l46 : K.lookup f46 = some ⟨oc46, od46, .func (Zce "take_row" "Reader.take_row" (Zdg ZdE) (Zdb ZdE) (ZcX ZdE) .none kV46 dc46 pm46 an46 cd46 ct46), sl46⟩)
  (c46 : Zcf K cd46 "Reader.take_row" = true)
  (k46 : Zb4 K (.ref f46) = true)
  (i47 : ZbW K (.ref C39) "take_form" = some (some (.ref f47)))
  (j47 : ZbY K (.ref f47) = true)
  (l47 : K.lookup f47 = some ⟨oc47, od47, .func (Zce "take_form" "Reader.take_form" (Zdg ZdB) (Zdb ZdB) (ZcX ZdB) .none kV47 dc47 pm47 an47 cd47 ct47), sl47⟩)
  (c47 : Zcf K cd47 "Reader.take_form" = true)
  (k47 : Zb4 K (.ref f47) = true)
  (i48 : ZbW K (.ref C39) "take_steady" = some (some (.ref f48)))
  (j48 : ZbY K (.ref f48) = true)
  (l48 : K.lookup f48 = some ⟨oc48, od48, .func (Zce "take_steady" "Reader.take_steady" (Zdg Zdo) (Zdb Zdo) (ZcX Zdo) .none kV48 dc48 pm48 an48 cd48 ct48), sl48⟩)
  (c48 : Zcf K cd48 "Reader.take_steady" = true)
  (k48 : Zb4 K (.ref f48) = true)
  (i49 : ZbW K (.ref C39) "take_fields" = some (some (.ref f49)))
  (j49 : ZbY K (.ref f49) = true)
  (l49 : K.lookup f49 = some ⟨oc49, od49, .func (Zce "take_fields" "Reader.take_fields" (Zdg Zdp) (Zdb Zdp) (ZcX Zdp) .none kV49 dc49 pm49 an49 cd49 ct49), sl49⟩)
  (c49 : Zcf K cd49 "Reader.take_fields" = true)
  (k49 : Zb4 K (.ref f49) = true)
  (i50 : ZbW K (.ref C39) "take_arms" = some (some (.ref f50)))
  (j50 : ZbY K (.ref f50) = true)
  (l50 : K.lookup f50 = some ⟨oc50, od50, .func (Zce "take_arms" "Reader.take_arms" (Zdg ZdC) (Zdb ZdC) (ZcX ZdC) .none kV50 dc50 pm50 an50 cd50 ct50), sl50⟩)
  (c50 : Zcf K cd50 "Reader.take_arms" = true)
  (k50 : Zb4 K (.ref f50) = true)
  (i51 : ZbW K (.ref C39) "take_things" = some (some (.ref f51)))
  (j51 : ZbY K (.ref f51) = true)
  (l51 : K.lookup f51 = some ⟨oc51, od51, .func (Zce "take_things" "Reader.take_things" (Zdg Zdq) (Zdb Zdq) (ZcX Zdq) .none kV51 dc51 pm51 an51 cd51 ct51), sl51⟩)
  (c51 : Zcf K cd51 "Reader.take_things" = true)
  (k51 : Zb4 K (.ref f51) = true)
  (e_BadText_BadText : PySem.W.exmOne K (.ref C36) (.ref C36) = some true)
  (i_Program_Program : Zb7 K (.ref C37) (.ref C37) = some true)
  (z_ValueError : Zci K mainGlobals "ValueError" = some none)
  (z_all : Zci K mainGlobals "all" = some none)
  (z_bool : Zci K mainGlobals "bool" = some none)
  (z_int : Zci K mainGlobals "int" = some none)
  (z_isinstance : Zci K mainGlobals "isinstance" = some none)
  (z_len : Zci K mainGlobals "len" = some none)
  (z_list : Zci K mainGlobals "list" = some none)
  (z_max : Zci K mainGlobals "max" = some none)
  (z_range : Zci K mainGlobals "range" = some none)
  (z_str : Zci K mainGlobals "str" = some none)
  (z_sum : Zci K mainGlobals "sum" = some none)
  (z_tuple : Zci K mainGlobals "tuple" = some none)
  (z_zip : Zci K mainGlobals "zip" = some none)
  (gD : Zci K mainGlobals "STEADY_FORMS" = some (some (.ref pD)))
  (sD : (pD == sysModules) = false)
  (hD : K.lookup pD = some ⟨.type "dict", none, .dict #[⟨PyData.keyHash w.params "fn", .str "fn" tD1, .ref qD1⟩, ⟨PyData.keyHash w.params "call", .str "call" tD2, .ref qD2⟩, ⟨PyData.keyHash w.params "let", .str "let" tD3, .ref qD3⟩, ⟨PyData.keyHash w.params "get", .str "get" tD4, .ref qD4⟩, ⟨PyData.keyHash w.params "tag", .str "tag" tD5, .ref qD5⟩, ⟨PyData.keyHash w.params "at", .str "at" tD6, .ref qD6⟩, ⟨PyData.keyHash w.params "join", .str "join" tD7, .ref qD7⟩, ⟨PyData.keyHash w.params "size", .str "size" tD8, .ref qD8⟩, ⟨PyData.keyHash w.params "add", .str "add" tD9, .ref qD9⟩, ⟨PyData.keyHash w.params "sub", .str "sub" tD10, .ref qD10⟩, ⟨PyData.keyHash w.params "less", .str "less" tD11, .ref qD11⟩] nD, #[]⟩)
  (hD1 : K.lookup qD1 = some ⟨.type "tuple", odD1, .seq #[.str "name" uD1_0, .str "expr" uD1_1] nD1, slD1⟩)
  (hD2 : K.lookup qD2 = some ⟨.type "tuple", odD2, .seq #[.str "expr" uD2_0, .str "expr" uD2_1] nD2, slD2⟩)
  (hD3 : K.lookup qD3 = some ⟨.type "tuple", odD3, .seq #[.str "name" uD3_0, .str "expr" uD3_1, .str "expr" uD3_2] nD3, slD3⟩)
  (hD4 : K.lookup qD4 = some ⟨.type "tuple", odD4, .seq #[.str "expr" uD4_0, .str "name" uD4_1] nD4, slD4⟩)
  (hD5 : K.lookup qD5 = some ⟨.type "tuple", odD5, .seq #[.str "name" uD5_0, .str "expr" uD5_1] nD5, slD5⟩)
  (hD6 : K.lookup qD6 = some ⟨.type "tuple", odD6, .seq #[.str "expr" uD6_0, .str "expr" uD6_1, .str "expr" uD6_2] nD6, slD6⟩)
  (hD7 : K.lookup qD7 = some ⟨.type "tuple", odD7, .seq #[.str "expr" uD7_0, .str "expr" uD7_1] nD7, slD7⟩)
  (hD8 : K.lookup qD8 = some ⟨.type "tuple", odD8, .seq #[.str "expr" uD8_0] nD8, slD8⟩)
  (hD9 : K.lookup qD9 = some ⟨.type "tuple", odD9, .seq #[.str "expr" uD9_0, .str "expr" uD9_1] nD9, slD9⟩)
  (hD10 : K.lookup qD10 = some ⟨.type "tuple", odD10, .seq #[.str "expr" uD10_0, .str "expr" uD10_1] nD10, slD10⟩)
  (hD11 : K.lookup qD11 = some ⟨.type "tuple", odD11, .seq #[.str "expr" uD11_0, .str "expr" uD11_1] nD11, slD11⟩)
  (aL : Zci K mainGlobals "law" = some (some (.ref fL))) (lL : K.lookup fL = some ⟨ocL, odL, .func (Zce "law" "law" (Zdg ZhQ) (Zdb ZhQ) (ZcX ZhQ) .none kVL dcL pmL anL cdL ctL), slL⟩) (cL : Zcf K cdL "law" = true) (kL : Zb4 K (.ref fL) = true) :
  ∃ fd : FuncData, (∀ (s : Shared) (v : Value), BindsTo s fd ⟨[v], []⟩ [("_law_script", v)]) /\ ∀ base : Heap, K.In base -> base.Ns mainGlobals mg -> ZdK l.prog w K mg base CX0 150 fa fd ["_law_script"] (Zjl K) := by
 have e := hfa.symm.trans (Zcj X G aL)
 cases e
 have T : Txt K mg := ⟨u1, Zcj X G g1,
  u2, Zcj X G g2,
  p3, Zcj X G g3, fun _ => .inr ⟨_, _, _, h3, rfl, rfl, (by show 15 <= sizeLine; decide), (.cons ⟨_, rfl⟩ (.cons ⟨_, rfl⟩ (.cons ⟨_, rfl⟩ (.cons ⟨_, rfl⟩ (.cons ⟨_, rfl⟩ (.cons ⟨_, rfl⟩ (.cons ⟨_, rfl⟩ (.cons ⟨_, rfl⟩ (.cons ⟨_, rfl⟩ (.cons ⟨_, rfl⟩ (.cons ⟨_, rfl⟩ (.cons ⟨_, rfl⟩ (.cons ⟨_, rfl⟩ (.cons ⟨_, rfl⟩ (.cons ⟨_, rfl⟩ .nil)))))))))))))))⟩,
  u4, Zcj X G g4,
  u5, Zcj X G g5,
  u6, Zcj X G g6,
  u7, Zcj X G g7,
  u8, Zcj X G g8,
  u9, Zcj X G g9,
  u10, Zcj X G g10,
  u11, Zcj X G g11,
  f12, _, Zc2 (st := ZeL) l12 c12 k12, (Zc2 (st := ZeL) l12 c12 k12).binds (ps := ["text"]) (fun _ _ _ _ _ _ => lS (fun _ => l0 rfl)), Zcj X G a12, k12,
  f13, _, Zc2 (st := Ze9) l13 c13 k13, (Zc2 (st := Ze9) l13 c13 k13).binds (ps := ["word"]) (fun _ _ _ _ _ _ => lS (fun _ => l0 rfl)), Zcj X G a13, k13,
  f14, _, Zc2 (st := Zes) l14 c14 k14, (Zc2 (st := Zes) l14 c14 k14).binds (ps := ["word"]) (fun _ _ _ _ _ _ => lS (fun _ => l0 rfl)), Zcj X G a14, k14,
  f15, _, Zc2 (st := Zfa) l15 c15 k15, (Zc2 (st := Zfa) l15 c15 k15).binds (ps := ["word", "signs"]) (fun _ _ _ _ _ _ => lS (fun _ => lS (fun _ => l0 rfl))), Zcj X G a15, k15,
  f16, _, Zc2 (st := ZhB) l16 c16 k16, (Zc2 (st := ZhB) l16 c16 k16).binds (ps := ["text"]) (fun _ _ _ _ _ _ => lS (fun _ => l0 rfl)), Zcj X G a16, k16,
  f17, _, Zc2 (st := Zd0) l17 c17 k17, (Zc2 (st := Zd0) l17 c17 k17).binds (ps := ["what", "count", "least", "most"]) (fun _ _ _ _ _ _ => lS (fun _ => lS (fun _ => lS (fun _ => lS (fun _ => l0 rfl))))), Zcj X G a17, k17,
  f18, _, Zc2 (st := ZeM) l18 c18 k18, (Zc2 (st := ZeM) l18 c18 k18).binds (ps := ["row"]) (fun _ _ _ _ _ _ => lS (fun _ => l0 rfl)), Zcj X G a18, k18,
  f19, _, Zc2 (st := ZhC) l19 c19 k19, (Zc2 (st := ZhC) l19 c19 k19).binds (ps := ["parts"]) (fun _ _ _ _ _ _ => lS (fun _ => l0 rfl)), Zcj X G a19, k19,
  f20, _, Zc2 (st := Zfb) l20 c20 k20, (Zc2 (st := Zfb) l20 c20 k20).binds (ps := ["program"]) (fun _ _ _ _ _ _ => lS (fun _ => l0 rfl)), Zcj X G a20, k20,
  f21, _, Zc2 (st := ZeN) l21 c21 k21, (Zc2 (st := ZeN) l21 c21 k21).binds (ps := ["rows"]) (fun _ _ _ _ _ _ => lS (fun _ => l0 rfl)), Zcj X G a21, k21,
  f22, _, Zc2 (st := Zfc) l22 c22 k22, (Zc2 (st := Zfc) l22 c22 k22).binds (ps := ["row", "texts"]) (fun _ _ _ _ _ _ => lS (fun _ => lS (fun _ => l0 rfl))), Zcj X G a22, k22,
  f23, _, Zc2 (st := Zet) l23 c23 k23, (Zc2 (st := Zet) l23 c23 k23).binds (ps := ["_law_cell"]) (fun _ _ _ _ _ _ => lS (fun _ => l0 rfl)), Zcj X G a23, k23,
  f24, _, Zc2 (st := ZeO) l24 c24 k24, (Zc2 (st := ZeO) l24 c24 k24).binds (ps := ["_law_stack"]) (fun _ _ _ _ _ _ => lS (fun _ => l0 rfl)), Zcj X G a24, k24,
  f25, _, Zc2 (st := Zeu) l25 c25 k25, (Zc2 (st := Zeu) l25 c25 k25).binds (ps := ["_law_stack", "_law_many_here"]) (fun _ _ _ _ _ _ => lS (fun _ => lS (fun _ => l0 rfl))), Zcj X G a25, k25,
  f26, _, Zc2 (st := Zev) l26 c26 k26, (Zc2 (st := Zev) l26 c26 k26).binds (ps := ["_law_op", "_law_arg", "_law_parts"]) (fun _ _ _ _ _ _ => lS (fun _ => lS (fun _ => lS (fun _ => l0 rfl)))), Zcj X G a26, k26,
  f27, _, Zc2 (st := Zew) l27 c27 k27, (Zc2 (st := Zew) l27 c27 k27).binds (ps := ["_law_op", "_law_arg", "_law_stack"]) (fun _ _ _ _ _ _ => lS (fun _ => lS (fun _ => lS (fun _ => l0 rfl)))), Zcj X G a27, k27,
  f28, _, Zc2 (st := Zed) l28 c28 k28, (Zc2 (st := Zed) l28 c28 k28).binds (ps := ["_law_script"]) (fun _ _ _ _ _ _ => lS (fun _ => l0 rfl)), Zcj X G a28, k28,
  f29, _, Zc2 (st := Zee) l29 c29 k29, (Zc2 (st := Zee) l29 c29 k29).binds (ps := ["_law_tree_here", "_law_rows"]) (fun _ _ _ _ _ _ => lS (fun _ => lS (fun _ => l0 rfl))), Zcj X G a29, k29,
  f30, _, Zc2 (st := Zex) l30 c30 k30, (Zc2 (st := Zex) l30 c30 k30).binds (ps := ["_law_part_here", "_law_rows"]) (fun _ _ _ _ _ _ => lS (fun _ => lS (fun _ => l0 rfl))), Zcj X G a30, k30,
  f31, _, Zc2 (st := Zef) l31 c31 k31, (Zc2 (st := Zef) l31 c31 k31).binds (ps := ["_law_part_here"]) (fun _ _ _ _ _ _ => lS (fun _ => l0 rfl)), Zcj X G a31, k31,
  f32, _, Zc2 (st := Zd1) l32 c32 k32, (Zc2 (st := Zd1) l32 c32 k32).binds (ps := ["_law_text", "_law_cell"]) (fun _ _ _ _ _ _ => lS (fun _ => lS (fun _ => l0 rfl))), Zcj X G a32, k32,
  f33, _, Zc2 (st := Zey) l33 c33 k33, (Zc2 (st := Zey) l33 c33 k33).binds (ps := ["_law_found", "_law_due"]) (fun _ _ _ _ _ _ => lS (fun _ => lS (fun _ => l0 rfl))), Zcj X G a33, k33,
  f34, _, Zc2 (st := Zfd) l34 c34 k34, (Zc2 (st := Zfd) l34 c34 k34).binds (ps := ["_law_found", "_law_names", "_law_roots", "_law_rows"]) (fun _ _ _ _ _ _ => lS (fun _ => lS (fun _ => lS (fun _ => lS (fun _ => l0 rfl))))), Zcj X G a34, k34,
  C35, Zcj X G a35, x35,
  C36, Zcj X G a36, x36,
  C37, Zcj X G a37, ⟨pg37, hd37, po37, sa37⟩, fun _ _ _ _ e => .ins e ⟨pg37, hd37, po37, sa37⟩ t1_37 t2_37 t3_37 t4_37, n37_names, n37_roots, n37_rows, f38, _, Zc2 (st := Zdx) l38 c38 k38, (Zc2 (st := Zdx) l38 c38 k38).binds (ps := ["self", "names", "roots", "rows"]) (fun _ _ _ _ _ _ => lS (fun _ => lS (fun _ => lS (fun _ => lS (fun _ => l0 rfl))))), ⟨mk37, i38, j38, kc37⟩,
  C39, Zcj X G a39, ⟨pg39, hd39, po39, sa39⟩, fun _ _ _ _ e => .ins e ⟨pg39, hd39, po39, sa39⟩ t1_39 t2_39 t3_39 t4_39, n39_words, n39_taken, n39_rows, f40, _, Zc2 (st := ZdD) l40 c40 k40, (Zc2 (st := ZdD) l40 c40 k40).binds (ps := ["self", "words"]) (fun _ _ _ _ _ _ => lS (fun _ => lS (fun _ => l0 rfl))), ⟨mk39, i40, j40, kc39⟩, f41, _, Zc2 (st := ZdV) l41 c41 k41, (Zc2 (st := ZdV) l41 c41 k41).binds (ps := ["self"]) (fun _ _ _ _ _ _ => lS (fun _ => l0 rfl)), ⟨i41, j41, k41⟩, f42, _, Zc2 (st := Zd2) l42 c42 k42, (Zc2 (st := Zd2) l42 c42 k42).binds (ps := ["self"]) (fun _ _ _ _ _ _ => lS (fun _ => l0 rfl)), ⟨i42, j42, k42⟩, f43, _, Zc2 (st := Zdy) l43 c43 k43, (Zc2 (st := Zdy) l43 c43 k43).binds (ps := ["self", "wanted"]) (fun _ _ _ _ _ _ => lS (fun _ => lS (fun _ => l0 rfl))), ⟨i43, j43, k43⟩, f44, _, Zc2 (st := Zdz) l44 c44 k44, (Zc2 (st := Zdz) l44 c44 k44).binds (ps := ["self"]) (fun _ _ _ _ _ _ => lS (fun _ => l0 rfl)), ⟨i44, j44, k44⟩, f45, _, Zc2 (st := ZdA) l45 c45 k45, (Zc2 (st := ZdA) l45 c45 k45).binds (ps := ["self", "depth"]) (fun _ _ _ _ _ _ => lS (fun _ => lS (fun _ => l0 rfl))), ⟨i45, j45, k45⟩, f46, _, Zc2 (st := ZdE) l46 c46 k46, (Zc2 (st := ZdE) l46 c46 k46).binds (ps := ["self", "depth"]) (fun _ _ _ _ _ _ => lS (fun _ => lS (fun _ => l0 rfl))), ⟨i46, j46, k46⟩, f47, _, Zc2 (st := ZdB) l47 c47 k47, (Zc2 (st := ZdB) l47 c47 k47).binds (ps := ["self", "head", "depth"]) (fun _ _ _ _ _ _ => lS (fun _ => lS (fun _ => lS (fun _ => l0 rfl)))), ⟨i47, j47, k47⟩, f48, _, Zc2 (st := Zdo) l48 c48 k48, (Zc2 (st := Zdo) l48 c48 k48).binds (ps := ["self", "parts", "depth"]) (fun _ _ _ _ _ _ => lS (fun _ => lS (fun _ => lS (fun _ => l0 rfl)))), ⟨i48, j48, k48⟩, f49, _, Zc2 (st := Zdp) l49 c49 k49, (Zc2 (st := Zdp) l49 c49 k49).binds (ps := ["self", "depth"]) (fun _ _ _ _ _ _ => lS (fun _ => lS (fun _ => l0 rfl))), ⟨i49, j49, k49⟩, f50, _, Zc2 (st := ZdC) l50 c50 k50, (Zc2 (st := ZdC) l50 c50 k50).binds (ps := ["self", "depth"]) (fun _ _ _ _ _ _ => lS (fun _ => lS (fun _ => l0 rfl))), ⟨i50, j50, k50⟩, f51, _, Zc2 (st := Zdq) l51 c51 k51, (Zc2 (st := Zdq) l51 c51 k51).binds (ps := ["self", "depth"]) (fun _ _ _ _ _ _ => lS (fun _ => lS (fun _ => l0 rfl))), ⟨i51, j51, k51⟩,
  e_BadText_BadText,
  i_Program_Program,
  Zck X G z_ValueError,
  Zck X G z_all,
  Zck X G z_bool,
  Zck X G z_int,
  Zck X G z_isinstance,
  Zck X G z_len,
  Zck X G z_list,
  Zck X G z_max,
  Zck X G z_range,
  Zck X G z_str,
  Zck X G z_sum,
  Zck X G z_tuple,
  Zck X G z_zip⟩
 exact ⟨Zce "law" "law" (Zdg ZhQ) (Zdb ZhQ) (ZcX ZhQ) .none kVL dcL pmL anL cdL ctL, fun s v => .of_eq rfl, fun base _ _ => Zpf T (ZpI (Zcj X G gD) sD hD (fun _ => .inr ⟨_, _, _, hD1, rfl, rfl, (by show 2 <= sizeLine; decide), (.cons ⟨_, rfl⟩ (.cons ⟨_, rfl⟩ .nil))⟩) (fun _ => .inr ⟨_, _, _, hD2, rfl, rfl, (by show 2 <= sizeLine; decide), (.cons ⟨_, rfl⟩ (.cons ⟨_, rfl⟩ .nil))⟩) (fun _ => .inr ⟨_, _, _, hD3, rfl, rfl, (by show 3 <= sizeLine; decide), (.cons ⟨_, rfl⟩ (.cons ⟨_, rfl⟩ (.cons ⟨_, rfl⟩ .nil)))⟩) (fun _ => .inr ⟨_, _, _, hD4, rfl, rfl, (by show 2 <= sizeLine; decide), (.cons ⟨_, rfl⟩ (.cons ⟨_, rfl⟩ .nil))⟩) (fun _ => .inr ⟨_, _, _, hD5, rfl, rfl, (by show 2 <= sizeLine; decide), (.cons ⟨_, rfl⟩ (.cons ⟨_, rfl⟩ .nil))⟩) (fun _ => .inr ⟨_, _, _, hD6, rfl, rfl, (by show 3 <= sizeLine; decide), (.cons ⟨_, rfl⟩ (.cons ⟨_, rfl⟩ (.cons ⟨_, rfl⟩ .nil)))⟩) (fun _ => .inr ⟨_, _, _, hD7, rfl, rfl, (by show 2 <= sizeLine; decide), (.cons ⟨_, rfl⟩ (.cons ⟨_, rfl⟩ .nil))⟩) (fun _ => .inr ⟨_, _, _, hD8, rfl, rfl, (by show 1 <= sizeLine; decide), (.cons ⟨_, rfl⟩ .nil)⟩) (fun _ => .inr ⟨_, _, _, hD9, rfl, rfl, (by show 2 <= sizeLine; decide), (.cons ⟨_, rfl⟩ (.cons ⟨_, rfl⟩ .nil))⟩) (fun _ => .inr ⟨_, _, _, hD10, rfl, rfl, (by show 2 <= sizeLine; decide), (.cons ⟨_, rfl⟩ (.cons ⟨_, rfl⟩ .nil))⟩) (fun _ => .inr ⟨_, _, _, hD11, rfl, rfl, (by show 2 <= sizeLine; decide), (.cons ⟨_, rfl⟩ (.cons ⟨_, rfl⟩ .nil))⟩)) (Zc2 (st := ZhQ) lL cL kL)⟩
theorem walk {l : PySem.W.OpenLaw} {q : Program} {loose : List Str} {XP : (Str -> Option Value) -> Heap -> Prop} {YP : World -> Heap -> Prop} {d : DefRec} {K : Params -> PySem.W.Frag} (hn : l.most = some 63) (hdf : d.params.defaults = [])
  (hY : ∀ (w : World) (h : Heap), YP w h -> (K w.params).In h)
  (F : ∀ (w : World) (mg : Str -> Option Value) (fa : Addr) (h : Heap), (K w.params).In h -> h.Ns mainGlobals mg -> mg d.name = some (.ref fa) ->
   ∃ fd : FuncData, (∀ (s : Shared) (u : Value), BindsTo s fd ⟨[u], []⟩ [("_law_script", u)]) /\ ∀ base : Heap, (K w.params).In base -> base.Ns mainGlobals mg -> ZdK l.prog w (K w.params) mg base CX0 150 fa fd ["_law_script"] (Zjl (K w.params))) :
  PySem.W.WalkO q loose XP YP l.row.toRowW d [] (fun f vs => PySem.call f vs) :=
 L2.Internal.walk_of (n := 63) (k := 150) (x := "_law_script") (CX := fun _ => CX0) (sp := fun w => Zjl (K w.params)) hn (by decide) hdf ⟨rfl, by decide, by decide⟩ hY F (fun _ _ a ns hl _ hS => ⟨a, ns, rfl, hS, hl, fun _ => rfl⟩) fun _ _ _ _ _ z => z
end K04.Internal
open PySem PySem.W PyProof.Rows
set_option maxRecDepth 100000 in
set_option maxHeartbeats 0 in
theorem PySem.Challenge.cw_flowkinds_k04_programs_read_holds : PySem.Challenge.rw_flowkinds_k04_programs_read.Holds := by
 w_on; o_law; k_head; (case hw => w_witness2)
 k_fill
 refine K04.Internal.walk (l := PySem.Challenge.rw_flowkinds_k04_programs_read) rfl rfl (fun w h Y => PySem.W.kIn_of Y) ?F
 case F =>
  intro w mg fa h KX G hmg
  refine' K04.Internal.all_mk KX G hmg ?g1 ?g2 ?g3 ?h3 ?g4 ?g5 ?g6 ?g7 ?g8 ?g9 ?g10 ?g11 ?a12 ?l12 ?c12 ?k12 ?a13 ?l13 ?c13 ?k13 ?a14 ?l14 ?c14 ?k14 ?a15 ?l15 ?c15 ?k15 ?a16 ?l16 ?c16 ?k16 ?a17 ?l17 ?c17 ?k17 ?a18 ?l18 ?c18 ?k18 ?a19 ?l19 ?c19 ?k19 ?a20 ?l20 ?c20 ?k20 ?a21 ?l21 ?c21 ?k21 ?a22 ?l22 ?c22 ?k22 ?a23 ?l23 ?c23 ?k23 ?a24 ?l24 ?c24 ?k24 ?a25 ?l25 ?c25 ?k25 ?a26 ?l26 ?c26 ?k26 ?a27 ?l27 ?c27 ?k27 ?a28 ?l28 ?c28 ?k28 ?a29 ?l29 ?c29 ?k29 ?a30 ?l30 ?c30 ?k30 ?a31 ?l31 ?c31 ?k31 ?a32 ?l32 ?c32 ?k32 ?a33 ?l33 ?c33 ?k33 ?a34 ?l34 ?c34 ?k34 ?a35 ?x35 ?a36 ?x36 ?a37 ?pg37 ?hd37 ?po37 ?sa37 ?t1_37 ?t2_37 ?t3_37 ?t4_37 ?n37_names ?n37_roots ?n37_rows ?i38 ?j38 ?l38 ?c38 ?k38 ?mk37 ?kc37 ?a39 ?pg39 ?hd39 ?po39 ?sa39 ?t1_39 ?t2_39 ?t3_39 ?t4_39 ?n39_words ?n39_taken ?n39_rows ?i40 ?j40 ?l40 ?c40 ?k40 ?mk39 ?kc39 ?i41 ?j41 ?l41 ?c41 ?k41 ?i42 ?j42 ?l42 ?c42 ?k42 ?i43 ?j43 ?l43 ?c43 ?k43 ?i44 ?j44 ?l44 ?c44 ?k44 ?i45 ?j45 ?l45 ?c45 ?k45 ?i46 ?j46 ?l46 ?c46 ?k46 ?i47 ?j47 ?l47 ?c47 ?k47 ?i48 ?j48 ?l48 ?c48 ?k48 ?i49 ?j49 ?l49 ?c49 ?k49 ?i50 ?j50 ?l50 ?c50 ?k50 ?i51 ?j51 ?l51 ?c51 ?k51 ?e_BadText_BadText ?i_Program_Program ?z_ValueError ?z_all ?z_bool ?z_int ?z_isinstance ?z_len ?z_list ?z_max ?z_range ?z_str ?z_sum ?z_tuple ?z_zip ?gD ?sD ?hD ?hD1 ?hD2 ?hD3 ?hD4 ?hD5 ?hD6 ?hD7 ?hD8 ?hD9 ?hD10 ?hD11 ?aL ?lL ?cL ?kL
  (case g1 => k_is)
  (case g2 => k_is)
  (case g3 => k_is)
  (case h3 => k_is)
  (case g4 => k_is)
  (case g5 => k_is)
  (case g6 => k_is)
  (case g7 => k_is)
  (case g8 => k_is)
  (case g9 => k_is)
  (case g10 => k_is)
  (case g11 => k_is)
  (case a12 => k_is)
  (case l12 => k_is)
  (case c12 => k_is)
  (case k12 => k_is)
  (case a13 => k_is)
  (case l13 => k_is)
  (case c13 => k_is)
  (case k13 => k_is)
  (case a14 => k_is)
  (case l14 => k_is)
  (case c14 => k_is)
  (case k14 => k_is)
  (case a15 => k_is)
  (case l15 => k_is)
  (case c15 => k_is)
  (case k15 => k_is)
  (case a16 => k_is)
  (case l16 => k_is)
  (case c16 => k_is)
  (case k16 => k_is)
  (case a17 => k_is)
  (case l17 => k_is)
  (case c17 => k_is)
  (case k17 => k_is)
  (case a18 => k_is)
  (case l18 => k_is)
  (case c18 => k_is)
  (case k18 => k_is)
  (case a19 => k_is)
  (case l19 => k_is)
  (case c19 => k_is)
  (case k19 => k_is)
  (case a20 => k_is)
  (case l20 => k_is)
  (case c20 => k_is)
  (case k20 => k_is)
  (case a21 => k_is)
  (case l21 => k_is)
  (case c21 => k_is)
  (case k21 => k_is)
  (case a22 => k_is)
  (case l22 => k_is)
  (case c22 => k_is)
  (case k22 => k_is)
  (case a23 => k_is)
  (case l23 => k_is)
  (case c23 => k_is)
  (case k23 => k_is)
  (case a24 => k_is)
  (case l24 => k_is)
  (case c24 => k_is)
  (case k24 => k_is)
  (case a25 => k_is)
  (case l25 => k_is)
  (case c25 => k_is)
  (case k25 => k_is)
  (case a26 => k_is)
  (case l26 => k_is)
  (case c26 => k_is)
  (case k26 => k_is)
  (case a27 => k_is)
  (case l27 => k_is)
  (case c27 => k_is)
  (case k27 => k_is)
  (case a28 => k_is)
  (case l28 => k_is)
  (case c28 => k_is)
  (case k28 => k_is)
  (case a29 => k_is)
  (case l29 => k_is)
  (case c29 => k_is)
  (case k29 => k_is)
  (case a30 => k_is)
  (case l30 => k_is)
  (case c30 => k_is)
  (case k30 => k_is)
  (case a31 => k_is)
  (case l31 => k_is)
  (case c31 => k_is)
  (case k31 => k_is)
  (case a32 => k_is)
  (case l32 => k_is)
  (case c32 => k_is)
  (case k32 => k_is)
  (case a33 => k_is)
  (case l33 => k_is)
  (case c33 => k_is)
  (case k33 => k_is)
  (case a34 => k_is)
  (case l34 => k_is)
  (case c34 => k_is)
  (case k34 => k_is)
  (case a35 => k_is)
  (case x35 => k_exc)
  (case a36 => k_is)
  (case x36 => k_exc)
  (case a37 => k_is)
  (case pg37 => k_is)
  (case hd37 => k_is)
  (case po37 => k_is)
  (case sa37 => k_is)
  (case t1_37 => k_is)
  (case t2_37 => k_is)
  (case t3_37 => k_is)
  (case t4_37 => k_is)
  (case n37_names => k_is)
  (case n37_roots => k_is)
  (case n37_rows => k_is)
  (case i38 => k_is)
  (case j38 => k_is)
  (case l38 => k_is)
  (case c38 => k_is)
  (case k38 => k_is)
  (case mk37 => k_is)
  (case kc37 => k_is)
  (case a39 => k_is)
  (case pg39 => k_is)
  (case hd39 => k_is)
  (case po39 => k_is)
  (case sa39 => k_is)
  (case t1_39 => k_is)
  (case t2_39 => k_is)
  (case t3_39 => k_is)
  (case t4_39 => k_is)
  (case n39_words => k_is)
  (case n39_taken => k_is)
  (case n39_rows => k_is)
  (case i40 => k_is)
  (case j40 => k_is)
  (case l40 => k_is)
  (case c40 => k_is)
  (case k40 => k_is)
  (case mk39 => k_is)
  (case kc39 => k_is)
  (case i41 => k_is)
  (case j41 => k_is)
  (case l41 => k_is)
  (case c41 => k_is)
  (case k41 => k_is)
  (case i42 => k_is)
  (case j42 => k_is)
  (case l42 => k_is)
  (case c42 => k_is)
  (case k42 => k_is)
  (case i43 => k_is)
  (case j43 => k_is)
  (case l43 => k_is)
  (case c43 => k_is)
  (case k43 => k_is)
  (case i44 => k_is)
  (case j44 => k_is)
  (case l44 => k_is)
  (case c44 => k_is)
  (case k44 => k_is)
  (case i45 => k_is)
  (case j45 => k_is)
  (case l45 => k_is)
  (case c45 => k_is)
  (case k45 => k_is)
  (case i46 => k_is)
  (case j46 => k_is)
  (case l46 => k_is)
  (case c46 => k_is)
  (case k46 => k_is)
  (case i47 => k_is)
  (case j47 => k_is)
  (case l47 => k_is)
  (case c47 => k_is)
  (case k47 => k_is)
  (case i48 => k_is)
  (case j48 => k_is)
  (case l48 => k_is)
  (case c48 => k_is)
  (case k48 => k_is)
  (case i49 => k_is)
  (case j49 => k_is)
  (case l49 => k_is)
  (case c49 => k_is)
  (case k49 => k_is)
  (case i50 => k_is)
  (case j50 => k_is)
  (case l50 => k_is)
  (case c50 => k_is)
  (case k50 => k_is)
  (case i51 => k_is)
  (case j51 => k_is)
  (case l51 => k_is)
  (case c51 => k_is)
  (case k51 => k_is)
  (case e_BadText_BadText => kts_exm)
  (case i_Program_Program => kit_is)
  (case z_ValueError => k_is)
  (case z_all => k_is)
  (case z_bool => k_is)
  (case z_int => k_is)
  (case z_isinstance => k_is)
  (case z_len => k_is)
  (case z_list => k_is)
  (case z_max => k_is)
  (case z_range => k_is)
  (case z_str => k_is)
  (case z_sum => k_is)
  (case z_tuple => k_is)
  (case z_zip => k_is)
  (case gD => k_is)
  (case hD => k_is)
  (case sD => rfl)
  (case hD1 => k_is)
  (case hD2 => k_is)
  (case hD3 => k_is)
  (case hD4 => k_is)
  (case hD5 => k_is)
  (case hD6 => k_is)
  (case hD7 => k_is)
  (case hD8 => k_is)
  (case hD9 => k_is)
  (case hD10 => k_is)
  (case hD11 => k_is)
  (case aL => k_is)
  (case lL => k_is)
  (case cL => k_is)
  (case kL => k_is)
